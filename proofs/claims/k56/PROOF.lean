import PyProof.Rows.All
import Wide.All
import OpenK.AllK
import PySem.Challenge.RW_usewarden_k56_nothing_needless
set_option Elab.async false
set_option linter.all false
noncomputable section
set_option compiler.extract_closed false
set_option bootstrap.genMatcherCode false
set_option maxRecDepth 100000
set_option maxHeartbeats 4000000
open Option renaming some→Sm,none→Nn
open PySem renaming Addr→so,Shared→F_,wpAny→G_,Value→KE,World→Lu,Heap→Lv,Program→Lw,Paired→LG,sizeLine→L_,Stmt→L6,Around→Mc,SetTable→Me,intKind→Mg,starEach→Mh,mainGlobals→Mn,Builtin→Mp,compareOp→Mq,IsPair→Mr,wpAny_holding→Ms,IsTupleKey→Mv,wpAny_bind→Mw,wpAny_call_entry→My,bootBuiltins→Mz,wpAny_newObj_type→MA,wpAny_rule→MB,wpAny_pure→MC,IsZip→MD,tupleKeyHash→MF,NameKind→MI,wpAny_mono→MQ,wpAny_field→MT,FuncData→MV,wpAny_seqItems→MZ,sizeLine_eq→M2,wpAny_callSpecial?_slot→M4,Result→M6,wpAny_setState_of→M9,codeAny_builtin→Nb,wpAny_setField→Nc,DictEntry→Nf,wpAny_attempt→Nm,GenState→Nq,wpAny_typeOf→Nt,wpAny_specialOf→Nu,wpAny_passesOwn→NC,ZipApart→ND,wpAny_isInstance→NE,plainId_quiet→NF,codeAny_mono→NL,wpAny_forIn_list→NQ,wpAny_ite_split→NT,wpAny_fieldsOf→NU,wpAny_setField_rec→NY,wpAny_of_eq→N1,wpAny_askSetting→N2,wpAny_setEntries_of→N3,wpAny_truthy_bool→N4,wpAny_execs_nil→N5,wpAny_Call_Name_kw→N7,wpAny_pyIter_zip→Ob,fits_of_scanBound→Oe,isSubtype_stop→Of,wpAny_typeNameOfWhole_keyiter→Oi,wpAny_updateSeq_pair→Oy,wpAny_callSpecialIfBoundUnlessNone?_slot→OB
open PySem.W renaming Frag→K_,nsIn→MP,findIn→MX,fnOf→M3,boot_heap→Nd,emptyDict→Nk,keepIn→Nl,instObj→Np
open PyProof.Rows renaming wpS_bind→Lx,wpS_pure→L9,SortSt→Mf,Keyed→Mi,arrOf→Ml,wpS_mono→Mm,pendingOf→Mo,wpS_forRange→MG,wpS_modify→M0,IntsAre→M7,wpS_get→Na,AllBare→Nj,SortKind→Ny,failedOf→Nz,wpS_lift→NG,subscriptTail_builtinR→Oa
open PySem.Value renaming ref→Ma,none→Mu,str→M1,type→M5,isStrOf→Nh,int→NA,isInt→NZ,isStrOf_shape→Om
open PySem.Txt renaming join→Mj
open PySem.PyData renaming keyHash→Mt
open PySem.Heap renaming SameBut→MH,ExtBut→Nw
open PySem.SetTable renaming below→MK,insertAt→ML,grown→Nv,Probe→NR,bits→Oj,advance→Ov
open PySem.NameKind renaming free→MM
open PySem.Builtin renaming bitNot→MR,bitAnd→N_,bitOr→N6
open PySem.Obj renaming mapSeq→MW,mapFields→NV
open PySem.Str renaming empty→Nr
open PySem.Builtin.SmallTypes renaming nextOf→Nx,ownedTupleIsFree→Oh,ownedTupleHandOut→OD
open PySem.Builtin.Str renaming occurrences→NJ,subAt→Ol
open PySem.Builtin.Tuple renaming tupleHashOf→NN,tupleExact→N9,tupleItemsOf→Oq
open PySem.SetTable.probe renaming go→NS
open PySem.Builtin.Slice renaming slicePlaces→N8,sliceAdjust→On,sliceApplied→OA
open PySem.SetTable.below renaming go→Oc
open PySem.Builtin.List renaming listExtendWith→Og,listTooLong→Ou,listItems→Oz,listLengthHint→OC
open PySem.Heap.SameBut renaming refl→Ox
open PySem.Builtin.Dict_items renaming ownsTuple→OG
theorem Gn{G:Prop}(h:∀X:Prop,(G->X)->X):G:=h G id
theorem Ws:PySem.Challenge.rw_usewarden_k56_nothing_needless.wellSaid=true:=by decide +kernel
local macro_rules|`(())=>`(by lia)
local macro_rules|`(∅)=>`(by decide)
local macro_rules|`(⋯)=>`(by decide +kernel)
local macro_rules|`($c:char)=>if c.getChar='~' then `(by simp) else throw .unsupportedSyntax
local macro_rules|`(!$n:num)=>`(nat_lit $n)
local macro_rules|`(#v[$xs,*])=>`(List.toArray [$xs,*])
local macro_rules|`(#[$xs,*])=>if xs.getElems.isEmpty then throw .unsupportedSyntax else `(⟨$xs,*⟩)
def xPat:Nat->Lean.Term->Lean.MacroM (Nat×Lean.TSyntax `rcasesPat)
 | 0,_=>Lean.Macro.throwUnsupported
 | n+1,e=>match e with
  |`($x:ident)=>do pure (1,<-`(rcasesPat| $x:ident))
  |`(_)=>do pure (1,<-`(rcasesPat| _))
  |`(#[$xs,*])=>do
   let l<-xs.getElems.mapM (xPat n)
   pure (l.foldl (·+·.1) 0,<-`(rcasesPat| ⟨$(<-l.mapM λx=>do `(Lean.Parser.Tactic.rcasesPatLo| $(x.2):rcasesPat)),*⟩))
  |_=>Lean.Macro.throwUnsupported
local macro_rules|`(tactic| let #[$xs,*]:=$e)=>do
 let p<-xPat 9 (<-`(#[$xs,*]));let q:=p.2;let t<-`(tactic| obtain $q:rcasesPat:=$e)
 if p.1<4 then pure t else `(tactic| (refine Gn λX k=>?_;$t:tactic;refine k ?_;clear k X))
def xCnt:Nat->Lean.Syntax->Nat
 | 0,_=>0
 | n+1,s=>match s with
  | .ident ..=>1
  | .node _ k a=>if k==`Lean.Parser.Tactic.rcasesPat.ignore || k==`Lean.Parser.Tactic.rcasesPat.clear then 1 else a.foldl (λm x=>m+xCnt n x) 0
  | _=>0
local macro_rules|`(tactic| rintro $ps*)=>do
 let f:=λp:Lean.TSyntax `rintroPat=>match p with
  |`(rintroPat| $q:rcasesPat)=>if q.raw.isOfKind `Lean.Parser.Tactic.rcasesPat.tuple && 3<xCnt 30 q.raw then Sm q else Nn
  | _=>Nn
 if !ps.any λp=>(f p).isSome then Lean.Macro.throwUnsupported
 let ts<-ps.mapM λp=>match f p with
  | Sm q=>`(tactic| (intro z;refine Gn λX k=>?_;(obtain $q:rcasesPat:=z)<;>(refine k ?_;clear k X)))
  | Nn=>`(tactic| rintro $p)
 `(tactic| ($[$ts:tactic];*))
local macro_rules|`(tactic| cbv)=>`(tactic| walk_at "r")
local macro_rules|`(tactic| rw?)=>`(tactic| walk_at "n")
local macro_rules|`(tactic| ∎)=>`(tactic| walk_at "g")
theorem yE1{T0:Type}{p:T0->Prop}{X:Prop}(h:∃a0,p a0)(k:∀a0,p a0->X):X:=by rcases h with ⟨a0,z⟩;exact k a0 z
theorem yI2{T0 T1:Type}{p:T0->T1->Prop}(a0:T0)(a1:T1)(h:p a0 a1):∃a0 a1,p a0 a1:=#[a0,a1,h]
theorem yE2{T0 T1:Type}{p:T0->T1->Prop}{X:Prop}(h:∃a0 a1,p a0 a1)(k:∀a0 a1,p a0 a1->X):X:=by rcases h with ⟨a0,a1,z⟩;exact k a0 a1 z
theorem yI3{T0 T1 T2:Type}{p:T0->T1->T2->Prop}(a0:T0)(a1:T1)(a2:T2)(h:p a0 a1 a2):∃a0 a1 a2,p a0 a1 a2:=#[a0,a1,a2,h]
theorem yE3{T0 T1 T2:Type}{p:T0->T1->T2->Prop}{X:Prop}(h:∃a0 a1 a2,p a0 a1 a2)(k:∀a0 a1 a2,p a0 a1 a2->X):X:=by rcases h with ⟨a0,a1,a2,z⟩;exact k a0 a1 a2 z
theorem yI4{T0 T1 T2 T3:Type}{p:T0->T1->T2->T3->Prop}(a0:T0)(a1:T1)(a2:T2)(a3:T3)(h:p a0 a1 a2 a3):∃a0 a1 a2 a3,p a0 a1 a2 a3:=#[a0,a1,a2,a3,h]
theorem yE4{T0 T1 T2 T3:Type}{p:T0->T1->T2->T3->Prop}{X:Prop}(h:∃a0 a1 a2 a3,p a0 a1 a2 a3)(k:∀a0 a1 a2 a3,p a0 a1 a2 a3->X):X:=by rcases h with ⟨a0,a1,a2,a3,z⟩;exact k a0 a1 a2 a3 z
theorem yI5{T0 T1 T2 T3 T4:Type}{p:T0->T1->T2->T3->T4->Prop}(a0:T0)(a1:T1)(a2:T2)(a3:T3)(a4:T4)(h:p a0 a1 a2 a3 a4):∃a0 a1 a2 a3 a4,p a0 a1 a2 a3 a4:=#[a0,a1,a2,a3,a4,h]
theorem yE5{T0 T1 T2 T3 T4:Type}{p:T0->T1->T2->T3->T4->Prop}{X:Prop}(h:∃a0 a1 a2 a3 a4,p a0 a1 a2 a3 a4)(k:∀a0 a1 a2 a3 a4,p a0 a1 a2 a3 a4->X):X:=by rcases h with ⟨a0,a1,a2,a3,a4,z⟩;exact k a0 a1 a2 a3 a4 z
theorem yI6{T0 T1 T2 T3 T4 T5:Type}{p:T0->T1->T2->T3->T4->T5->Prop}(a0:T0)(a1:T1)(a2:T2)(a3:T3)(a4:T4)(a5:T5)(h:p a0 a1 a2 a3 a4 a5):∃a0 a1 a2 a3 a4 a5,p a0 a1 a2 a3 a4 a5:=#[a0,a1,a2,a3,a4,a5,h]
theorem yE6{T0 T1 T2 T3 T4 T5:Type}{p:T0->T1->T2->T3->T4->T5->Prop}{X:Prop}(h:∃a0 a1 a2 a3 a4 a5,p a0 a1 a2 a3 a4 a5)(k:∀a0 a1 a2 a3 a4 a5,p a0 a1 a2 a3 a4 a5->X):X:=by rcases h with ⟨a0,a1,a2,a3,a4,a5,z⟩;exact k a0 a1 a2 a3 a4 a5 z
theorem yI7{T0 T1 T2 T3 T4 T5 T6:Type}{p:T0->T1->T2->T3->T4->T5->T6->Prop}(a0:T0)(a1:T1)(a2:T2)(a3:T3)(a4:T4)(a5:T5)(a6:T6)(h:p a0 a1 a2 a3 a4 a5 a6):∃a0 a1 a2 a3 a4 a5 a6,p a0 a1 a2 a3 a4 a5 a6:=#[a0,a1,a2,a3,a4,a5,a6,h]
theorem yE7{T0 T1 T2 T3 T4 T5 T6:Type}{p:T0->T1->T2->T3->T4->T5->T6->Prop}{X:Prop}(h:∃a0 a1 a2 a3 a4 a5 a6,p a0 a1 a2 a3 a4 a5 a6)(k:∀a0 a1 a2 a3 a4 a5 a6,p a0 a1 a2 a3 a4 a5 a6->X):X:=by rcases h with ⟨a0,a1,a2,a3,a4,a5,a6,z⟩;exact k a0 a1 a2 a3 a4 a5 a6 z
theorem yI8{T0 T1 T2 T3 T4 T5 T6 T7:Type}{p:T0->T1->T2->T3->T4->T5->T6->T7->Prop}(a0:T0)(a1:T1)(a2:T2)(a3:T3)(a4:T4)(a5:T5)(a6:T6)(a7:T7)(h:p a0 a1 a2 a3 a4 a5 a6 a7):∃a0 a1 a2 a3 a4 a5 a6 a7,p a0 a1 a2 a3 a4 a5 a6 a7:=#[a0,a1,a2,a3,a4,a5,a6,a7,h]
theorem yE8{T0 T1 T2 T3 T4 T5 T6 T7:Type}{p:T0->T1->T2->T3->T4->T5->T6->T7->Prop}{X:Prop}(h:∃a0 a1 a2 a3 a4 a5 a6 a7,p a0 a1 a2 a3 a4 a5 a6 a7)(k:∀a0 a1 a2 a3 a4 a5 a6 a7,p a0 a1 a2 a3 a4 a5 a6 a7->X):X:=by rcases h with ⟨a0,a1,a2,a3,a4,a5,a6,a7,z⟩;exact k a0 a1 a2 a3 a4 a5 a6 a7 z
theorem yI9{T0 T1 T2 T3 T4 T5 T6 T7 T8:Type}{p:T0->T1->T2->T3->T4->T5->T6->T7->T8->Prop}(a0:T0)(a1:T1)(a2:T2)(a3:T3)(a4:T4)(a5:T5)(a6:T6)(a7:T7)(a8:T8)(h:p a0 a1 a2 a3 a4 a5 a6 a7 a8):∃a0 a1 a2 a3 a4 a5 a6 a7 a8,p a0 a1 a2 a3 a4 a5 a6 a7 a8:=#[a0,a1,a2,a3,a4,a5,a6,a7,a8,h]
theorem yE9{T0 T1 T2 T3 T4 T5 T6 T7 T8:Type}{p:T0->T1->T2->T3->T4->T5->T6->T7->T8->Prop}{X:Prop}(h:∃a0 a1 a2 a3 a4 a5 a6 a7 a8,p a0 a1 a2 a3 a4 a5 a6 a7 a8)(k:∀a0 a1 a2 a3 a4 a5 a6 a7 a8,p a0 a1 a2 a3 a4 a5 a6 a7 a8->X):X:=by rcases h with ⟨a0,a1,a2,a3,a4,a5,a6,a7,a8,z⟩;exact k a0 a1 a2 a3 a4 a5 a6 a7 a8 z
theorem yI10{T0 T1 T2 T3 T4 T5 T6 T7 T8 T9:Type}{p:T0->T1->T2->T3->T4->T5->T6->T7->T8->T9->Prop}(a0:T0)(a1:T1)(a2:T2)(a3:T3)(a4:T4)(a5:T5)(a6:T6)(a7:T7)(a8:T8)(a9:T9)(h:p a0 a1 a2 a3 a4 a5 a6 a7 a8 a9):∃a0 a1 a2 a3 a4 a5 a6 a7 a8 a9,p a0 a1 a2 a3 a4 a5 a6 a7 a8 a9:=#[a0,a1,a2,a3,a4,a5,a6,a7,a8,a9,h]
theorem yE10{T0 T1 T2 T3 T4 T5 T6 T7 T8 T9:Type}{p:T0->T1->T2->T3->T4->T5->T6->T7->T8->T9->Prop}{X:Prop}(h:∃a0 a1 a2 a3 a4 a5 a6 a7 a8 a9,p a0 a1 a2 a3 a4 a5 a6 a7 a8 a9)(k:∀a0 a1 a2 a3 a4 a5 a6 a7 a8 a9,p a0 a1 a2 a3 a4 a5 a6 a7 a8 a9->X):X:=by rcases h with ⟨a0,a1,a2,a3,a4,a5,a6,a7,a8,a9,z⟩;exact k a0 a1 a2 a3 a4 a5 a6 a7 a8 a9 z
theorem yI11{T0 T1 T2 T3 T4 T5 T6 T7 T8 T9 T10:Type}{p:T0->T1->T2->T3->T4->T5->T6->T7->T8->T9->T10->Prop}(a0:T0)(a1:T1)(a2:T2)(a3:T3)(a4:T4)(a5:T5)(a6:T6)(a7:T7)(a8:T8)(a9:T9)(a10:T10)(h:p a0 a1 a2 a3 a4 a5 a6 a7 a8 a9 a10):∃a0 a1 a2 a3 a4 a5 a6 a7 a8 a9 a10,p a0 a1 a2 a3 a4 a5 a6 a7 a8 a9 a10:=#[a0,a1,a2,a3,a4,a5,a6,a7,a8,a9,a10,h]
theorem yE11{T0 T1 T2 T3 T4 T5 T6 T7 T8 T9 T10:Type}{p:T0->T1->T2->T3->T4->T5->T6->T7->T8->T9->T10->Prop}{X:Prop}(h:∃a0 a1 a2 a3 a4 a5 a6 a7 a8 a9 a10,p a0 a1 a2 a3 a4 a5 a6 a7 a8 a9 a10)(k:∀a0 a1 a2 a3 a4 a5 a6 a7 a8 a9 a10,p a0 a1 a2 a3 a4 a5 a6 a7 a8 a9 a10->X):X:=by rcases h with ⟨a0,a1,a2,a3,a4,a5,a6,a7,a8,a9,a10,z⟩;exact k a0 a1 a2 a3 a4 a5 a6 a7 a8 a9 a10 z
theorem yA2{A0 A1 X:Prop}(h:A0/\A1)(k:A0->A1->X):X:=by rcases h with ⟨h0,h1⟩;exact k h0 h1
theorem yA3{A0 A1 A2 X:Prop}(h:A0/\A1/\A2)(k:A0->A1->A2->X):X:=by rcases h with ⟨h0,h1,h2⟩;exact k h0 h1 h2
theorem yA4{A0 A1 A2 A3 X:Prop}(h:A0/\A1/\A2/\A3)(k:A0->A1->A2->A3->X):X:=by rcases h with ⟨h0,h1,h2,h3⟩;exact k h0 h1 h2 h3
theorem yA5{A0 A1 A2 A3 A4 X:Prop}(h:A0/\A1/\A2/\A3/\A4)(k:A0->A1->A2->A3->A4->X):X:=by rcases h with ⟨h0,h1,h2,h3,h4⟩;exact k h0 h1 h2 h3 h4
theorem yA6{A0 A1 A2 A3 A4 A5 X:Prop}(h:A0/\A1/\A2/\A3/\A4/\A5)(k:A0->A1->A2->A3->A4->A5->X):X:=by rcases h with ⟨h0,h1,h2,h3,h4,h5⟩;exact k h0 h1 h2 h3 h4 h5
theorem yA7{A0 A1 A2 A3 A4 A5 A6 X:Prop}(h:A0/\A1/\A2/\A3/\A4/\A5/\A6)(k:A0->A1->A2->A3->A4->A5->A6->X):X:=by rcases h with ⟨h0,h1,h2,h3,h4,h5,h6⟩;exact k h0 h1 h2 h3 h4 h5 h6
theorem yA8{A0 A1 A2 A3 A4 A5 A6 A7 X:Prop}(h:A0/\A1/\A2/\A3/\A4/\A5/\A6/\A7)(k:A0->A1->A2->A3->A4->A5->A6->A7->X):X:=by rcases h with ⟨h0,h1,h2,h3,h4,h5,h6,h7⟩;exact k h0 h1 h2 h3 h4 h5 h6 h7
theorem yA9{A0 A1 A2 A3 A4 A5 A6 A7 A8 X:Prop}(h:A0/\A1/\A2/\A3/\A4/\A5/\A6/\A7/\A8)(k:A0->A1->A2->A3->A4->A5->A6->A7->A8->X):X:=by rcases h with ⟨h0,h1,h2,h3,h4,h5,h6,h7,h8⟩;exact k h0 h1 h2 h3 h4 h5 h6 h7 h8
theorem yA10{A0 A1 A2 A3 A4 A5 A6 A7 A8 A9 X:Prop}(h:A0/\A1/\A2/\A3/\A4/\A5/\A6/\A7/\A8/\A9)(k:A0->A1->A2->A3->A4->A5->A6->A7->A8->A9->X):X:=by rcases h with ⟨h0,h1,h2,h3,h4,h5,h6,h7,h8,h9⟩;exact k h0 h1 h2 h3 h4 h5 h6 h7 h8 h9
theorem yA11{A0 A1 A2 A3 A4 A5 A6 A7 A8 A9 A10 X:Prop}(h:A0/\A1/\A2/\A3/\A4/\A5/\A6/\A7/\A8/\A9/\A10)(k:A0->A1->A2->A3->A4->A5->A6->A7->A8->A9->A10->X):X:=by rcases h with ⟨h0,h1,h2,h3,h4,h5,h6,h7,h8,h9,h10⟩;exact k h0 h1 h2 h3 h4 h5 h6 h7 h8 h9 h10
theorem yA12{A0 A1 A2 A3 A4 A5 A6 A7 A8 A9 A10 A11 X:Prop}(h:A0/\A1/\A2/\A3/\A4/\A5/\A6/\A7/\A8/\A9/\A10/\A11)(k:A0->A1->A2->A3->A4->A5->A6->A7->A8->A9->A10->A11->X):X:=by rcases h with ⟨h0,h1,h2,h3,h4,h5,h6,h7,h8,h9,h10,h11⟩;exact k h0 h1 h2 h3 h4 h5 h6 h7 h8 h9 h10 h11
theorem yA16{A0 A1 A2 A3 A4 A5 A6 A7 A8 A9 A10 A11 A12 A13 A14 A15 X:Prop}(h:A0/\A1/\A2/\A3/\A4/\A5/\A6/\A7/\A8/\A9/\A10/\A11/\A12/\A13/\A14/\A15)(k:A0->A1->A2->A3->A4->A5->A6->A7->A8->A9->A10->A11->A12->A13->A14->A15->X):X:=by rcases h with ⟨h0,h1,h2,h3,h4,h5,h6,h7,h8,h9,h10,h11,h12,h13,h14,h15⟩;exact k h0 h1 h2 h3 h4 h5 h6 h7 h8 h9 h10 h11 h12 h13 h14 h15
theorem yF1{T0:Type}{p:T0->Prop}{X:Prop}(k:∀a0,p a0->X)(h:∃a0,p a0):X:=yE1 h k
theorem yF2{T0 T1:Type}{p:T0->T1->Prop}{X:Prop}(k:∀a0 a1,p a0 a1->X)(h:∃a0 a1,p a0 a1):X:=yE2 h k
theorem yF3{T0 T1 T2:Type}{p:T0->T1->T2->Prop}{X:Prop}(k:∀a0 a1 a2,p a0 a1 a2->X)(h:∃a0 a1 a2,p a0 a1 a2):X:=yE3 h k
theorem yF4{T0 T1 T2 T3:Type}{p:T0->T1->T2->T3->Prop}{X:Prop}(k:∀a0 a1 a2 a3,p a0 a1 a2 a3->X)(h:∃a0 a1 a2 a3,p a0 a1 a2 a3):X:=yE4 h k
theorem yF5{T0 T1 T2 T3 T4:Type}{p:T0->T1->T2->T3->T4->Prop}{X:Prop}(k:∀a0 a1 a2 a3 a4,p a0 a1 a2 a3 a4->X)(h:∃a0 a1 a2 a3 a4,p a0 a1 a2 a3 a4):X:=yE5 h k
theorem yF6{T0 T1 T2 T3 T4 T5:Type}{p:T0->T1->T2->T3->T4->T5->Prop}{X:Prop}(k:∀a0 a1 a2 a3 a4 a5,p a0 a1 a2 a3 a4 a5->X)(h:∃a0 a1 a2 a3 a4 a5,p a0 a1 a2 a3 a4 a5):X:=yE6 h k
theorem yF7{T0 T1 T2 T3 T4 T5 T6:Type}{p:T0->T1->T2->T3->T4->T5->T6->Prop}{X:Prop}(k:∀a0 a1 a2 a3 a4 a5 a6,p a0 a1 a2 a3 a4 a5 a6->X)(h:∃a0 a1 a2 a3 a4 a5 a6,p a0 a1 a2 a3 a4 a5 a6):X:=yE7 h k
theorem yF8{T0 T1 T2 T3 T4 T5 T6 T7:Type}{p:T0->T1->T2->T3->T4->T5->T6->T7->Prop}{X:Prop}(k:∀a0 a1 a2 a3 a4 a5 a6 a7,p a0 a1 a2 a3 a4 a5 a6 a7->X)(h:∃a0 a1 a2 a3 a4 a5 a6 a7,p a0 a1 a2 a3 a4 a5 a6 a7):X:=yE8 h k
theorem yF9{T0 T1 T2 T3 T4 T5 T6 T7 T8:Type}{p:T0->T1->T2->T3->T4->T5->T6->T7->T8->Prop}{X:Prop}(k:∀a0 a1 a2 a3 a4 a5 a6 a7 a8,p a0 a1 a2 a3 a4 a5 a6 a7 a8->X)(h:∃a0 a1 a2 a3 a4 a5 a6 a7 a8,p a0 a1 a2 a3 a4 a5 a6 a7 a8):X:=yE9 h k
theorem yF10{T0 T1 T2 T3 T4 T5 T6 T7 T8 T9:Type}{p:T0->T1->T2->T3->T4->T5->T6->T7->T8->T9->Prop}{X:Prop}(k:∀a0 a1 a2 a3 a4 a5 a6 a7 a8 a9,p a0 a1 a2 a3 a4 a5 a6 a7 a8 a9->X)(h:∃a0 a1 a2 a3 a4 a5 a6 a7 a8 a9,p a0 a1 a2 a3 a4 a5 a6 a7 a8 a9):X:=yE10 h k
theorem yF11{T0 T1 T2 T3 T4 T5 T6 T7 T8 T9 T10:Type}{p:T0->T1->T2->T3->T4->T5->T6->T7->T8->T9->T10->Prop}{X:Prop}(k:∀a0 a1 a2 a3 a4 a5 a6 a7 a8 a9 a10,p a0 a1 a2 a3 a4 a5 a6 a7 a8 a9 a10->X)(h:∃a0 a1 a2 a3 a4 a5 a6 a7 a8 a9 a10,p a0 a1 a2 a3 a4 a5 a6 a7 a8 a9 a10):X:=yE11 h k
theorem yB2{A0 A1 X:Prop}(k:A0->A1->X)(h:A0/\A1):X:=yA2 h k
theorem yB3{A0 A1 A2 X:Prop}(k:A0->A1->A2->X)(h:A0/\A1/\A2):X:=yA3 h k
theorem yB4{A0 A1 A2 A3 X:Prop}(k:A0->A1->A2->A3->X)(h:A0/\A1/\A2/\A3):X:=yA4 h k
theorem yB5{A0 A1 A2 A3 A4 X:Prop}(k:A0->A1->A2->A3->A4->X)(h:A0/\A1/\A2/\A3/\A4):X:=yA5 h k
theorem yB6{A0 A1 A2 A3 A4 A5 X:Prop}(k:A0->A1->A2->A3->A4->A5->X)(h:A0/\A1/\A2/\A3/\A4/\A5):X:=yA6 h k
theorem yB7{A0 A1 A2 A3 A4 A5 A6 X:Prop}(k:A0->A1->A2->A3->A4->A5->A6->X)(h:A0/\A1/\A2/\A3/\A4/\A5/\A6):X:=yA7 h k
theorem yB8{A0 A1 A2 A3 A4 A5 A6 A7 X:Prop}(k:A0->A1->A2->A3->A4->A5->A6->A7->X)(h:A0/\A1/\A2/\A3/\A4/\A5/\A6/\A7):X:=yA8 h k
theorem yB9{A0 A1 A2 A3 A4 A5 A6 A7 A8 X:Prop}(k:A0->A1->A2->A3->A4->A5->A6->A7->A8->X)(h:A0/\A1/\A2/\A3/\A4/\A5/\A6/\A7/\A8):X:=yA9 h k
theorem yB10{A0 A1 A2 A3 A4 A5 A6 A7 A8 A9 X:Prop}(k:A0->A1->A2->A3->A4->A5->A6->A7->A8->A9->X)(h:A0/\A1/\A2/\A3/\A4/\A5/\A6/\A7/\A8/\A9):X:=yA10 h k
theorem yB11{A0 A1 A2 A3 A4 A5 A6 A7 A8 A9 A10 X:Prop}(k:A0->A1->A2->A3->A4->A5->A6->A7->A8->A9->A10->X)(h:A0/\A1/\A2/\A3/\A4/\A5/\A6/\A7/\A8/\A9/\A10):X:=yA11 h k
theorem yB12{A0 A1 A2 A3 A4 A5 A6 A7 A8 A9 A10 A11 X:Prop}(k:A0->A1->A2->A3->A4->A5->A6->A7->A8->A9->A10->A11->X)(h:A0/\A1/\A2/\A3/\A4/\A5/\A6/\A7/\A8/\A9/\A10/\A11):X:=yA12 h k
theorem yB16{A0 A1 A2 A3 A4 A5 A6 A7 A8 A9 A10 A11 A12 A13 A14 A15 X:Prop}(k:A0->A1->A2->A3->A4->A5->A6->A7->A8->A9->A10->A11->A12->A13->A14->A15->X)(h:A0/\A1/\A2/\A3/\A4/\A5/\A6/\A7/\A8/\A9/\A10/\A11/\A12/\A13/\A14/\A15):X:=yA16 h k
section
open PySem
abbrev LH:=KE→F_→Prop
abbrev LI:=List Str
abbrev LJ:=List Nat
abbrev LL:=List so
abbrev LN:=List KE
abbrev LO:=Option KE
abbrev LQ:=Option Int
abbrev LS:=List Int
abbrev LW:=Option Nat
abbrev LX:=List Expr
abbrev LY:=Array KE
abbrev LZ:=Option so
abbrev Lr:=Array Nat
end
namespace L2
open PySem PySem.W
variable{α:Type}
theorem zu1(us:List α)(hl:us.length=1):∃ a,us=[a]:=match us,hl with | [a],_=>⟨a,rfl⟩
theorem zu2(us:List α)(hl:us.length=2):∃ a b,us=[a,b]:=match us,hl with | [a,b],_=>yI2 a b rfl
theorem zu3(us:List α)(hl:us.length=3):∃ a b c,us=[a,b,c]:=match us,hl with | [a,b,c],_=>yI3 a b c rfl
theorem zu4(us:List α)(hl:us.length=4):∃ a b c d,us=[a,b,c,d]:=match us,hl with | [a,b,c,d],_=>yI4 a b c d rfl
theorem zu5(us:List α)(hl:us.length=5):∃ a b c d e,us=[a,b,c,d,e]:=match us,hl with | [a,b,c,d,e],_=>yI5 a b c d e rfl
abbrev KL:=@PySem.wpAny_bind
abbrev KO:=@List.getElem?_eq_some_iff
abbrev KP:=@PySem.wpAny_pure
abbrev KQ:=@_root_.if_neg
abbrev KU:=@List.mem_singleton
abbrev KZ:=@_root_.if_pos
abbrev K2:=@List.mem_flatMap
abbrev K3:=@List.mem_map
abbrev K7:=@List.mem_cons
abbrev K8:=@List.mem_append
abbrev Lb:=@Option.map_eq_some_iff
abbrev Le:=@List.mem_iff_getElem
abbrev Lg:=@List.mem_range
abbrev Lh:=@List.mem_filter
abbrev Li:=@Array.mem_toList_iff
abbrev Lj:=@Array.perm_iff_toList_perm
abbrev Lk:=@List.map_eq_nil_iff
abbrev Ll:=@Bool.eq_false_iff
abbrev Ln:=@List.idxOf_lt_length_iff
abbrev Lo:=@List.nodup_cons
abbrev ze:=@List.length_map
abbrev zg:=@List.getElem?_eq_getElem
abbrev zu:=@Nat.le_refl
abbrev jn:=@List.length_append
abbrev ye:=@List.length_cons
abbrev yf:=@List.getElem?_map
abbrev yk:=@List.mem_cons
abbrev yo:=@Lv.lt_size
abbrev yy:=@List.mem_cons_self
abbrev yH:=@List.map_append
abbrev yK:=@Lv.get?_push_of_some
abbrev yS:=@List.mem_cons_of_mem
abbrev yT:=@List.not_mem_nil
abbrev yU:=@List.length_nil
abbrev yX:=@List.map_cons
abbrev xb:=@Lv.get?_push_size
abbrev xg:=@Nat.ne_of_lt
abbrev xl:=@F.plainAttrs_list
abbrev xm:=@PassesOwn.never
abbrev xE:=@Nat.le_of_lt
abbrev xF:=@List.getElem_mem
abbrev xH:=@Nat.le_trans
abbrev xO:=@Bool.false_ne_true
abbrev xR:=@List.getElem?_append_left
abbrev xU:=@List.size_toArray
abbrev xV:=@List.getD_eq_getElem?_getD
abbrev gV:=@Nat.zero_le
abbrev me:=@List.mem_of_getElem?
abbrev mi:=@Int.toNat_natCast
abbrev ms:=@Nat.zero_add
abbrev mB:=@F.slot_list_append
abbrev mF:=@F.type_list_append
abbrev nS:=@List.mem_append_right
abbrev ui:=@Array.length_toList
abbrev uC:=@List.getElem?_append_right
abbrev uP:=@List.append_assoc
abbrev uW:=@Ne.symm
abbrev oq:=@List.map_map
abbrev oy:=@Array.getElem_mem_toList
abbrev oG:=@Nat.lt_of_lt_of_le
abbrev oS:=@Nat.add_assoc
abbrev oY:=@Array.toList_append
abbrev oZ:=@List.mem_nil_iff
abbrev td:=@Bool.false_eq_true
abbrev tO:=@List.take_length
abbrev tV:=@Lv.size_push
abbrev rT:=@List.take_add_one
abbrev sE:=@List.mem_append_left
abbrev sF:=@List.append_nil
abbrev sQ:=@List.length_take
abbrev la:=@Array.getElem?_eq_getElem
abbrev ir:=@List.cons_append
abbrev ix:=@Lv.SameBut.update
abbrev iS:=@List.sum_cons
abbrev HU:=@Nat.lt_or_ge
abbrev HS:=@List.take_of_length_le
abbrev Ic:=@Nat.mul_add
abbrev IC:=@W.kia_one
abbrev Iu:=@Lv.get?_update_self
abbrev Ip:=@Array.getElem?_toList
abbrev Ih:=@List.nodup_nil
abbrev Ii:=@W.mg_none_of
abbrev II:=@Nat.ne_of_gt
abbrev IJ:=@List.nodup_cons
abbrev IE:=@List.take_append_drop
abbrev IH:=@List.filter_append
abbrev ID:=@List.nodup_append
abbrev IZ:=@List.mem_append
abbrev IT:=@List.map_nil
abbrev Jd:=@Mc.under_plainId
abbrev Jj:=@List.length_singleton
abbrev Ji:=@Nat.not_lt_zero
abbrev Jl:=@Array.size_extract
abbrev Jh:=@Array.toList_push
abbrev Jp:=@Nat.lt_succ_of_lt
abbrev Jr:=@Obj.data_mapFields
abbrev JK:=@KE.isInt_shape
abbrev Jw:=@Nat.lt_irrefl
abbrev Jx:=@List.length_drop
abbrev KI:=@Bool.and_eq_true
abbrev JO:=@List.lookup_cons
abbrev Js:=@List.getElem?_eq_none
abbrev JL:=@Nat.sub_self
abbrev JP:=@List.take_succ_cons
abbrev JB:=@List.length_range
abbrev KJ:=@F.slot_list_extend
abbrev KG:=@F.type_list_extend
abbrev KD:=@List.flatMap_cons
abbrev JI:=@Str.length_append
abbrev zaJ:=@LG.length
abbrev zaK:=@Bool.eq_iff_iff
abbrev zaL:=@List.length_replicate
abbrev zaM:=@List.find?_cons
abbrev zaN:=@Bool.not_true
abbrev zaO:=@PyProof.Rows.F.plain_set_update_loop
abbrev zaP:=@List.eq_nil_of_length_eq_zero
abbrev zaQ:=@Obj.isFreed_of_fields
abbrev zaR:=@List.getElem?_cons_succ
abbrev zaS:=@List.foldl_cons
abbrev zaT:=@Int.emod_nonneg
abbrev zaU:=@Int.emod_lt_of_pos
abbrev zaV:=@PyProof.Rows.callWith_type1
abbrev zaW:=@Nat.lt_succ_self
abbrev zaX:=@PySem.mem_of_lookup
abbrev zaY:=@List.getElem?_replicate
abbrev zaZ:=@Lv.get?_update_other
abbrev za0:=@List.any_cons
abbrev za1:=@W.mg_of
abbrev za2:=@Nat.le_add_right
abbrev za3:=@Obj.cls_mapFields
abbrev za4:=@List.drop_eq_getElem_cons
abbrev za5:=@Nat.testBit_two_pow
abbrev za6:=@List.take_succ_eq_append_getElem
abbrev za7:=@List.dropLast_concat_getLast
abbrev za8:=@List.getElem?_set_ne
abbrev za9:=@List.mem_singleton
abbrev zba:=@Array.forIn_toList
abbrev zbb:=@List.zip_cons_cons
abbrev zbc:=@PyProof.Rows.F.entry_set_update_loop
abbrev zbd:=@Array.getElem?_eq_none
abbrev zbe:=@F.plain_list_iadd
abbrev zbf:=@F.slot_tuple_iterator_next
abbrev zbg:=@List.zipIdx_cons
abbrev zbh:=@F.slot_zip_next
abbrev zbi:=@F.slot_dict_keyiterator_next
abbrev zbj:=@Array.toList_extract
abbrev zbk:=@Classical.choose_spec
abbrev zbl:=@Nat.add_sub_cancel_left
abbrev zbm:=@List.foldl_append
abbrev zbn:=@List.flatMap_append
abbrev zbo:=@List.getElem?_set_self
abbrev zbp:=@Int.fdiv_eq_ediv_of_nonneg
abbrev zbq:=@Calls.callWith_builtin
abbrev zbr:=@List.all_eq_true
abbrev zbs:=@F.slot_list_index
abbrev zbt:=@Classical.byContradiction
abbrev zbu:=@Calls.call_function_entry
abbrev zbv:=@F.plainAttrs_str
abbrev zbw:=@PyProof.Rows.slot_tuple_getitem
section
variable(tb:String->Option Mp)(p:Lw)(w:Lu)(n0:Nat)(an:LO)
noncomputable def yF:Nat->SharedT->Thread->Option SharedT
 | 0,_,_=>Nn
 | k+1,s,u=>match through u with
  | true=>Sm s
  | false=>match stepOk n0 an u,stepT (denote tb) p w s u with
   | true,Sm x=>yF k x.1 x.2
   | _,_=>Nn
theorem q9:∀(n:Nat) (s r:SharedT) (t:Thread),yF tb p w n0 an n s t=Sm r->topRun tb p w n0 an n s.abs t=Sm r.abs
 | 0,_,_,_,h=>by cases h
 | n+1,s,r,t,h=>by
  rw[topRun];rw[yF]at h;cases h1:through t with
  | true=>
   rw[h1]at h;cases h
   rfl
  | false=>
   rw[h1]at h;cases h2:stepOk n0 an t with
   | false=>
    rw[h2]at h;cases h
   | true=>
    cases h3:stepT (denote tb) p w s t with
    | none=>
     rw[h2,h3]at h;cases h
    | some x=>
     rw[h2,h3]at h;rw[stepT_spec (s':=x.1) (t':=x.2) h3];exact q9 n _ _ _ h
end
noncomputable def Kx(P:Params):BT:=((Nd P).objs.toList.foldl (λ(x:BT×Nat) o=>(x.1.ins x.2 o,x.2+1)) (.nil,0)).1
noncomputable def DY(w:Lu)(os:OsState):SharedT:=#[Kx w.params,11,(Nd w.params).life,#[],boot_drawn,boot_toks,os]
theorem zy(w:Lu)(os:OsState):(DY w os).abs=#[Nd w.params,#[],boot_drawn,boot_toks,os]:=by kernel_rfl
noncomputable def tEnd(p:Lw)(w:Lu)(N:Nat)(os:OsState):Option SharedT:=yF treeTable p w 11 (Sm (.ref 6)) N (DY w os) (topStub p)
noncomputable def tOk(p:Lw)(w:Lu)(s:F_):Bool:=staticsOk (importedModules p.main.body) (Nd w.params) s.heap&&namesBound p s.heap&&gensDone s&&laidKept (Nd w.params) s.heap
theorem tLeft{p:Lw}{w:Lu}{N:Nat}{F:F_->α}{a:α}(e:opening p=plainProg p.main.scope.names)(U:Nat.ble 600 N=true)(f:∀s,fenceModules? p s=Sm s)
  (hz:((Nd w.params).isNs Mn,(Nd w.params).objs.size,(Nd w.params).nsMap Mn "__annotations__")=(true,11,Sm (.ref 6)))
  (h:∀os,∃s,tEnd p w N os=Sm s/\tOk p w s.abs=true/\F s.abs=a):(openEnds treeTable p w N).map F=Sm a:=by
 let#[#[h1,gs,d,k,os],Y,e2]:=Lb.mp (boot_open e U f w);obtain⟨rfl,rfl,rfl,rfl⟩ : h1=Nd w.params/\gs = #[]/\d=boot_drawn/\k=boot_toks:=by simpa using e2
 obtain⟨Z,J,z3⟩ : _/\_/\_:=by simpa only[Prod.mk.injEq] using hz
 refine yE1 (h os) λr=>yB3 λO S W=>?_;have t1:=q9 _ _ _ _ _ _ _ _ _ O;rw[zy]at t1;unfold openEnds;rw[Y];show (topFrom treeTable p w N _).map F=_;unfold topFrom;dsimp only;rw[Z,J,z3];show ((topRun treeTable p w 11 (Sm (.ref 6)) N _ _).bind _).map F=_;rw[t1];show (match tOk p w r.abs with | true=>Sm r.abs | false=>Nn).map F=_;rw[S];exact congrArg Sm W
end L2
namespace L2
open PySem
noncomputable def inClass(s:L6)(j:Nat):L6:=match s with
 | .ClassDef _ _ _ body _ _ _ _ _ _ _=>body.getD j (.Pass #[0,0,0,0])
 | _=>.Pass #[0,0,0,0]
noncomputable def Da(s:L6):Arguments:=match s with
 | .FunctionDef _ a _ _ _ _ _ _ _ _=>a
 | _=>{posonlyargs:=[],args:=[],vararg:=Nn,kwonlyargs:=[],kw_defaults:=[],kwarg:=Nn,defaults:=[]}
noncomputable def Cs(s:L6):List L6:=match s with
 | .FunctionDef _ _ b _ _ _ _ _ _ _=>b
 | _=>[]
noncomputable def rd(s:L6):Scope:=match s with
 | .FunctionDef _ _ _ _ _ _ sc _ _ _=>sc
 | _=>{kind:=.function,names:=[],isGenerator:=false,isCoroutine:=false}
end L2
namespace K56
open PySem PySem.W
noncomputable def top (i:Nat):L6:=PySem.Challenge.pw_usewarden_k56_nothing_needless.main.body.getD i (.Pass #[0,0,0,0])
noncomputable abbrev A1(x:LY):Obj:=#[.type "tuple",Nn,.seq x 0,#[]]
noncomputable abbrev Ga(n:Str)(a b c:Nat)(l g:Int)(p q r s u:so)(i:Int)(d:Nat):Obj:=#[.type "code",Nn,.fields #v[.str n a,.str n b,.str "/claim/cut.py" c,.int l 0,.int g 0,.int 0 0,.int 0 0,.int 3 0,.ref p,.bool true,.int 181 0,.ref q,.none,.ref r,.ref s,.ref u,.int i 0,.int l 0,.str "/claim/cut.py" d],#[]]
noncomputable abbrev Eb(n:Str)(i:Nat)(m:Str)(a:Nat)(c:so):Obj:=#[.type "function",Nn,.func #[n,n,L2.Da (top i),.stmts (L2.Cs (top i)),L2.rd (top i),3,[],.none,.none,.none,.str m a,Nn,.ref c,.none,0],#[]]
noncomputable abbrev LB(P:Params)(n:Str)(a:Nat)(v:KE):Nf:=#[Mt P n,.str n a,v]
noncomputable abbrev LD(n q:Str)(i j:Nat)(d:KE)(m:Str)(a:Nat)(c:so):Obj:=#[.type "function",Nn,.func #[n,q,L2.Da (L2.inClass (top i) j),.stmts (L2.Cs (L2.inClass (top i) j)),L2.rd (L2.inClass (top i) j),3,[],d,.none,.none,.str m a,Nn,.ref c,.none,0],#[]]
noncomputable abbrev LF(n:Str)(a:Nat)(q:Str)(b c:Nat)(l g:Int)(p u r s v:so)(i:Int)(d:Nat):Obj:=#[.type "code",Nn,.fields #v[.str n a,.str q b,.str "/claim/cut.py" c,.int l 0,.int g 0,.int 0 0,.int 0 0,.int 3 0,.ref p,.bool true,.int 181 0,.ref u,.none,.ref r,.ref s,.ref v,.int i 0,.int l 0,.str "/claim/cut.py" d],#[]]
noncomputable abbrev wAA(l:List Str)(n:Nat):Obj:=A1 ((l.zipIdx n).map λp=>.str p.1 p.2).toArray
noncomputable abbrev wAB:Obj:=A1 #[]
noncomputable abbrev wAC(n:Str)(a:Nat)(l g:Int)(p i:Nat):Obj:=Ga n a (a+1) (a+2) l g p (p+1) (p+2) (p+3) (p+4) i (i+1)
noncomputable abbrev wAD(n:Str)(a:Nat)(l g:Int)(p:Nat):Obj:=#[.type "code",Nn,.fields #v[.str n a,.str n (a+1),.str "/claim/cut.py" (a+2),.int l 0,.int g 0,.int 0 0,.int 0 0,.int 3 0,.ref p,.bool true,.int 181 0,.ref (p+1),.none,.none,.none,.ref (p+2),.int (a+3:Nat) 0,.int l 0,.str "/claim/cut.py" (a+4)],#[]]
noncomputable abbrev wAE:Str:="law_usewarden_k56_nothing_needless"
noncomputable abbrev wAF:Str:="usewarden.tokens"
noncomputable abbrev wAG:Str:="usewarden.papers"
noncomputable abbrev wAH:Str:="usewarden.programs"
noncomputable abbrev wAI:Str:="usewarden.numbered"
noncomputable abbrev wAJ:Str:="usewarden.codes"
noncomputable def KK(P:Params):Frag:=
 (!2,#[.none,Nn,.dict #[] 0,#[]])::(!3,#[.type "dict",Nn,.dict #v[LB P "__name__" 165 (.str wAE 634),LB P "__doc__" 166 .none,LB P "__package__" 167 .none,LB P "__loader__" 168 (.builtin "__main__.__loader__#opaque"),LB P "__spec__" 169 .none,LB P "__annotations__" 170 (.ref 6),LB P "__builtins__" 171 (.ref 4),LB P "__file__" 173 (.str "/claim/cut.py" 172),LB P "__cached__" 174 .none,LB P "next_room" 198 (.ref 21),LB P "room_from" 208 (.ref 28),LB P "is_in" 218 (.ref 35),LB P "without" 226 (.ref 42),LB P "held_behind" 234 (.ref 49),LB P "is_of_two" 241 (.ref 56),LB P "has_room" 248 (.ref 63),LB P "texts_done" 254 (.ref 68),LB P "texts_at" 262 (.ref 75),LB P "room_behind" 271 (.ref 82),LB P "begun_by_open" 285 (.ref 89),LB P "begun_by_tie" 291 (.ref 94),LB P "begins_at" 303 (.ref 101),LB P "behind_at" 309 (.ref 106),LB P "rows_behind" 318 (.ref 113),LB P "made_of" 332 (.ref 120),LB P "put" 344 (.ref 127),LB P "paper_of" 350 (.ref 132),LB P "PARTS" 385 (.ref 133),LB P "CLOSERS" 396 (.ref 142),LB P "closers_of" 403 (.ref 152),LB P "head_of" 410 (.ref 159),LB P "blocks_of" 417 (.ref 166),LB P "steps_within" 427 (.ref 173),LB P "names_in" 438 (.ref 180),LB P "lines_of" 444 (.ref 185),LB P "names_of" 451 (.ref 192),LB P "NumberedStep" 487 (.ref 209),LB P "line_behind" 495 (.ref 220),LB P "numbered_step" 507 (.ref 227),LB P "numbered_steps" 517 (.ref 234),LB P "lend_lines" 525 (.ref 239),LB P "slots_of" 535 (.ref 246),LB P "simple_row" 541 (.ref 251),LB P "lend_rows" 558 (.ref 258),LB P "if_rows" 573 (.ref 265),LB P "loop_rows" 584 (.ref 272),LB P "while_rows" 597 (.ref 279),LB P "rows_of" 610 (.ref 286),LB P "rows_and_end" 619 (.ref 293),LB P "code_of" 626 (.ref 300),LB P "turned_code" 633 (.ref 307),LB P "_law_cell_at" 643 (.ref 314),LB P "_law_words" 649 (.ref 319),LB P "_law_step" 663 (.ref 326),LB P "_law_put" 671 (.ref 333),LB P "_law_close" 682 (.ref 340),LB P "_law_program" 696 (.ref 347),LB P "_law_rule" 716 (.ref 354),LB P "_law_has" 724 (.ref 361),LB P "_law_sum_behind" 733 (.ref 368),LB P "_law_next" 742 (.ref 375),LB P "_law_texts" 751 (.ref 382),LB P "_law_room" 762 (.ref 389),LB P "_law_behind" 773 (.ref 396),LB P "_law_begun" 786 (.ref 403),LB P "_law_after" 794 (.ref 410),LB P "_law_code" 800 (.ref 415),LB P "_law_put_all" 812 (.ref 422),LB P "_law_come" 818 (.ref 427),LB P "law" 824 (.ref 432)] 70,#[]])::(!15,wAB)::(!17,wAA ["rule","room","text","words"] 192)::(!18,wAB)::(!20,wAC "next_room" 189 2 3 15 196)::(!21,Eb "next_room" 1 "usewarden.rules" 187 20)::(!22,wAB)::(!24,wAA ["rule","room","row","text"] 202)::(!25,wAB)::(!27,wAC "room_from" 199 7 3 22 206)::(!28,Eb "room_from" 2 "usewarden.rules" 187 27)::(!29,wAB)::(!31,wAA ["slot","held"] 214)::(!32,wAB)::(!34,wAC "is_in" 211 14 2 29 216)::(!35,Eb "is_in" 4 wAF 209 34)::(!36,wAB)::(!38,wAA ["slot","held"] 222)::(!39,wAB)::(!41,wAC "without" 219 16 2 36 224)::(!42,Eb "without" 5 wAF 209 41)::(!43,wAB)::(!45,wAA ["row","held"] 230)::(!46,wAB)::(!48,wAC "held_behind" 227 18 2 43 232)::(!49,Eb "held_behind" 6 wAF 209 48)::(!50,wAB)::(!52,wAA ["token"] 238)::(!53,wAB)::(!55,wAC "is_of_two" 235 24 1 50 239)::(!56,Eb "is_of_two" 7 wAF 209 55)::(!57,wAB)::(!59,wAA ["token"] 245)::(!60,wAB)::(!62,wAC "has_room" 242 26 1 57 246)::(!63,Eb "has_room" 8 wAF 209 62)::(!64,wAB)::(!67,wAD "texts_done" 249 28 2 64)::(!68,Eb "texts_done" 9 wAF 209 67)::(!69,wAB)::(!71,wAA ["row","token"] 258)::(!72,wAB)::(!74,wAC "texts_at" 255 34 2 69 260)::(!75,Eb "texts_at" 10 wAF 209 74)::(!76,wAB)::(!78,wAA ["rule","row","token"] 266)::(!79,wAB)::(!81,wAC "room_behind" 263 42 3 76 269)::(!82,Eb "room_behind" 11 wAF 209 81)::(!83,wAB)::(!85,wAA ["rule","slot","tokens","new","room","begun","token","held"] 275)::(!86,wAB)::(!88,wAC "begun_by_open" 272 44 3 83 283)::(!89,Eb "begun_by_open" 12 wAF 209 88)::(!90,wAB)::(!93,wAD "begun_by_tie" 286 56 3 90)::(!94,Eb "begun_by_tie" 13 wAF 209 93)::(!95,wAB)::(!97,wAA ["code","rule","at","tokens","row","begun"] 295)::(!98,wAB)::(!100,wAC "begins_at" 292 59 4 95 301)::(!101,Eb "begins_at" 14 wAF 209 100)::(!102,wAB)::(!105,wAD "behind_at" 304 67 4 102)::(!106,Eb "behind_at" 15 wAF 209 105)::(!107,wAB)::(!109,wAA ["code","at","row"] 313)::(!110,wAB)::(!112,wAC "rows_behind" 310 77 2 107 316)::(!113,Eb "rows_behind" 16 wAF 209 112)::(!114,wAB)::(!116,wAA ["code","rule","at","token","begun","behind"] 324)::(!117,wAB)::(!119,wAC "made_of" 321 87 4 114 330)::(!120,Eb "made_of" 18 wAG 319 119)::(!121,wAB)::(!123,wAA ["found","rows","tokens","new","at","token"] 336)::(!124,wAB)::(!126,wAC "put" 333 91 3 121 342)::(!127,Eb "put" 19 wAG 319 126)::(!128,wAB)::(!131,wAD "paper_of" 345 99 2 128)::(!132,Eb "paper_of" 20 wAG 319 131)::(!133,#[.type "dict",Nn,.dict #v[LB P "open" 353 (.ref 134),LB P "do" 355 (.ref 135),LB P "copy" 358 (.ref 136),LB P "drop" 361 (.ref 137),LB P "tie" 363 (.ref 138),LB P "lend" 366 (.ref 139),LB P "if" 370 (.ref 140),LB P "while" 374 (.ref 141)] 8,#[]])::(!134,wAA ["name"] 354)::(!135,wAA ["word","name"] 356)::(!136,wAA ["name","name"] 359)::(!137,wAA ["name"] 362)::(!138,wAA ["name","name"] 364)::(!139,wAA ["name","name","steps"] 367)::(!140,wAA ["bound","steps","steps"] 371)::(!141,wAA ["bound","steps"] 375)::(!142,#[.type "dict",Nn,.dict #v[LB P "lend" 386 (.ref 143),LB P "if" 388 (.ref 144),LB P "while" 391 (.ref 145)] 3,#[]])::(!143,wAA ["back"] 387)::(!144,wAA ["else","fi"] 389)::(!145,wAA ["done"] 392)::(!146,wAB)::(!148,wAA ["kind"] 400)::(!149,wAB)::(!151,wAC "closers_of" 397 112 1 146 401)::(!152,Eb "closers_of" 24 wAH 351 151)::(!153,wAB)::(!155,wAA ["step"] 407)::(!156,wAB)::(!158,wAC "head_of" 404 114 1 153 408)::(!159,Eb "head_of" 25 wAH 351 158)::(!160,wAB)::(!162,wAA ["step"] 414)::(!163,wAB)::(!165,wAC "blocks_of" 411 116 1 160 415)::(!166,Eb "blocks_of" 26 wAH 351 165)::(!167,wAB)::(!169,wAA ["program","steps","step","block"] 421)::(!170,wAB)::(!172,wAC "steps_within" 418 118 1 167 425)::(!173,Eb "steps_within" 27 wAH 351 172)::(!174,wAB)::(!176,wAA ["steps","names","step","part","kind"] 431)::(!177,wAB)::(!179,wAC "names_in" 428 125 1 174 436)::(!180,Eb "names_in" 28 wAH 351 179)::(!181,wAB)::(!184,wAD "lines_of" 439 132 1 181)::(!185,Eb "lines_of" 29 wAH 351 184)::(!186,wAB)::(!188,wAA ["program"] 448)::(!189,wAB)::(!191,wAC "names_of" 445 140 1 186 449)::(!192,Eb "names_of" 30 wAH 351 191)::(!200,wAB)::(!202,wAA ["self","head","lines","blocks"] 469)::(!203,wAB)::(!205,LF "__init__" 466 "NumberedStep.__init__" 467 468 145 4 200 201 202 203 204 473 474)::(!206,LD "__init__" "NumberedStep.__init__" 32 0 .none wAI 452 205)::(!207,wAA ["blocks","kind","lines","parts"] 476)::(!208,#[.type "dict",Nn,.dict #v[LB P "__module__" 461 (.str wAI 452),LB P "__firstlineno__" 465 (.int 143 464),LB P "__init__" 475 (.ref 206),LB P "__static_attributes__" 480 (.ref 207),LB P "__dict__" 482 (.ref 210),LB P "__weakref__" 484 (.ref 211),LB P "__doc__" 485 .none] 4,#[]])::(!209,#[.type "type",Nn,.cls #["NumberedStep",[.type "object"],[.ref 209,.type "object"],208,"NumberedStep",true,[],[],false,Nn,false],#v[Nn,Nn,Sm (.str "NumberedStep" 454),Sm (.str "NumberedStep" 462),Sm (.builtin "object.__new__"),Sm (.bool true)]])::(!210,#[.type "getset_descriptor",Nn,.fields #v[.str "__dict__" 481,.ref 209,.builtin "function.__dict__",.builtin "function.__dict__#set"],#[]])::(!211,#[.type "getset_descriptor",Nn,.fields #v[.str "__weakref__" 483,.ref 209,.builtin "ExceptionGroup.__weakref__",.none],#[]])::(!214,wAB)::(!216,wAA ["steps","line"] 491)::(!217,wAB)::(!219,wAC "line_behind" 488 150 2 214 493)::(!220,Eb "line_behind" 33 wAI 452 219)::(!221,wAB)::(!223,wAA ["step","line","lines","blocks","block","steps"] 499)::(!224,wAB)::(!226,wAC "numbered_step" 496 152 2 221 505)::(!227,Eb "numbered_step" 34 wAI 452 226)::(!228,wAB)::(!230,wAA ["steps","line","numbered","step"] 511)::(!231,wAB)::(!233,wAC "numbered_steps" 508 160 2 228 515)::(!234,Eb "numbered_steps" 35 wAI 452 233)::(!235,wAB)::(!238,wAD "lend_lines" 520 166 1 235)::(!239,Eb "lend_lines" 37 wAJ 518 238)::(!240,wAB)::(!242,wAA ["program","slots","slot","holder"] 529)::(!243,wAB)::(!245,wAC "slots_of" 526 168 1 240 533)::(!246,Eb "slots_of" 38 wAJ 518 245)::(!247,wAB)::(!250,wAD "simple_row" 536 173 2 247)::(!251,Eb "simple_row" 39 wAJ 518 250)::(!252,wAB)::(!254,wAA ["step","at","slots","turned","line","back","giver","taker","lent","ahead","within"] 545)::(!255,wAB)::(!257,wAC "lend_rows" 542 178 4 252 556)::(!258,Eb "lend_rows" 40 wAJ 518 257)::(!259,wAB)::(!261,wAA ["step","at","slots","turned","more","jump","rest","behind","test"] 562)::(!262,wAB)::(!264,wAC "if_rows" 559 187 4 259 571)::(!265,Eb "if_rows" 41 wAJ 518 264)::(!266,wAB)::(!268,wAA ["step","at","slots","within","behind"] 577)::(!269,wAB)::(!271,wAC "loop_rows" 574 194 3 266 582)::(!272,Eb "loop_rows" 42 wAJ 518 271)::(!273,wAB)::(!275,wAA ["step","at","slots","turned","first","loop","behind"] 588)::(!276,wAB)::(!278,wAC "while_rows" 585 198 4 273 595)::(!279,Eb "while_rows" 43 wAJ 518 278)::(!280,wAB)::(!282,wAA ["steps","at","slots","turned","rows","step","place"] 601)::(!283,wAB)::(!285,wAC "rows_of" 598 205 4 280 608)::(!286,Eb "rows_of" 44 wAJ 518 285)::(!287,wAB)::(!289,wAA ["program","turned","steps"] 614)::(!290,wAB)::(!292,wAC "rows_and_end" 611 218 2 287 617)::(!293,Eb "rows_and_end" 45 wAJ 518 292)::(!294,wAB)::(!296,wAA ["program"] 623)::(!297,wAB)::(!299,wAC "code_of" 620 221 1 294 624)::(!300,Eb "code_of" 46 wAJ 518 299)::(!301,wAB)::(!303,wAA ["program"] 630)::(!304,wAB)::(!306,wAC "turned_code" 627 223 1 301 631)::(!307,Eb "turned_code" 47 wAJ 518 306)::(!308,wAB)::(!310,wAA ["_law_script","_law_k"] 639)::(!311,wAB)::(!313,wAC "_law_cell_at" 636 226 2 308 641)::(!314,Eb "_law_cell_at" 49 wAE 634 313)::(!315,wAB)::(!318,wAD "_law_words" 644 230 2 315)::(!319,Eb "_law_words" 50 wAE 634 318)::(!320,wAB)::(!322,wAA ["_law_cell","_law_names","_law_words_here","_law_x","_law_y","_law_word","_law_bound","_law_some"] 653)::(!323,wAB)::(!325,wAC "_law_step" 650 243 3 320 661)::(!326,Eb "_law_step" 51 wAE 634 325)::(!327,wAB)::(!329,wAA ["_law_pile","_law_step_here"] 667)::(!330,wAB)::(!332,wAC "_law_put" 664 252 2 327 669)::(!333,Eb "_law_put" 52 wAE 634 332)::(!334,wAB)::(!336,wAA ["_law_pile","_law_head","_law_first","_law_second","_law_side"] 675)::(!337,wAB)::(!339,wAC "_law_close" 672 254 1 334 680)::(!340,Eb "_law_close" 53 wAE 634 339)::(!341,wAB)::(!343,wAA ["_law_cells","_law_names","_law_words_here","_law_lends","_law_deep","_law_pile","_law_cell","_law_step_here"] 686)::(!344,wAB)::(!346,wAC "_law_program" 683 260 5 341 694)::(!347,Eb "_law_program" 54 wAE 634 346)::(!348,wAB)::(!350,wAA ["_law_cells","_law_sides","_law_words_here","_law_most","_law_texts_here","_law_k","_law_bits","_law_many","_law_share","_law_rooms","_law_rest","_law_room_here","_law_text","_law_digit"] 700)::(!351,wAB)::(!353,wAC "_law_rule" 697 277 4 348 714)::(!354,Eb "_law_rule" 55 wAE 634 353)::(!355,wAB)::(!357,wAA ["_law_held","_law_slot"] 720)::(!358,wAB)::(!360,wAC "_law_has" 717 303 2 355 722)::(!361,Eb "_law_has" 56 wAE 634 360)::(!362,wAB)::(!364,wAA ["_law_row","_law_held","_law_rest"] 728)::(!365,wAB)::(!367,wAC "_law_sum_behind" 725 305 2 362 731)::(!368,Eb "_law_sum_behind" 57 wAE 634 367)::(!369,wAB)::(!371,wAA ["_law_rule_here","_law_room_here","_law_text"] 737)::(!372,wAB)::(!374,wAC "_law_next" 734 312 3 369 740)::(!375,Eb "_law_next" 58 wAE 634 374)::(!376,wAB)::(!378,wAA ["_law_row","_law_token","_law_sides"] 746)::(!379,wAB)::(!381,wAC "_law_texts" 743 316 3 376 749)::(!382,Eb "_law_texts" 59 wAE 634 381)::(!383,wAB)::(!385,wAA ["_law_rule_here","_law_row","_law_token","_law_room_here","_law_text"] 755)::(!386,wAB)::(!388,wAC "_law_room" 752 330 3 383 760)::(!389,Eb "_law_room" 60 wAE 634 388)::(!390,wAB)::(!392,wAA ["_law_rule_here","_law_row","_law_token","_law_first","_law_room_here"] 766)::(!393,wAB)::(!395,wAC "_law_behind" 763 336 3 390 771)::(!396,Eb "_law_behind" 61 wAE 634 395)::(!397,wAB)::(!399,wAA ["_law_rule_here","_law_row","_law_tokens","_law_room_here","_law_found","_law_token","_law_old"] 777)::(!400,wAB)::(!402,wAC "_law_begun" 774 350 3 397 784)::(!403,Eb "_law_begun" 62 wAE 634 402)::(!404,wAB)::(!406,wAA ["_law_code_here","_law_at"] 790)::(!407,wAB)::(!409,wAC "_law_after" 787 366 2 404 792)::(!410,Eb "_law_after" 63 wAE 634 409)::(!411,wAB)::(!414,wAD "_law_code" 795 374 4 411)::(!415,Eb "_law_code" 64 wAE 634 414)::(!416,wAB)::(!418,wAA ["_law_tokens","_law_rows","_law_come_here","_law_waiting","_law_to","_law_token"] 804)::(!419,wAB)::(!421,wAC "_law_put_all" 801 384 4 416 810)::(!422,Eb "_law_put_all" 65 wAE 634 421)::(!423,wAB)::(!426,wAD "_law_come" 813 390 2 423)::(!427,Eb "_law_come" 66 wAE 634 426)::(!428,wAB)::(!431,wAD "law" 819 409 1 428)::(!432,Eb "law" 67 wAE 634 431)::[]
noncomputable def kk:LL:=[2,3,15,17,18,20,21,22,24,25,27,28,29,31,32,34,35,36,38,39,41,42,43,45,46,48,49,50,52,53,55,56,57,59,60,62,63,64,67,68,69,71,72,74,75,76,78,79,81,82,83,85,86,88,89,90,93,94,95,97,98,100,101,102,105,106,107,109,110,112,113,114,116,117,119,120,121,123,124,126,127,128,131,132,133,134,135,136,137,138,139,140,141,142,143,144,145,146,148,149,151,152,153,155,156,158,159,160,162,163,165,166,167,169,170,172,173,174,176,177,179,180,181,184,185,186,188,189,191,192,200,202,203,205,206,207,208,209,210,211,214,216,217,219,220,221,223,224,226,227,228,230,231,233,234,235,238,239,240,242,243,245,246,247,250,251,252,254,255,257,258,259,261,262,264,265,266,268,269,271,272,273,275,276,278,279,280,282,283,285,286,287,289,290,292,293,294,296,297,299,300,301,303,304,306,307,308,310,311,313,314,315,318,319,320,322,323,325,326,327,329,330,332,333,334,336,337,339,340,341,343,344,346,347,348,350,351,353,354,355,357,358,360,361,362,364,365,367,368,369,371,372,374,375,376,378,379,381,382,383,385,386,388,389,390,392,393,395,396,397,399,400,402,403,404,406,407,409,410,411,414,415,416,418,419,421,422,423,426,427,428,431,432]
theorem kk_eq:∀P,kk=(KK P).map (·.1):=λ_=>by kernel_rfl
noncomputable abbrev HH:Hook:=kHook KK kk kk_eq
noncomputable def qq:Lw:=view PySem.Challenge.pw_usewarden_k56_nothing_needless [1,2,4,5,6,7,8,9,10,11,12,13,14,15,16,18,19,20,22,23,24,25,26,27,28,29,30,32,33,34,35,37,38,39,40,41,42,43,44,45,46,47,49,50,51,52,53,54,55,56,57,58,59,60,61,62,63,64,65,66,67]
noncomputable def loo:LI:=["PARTS","CLOSERS"]
noncomputable def xt(s:F_):Bool:=xlAt qq [] s&&recOk (RowW.records (OpenRow.toRowW (OpenLaw.row PySem.Challenge.rw_usewarden_k56_nothing_needless))) s
noncomputable def Dl(s:F_):=openSeen qq loo (importedModules (Lw.main PySem.Challenge.pw_usewarden_k56_nothing_needless).body) xt true s
noncomputable def tE(w:Lu)(os:OsState):Option F_:=(L2.tEnd PySem.Challenge.pw_usewarden_k56_nothing_needless w 2419 os).map SharedT.abs
noncomputable def v2(w:Lu):Prop:=∀os,(tE w os).map (λs=>(L2.tOk PySem.Challenge.pw_usewarden_k56_nothing_needless w s,Hook.obs HH s))=Sm (true,Hook.val HH w)
set_option maxRecDepth 1000000 in
theorem MU(w:Lu):v2 (w.withFollow "special-get-raises" false):=by unfold v2;intro os;kernel_rfl
set_option maxRecDepth 1000000 in
theorem O5(w:Lu):v2 (w.withFollow "special-get-raises" true):=by unfold v2;intro os;kernel_rfl
theorem Ot(w:Lu):v2 w:=byRow2 "special-get-raises" (P:=v2) MU O5 w
noncomputable def vv(w:Lu):Prop:=∀os,(tE w os).map (λs=>(Dl s).1)=Sm (openGood qq loo).1
set_option maxRecDepth 1000000 in
theorem Pk(w:Lu):vv (w.withFollow "special-get-raises" false):=by unfold vv;intro os;kernel_rfl
set_option maxRecDepth 1000000 in
theorem ME(w:Lu):vv (w.withFollow "special-get-raises" true):=by unfold vv;intro os;kernel_rfl
theorem Pg(w:Lu):vv w:=byRow2 "special-get-raises" (P:=vv) Pk ME w
noncomputable def v_(w:Lu):Prop:=∀os,(tE w os).map (λs=>(Dl s).2)=Sm (openGood qq loo).2
set_option maxRecDepth 1000000 in
theorem Oo(w:Lu):v_ (w.withFollow "special-get-raises" false):=by unfold v_;intro os;kernel_rfl
set_option maxRecDepth 1000000 in
theorem La(w:Lu):v_ (w.withFollow "special-get-raises" true):=by unfold v_;intro os;kernel_rfl
theorem O1(w:Lu):v_ w:=byRow2 "special-get-raises" (P:=v_) Oo La w
theorem hl(w:Lu):(openEnds treeTable PySem.Challenge.pw_usewarden_k56_nothing_needless w 2419).map (λs=>(Dl s,Hook.obs HH s))=Sm (openGood qq loo,Hook.val HH w):=by
 refine L2.tLeft (by kernel_rfl) ∅ (λ_=>by kernel_rfl) (by kernel_rfl) λos=>?_;let#[s,e,h]:=L2.Lb.mp (Ot w os);have h2:=Pg w os;have F:=O1 w os;rw[e]at h2 F;let#[r,J,rfl]:=L2.Lb.mp e;exact#[r,J,(Prod.mk.inj h).1,congr (congrArg Prod.mk (Prod.ext (Option.some.inj h2) (Option.some.inj F))) (Prod.mk.inj h).2]
end K56
namespace L2
open PySem PySem.Spec PyProof.Rows
variable{a b C:so}{h:Lv}{w:Lu}{t' i:Nat}{x:Str}{A:Mc}{E Q:LH}{u:KE}{e tg:Expr}{s:F_}{pos:Pos}{K:K_}
abbrev aT:=Sum Int Str
noncomputable def lI:aT->KE->Bool
 | .inl k,v=>NZ k v
 | .inr x,v=>Nh x v
noncomputable def f7(w:Lu):aT->Int
 | .inl k=>hashInt k
 | .inr x=>hashStr w x
theorem dg:∀ {k:aT} {v:KE},lI k v=true->(∃i t,k=Sum.inl i/\v=NA i t)\/(∃x t,k=Sum.inr x/\v=M1 x t)
 | .inl i,v,h=>by
  let#[t,e]:=JK (k:=i) (v:=v) h;exact .inl (yI2 i t #[rfl,e])
 | .inr x,v,h=>by
  let#[t,e]:=Om (x:=x) (v:=v) h;exact .inr (yI2 x t #[rfl,e])
theorem zT(i:Int)(t:Tok):lI (.inl i) (.int i t)=true:=by simp[lI,NZ]
theorem AR(x:Str)(t:Tok):lI (.inr x) (.str x t)=true:=by simp[lI,Nh]
theorem Iq(a b:Int):decide ((Sum.inl a:aT)=Sum.inl b)=(a==b):=by
 by_cases e:a=b
 .subst e;simp
 .have h:¬ (Sum.inl a:aT)=Sum.inl b:=λq=>e (Sum.inl.inj q);rw[decide_eq_false h];exact(beq_eq_false_iff_ne.mpr e).symm
theorem F7(a b:Str):decide ((Sum.inr a:aT)=Sum.inr b)=decide (a=b):=by
 by_cases e:a=b
 .subst e;simp
 .have h:¬ (Sum.inr a:aT)=Sum.inr b:=λq=>e (Sum.inr.inj q);rw[decide_eq_false h,decide_eq_false e]
theorem JN(a:Int)(b:Str):decide ((Sum.inl a:aT)=Sum.inr b)=false:=decide_eq_false (λq=>nomatch q)
theorem GU(a:Str)(b:Int):decide ((Sum.inr a:aT)=Sum.inl b)=false:=decide_eq_false (λq=>nomatch q)
noncomputable def df(prog:Lw)(w:Lu):PySem.KeyKind prog w aT where
 is:=lI
 hash:=f7 w
 inj:=λv a b ha hb=>by
  rcases dg ha with ⟨i,t,rfl,rfl⟩ | ⟨x,t,rfl,rfl⟩
  .rcases dg hb with ⟨j,u,rfl,e⟩ | ⟨y,u,rfl,e⟩
   .injection e with e1 _;rw[e1]
   .exact nomatch e
  .rcases dg hb with ⟨j,u,rfl,e⟩ | ⟨y,u,rfl,e⟩
   .exact nomatch e
   .injection e with e1 _;rw[e1]
 byValue:=λk v h=>by
  rcases dg h with ⟨i,t,rfl,rfl⟩ | ⟨x,t,rfl,rfl⟩<;>rfl
 pyHash:=λhv h=>by
  rcases dg hv with ⟨i,t,rfl,rfl⟩ | ⟨x,t,rfl,rfl⟩
  .exact wpAny_pyHash_int h
  .exact wpAny_pyHash_str h
 eqBool:=λhu hv h=>by
  rcases dg hu with ⟨i,t,rfl,rfl⟩ | ⟨x,t,rfl,rfl⟩
  .rcases dg hv with ⟨j,u,rfl,rfl⟩ | ⟨y,u,rfl,rfl⟩
   .rw[Iq]at h;exact wpAny_eqBool_int h
   .rw[JN]at h;exact SeqAt.EqAt.int_str i t y u _ _ _ _ h
  .rcases dg hv with ⟨j,u,rfl,rfl⟩ | ⟨y,u,rfl,rfl⟩
   .rw[GU]at h;exact SeqAt.EqAt.str_int x t j u _ _ _ _ h
   .rw[F7]at h;exact wpAny_eqBool_str h
 «strs»:=λk x t v h=>by
  rcases dg h with ⟨i,u,rfl,e⟩ | ⟨y,u,rfl,e⟩
  .exact nomatch e
  .injection e with e1 _
   subst e1;cases v<;>rfl
theorem vb(prog:Lw)(w:Lu)(i:Int)(t:Tok):(df prog w).is (.inl i) (.int i t)=true:=zT i t
theorem vf(prog:Lw)(w:Lu)(x:Str)(t:Tok):(df prog w).is (.inr x) (.str x t)=true:=AR x t
set_option genSizeOf false in
inductive V where
 | non | bl (b:Bool) | int (i:Int) | str (x:Str) | byt (b:Array UInt8) | flt (b:UInt64) | ref (a:so) | ty (n:String)
 deriving DecidableEq
variable{v:V}
abbrev LM:=List V
abbrev LR:=Option V
def RelV:V->KE->Prop
 | .non,u=>u=Mu
 | .bl b,u=>u=KE.bool b
 | .int i,u=>∃t,u=NA i t
 | .str x,u=>∃t,u=M1 x t
 | .byt b,u=>∃t,u=KE.bytes b t
 | .flt b,u=>∃t,u=KE.float b t
 | .ref a,u=>u=Ma a
 | .ty n,u=>u=M5 n
abbrev Br:LM->LN->Prop:=LG RelV
theorem Br.length{xs:LM}{F:LN}(r:Br xs F):xs.length=F.length:=zaJ r
theorem Br.get:∀ {xs:LM} {F:LN} {i:Nat} {x:V},Br xs F->xs[i]?=Sm x->∃u,F[i]?=Sm u/\RelV x u
 | _,_,_,_,.nil,e=>by simp at e
 | _,_,0,_,.cons r _,e=>by simp at e;subst e;exact#[_,rfl,r]
 | _,_,i+1,x,.cons _ t,e=>by
  let#[u,h1,h2]:=Br.get (i:=i) (x:=x) t (by simpa using e);exact#[u,by simpa using h1,h2]
theorem Br.set{x:V}{u:KE}(r:RelV x u):∀ {xs:LM} {F:LN} (i:Nat),Br xs F->Br (xs.set i x) (F.set i u)
 | _,_,_,.nil=>.nil
 | _,_,0,.cons _ t=>.cons r t
 | _,_,i+1,.cons q t=>.cons q (Br.set r i t)
theorem Br.append:∀ {xs ys:LM} {F ws:LN},Br xs F->Br ys ws->Br (xs++ys) (F++ws)
 | _,_,_,_,.nil,s=>s
 | _,_,_,_,.cons r t,s=>.cons r (Br.append t s)
theorem Br.take:∀ {xs:LM} {F:LN} (n:Nat),Br xs F->Br (xs.take n) (F.take n)
 | _,_,0,_=>.nil
 | _,_,_+1,.nil=>.nil
 | _,_,n+1,.cons r t=>.cons r (Br.take n t)
theorem Br.drop:∀ {xs:LM} {F:LN} (n:Nat),Br xs F->Br (xs.drop n) (F.drop n)
 | _,_,0,r=>r
 | _,_,_+1,.nil=>.nil
 | _,_,n+1,.cons _ t=>Br.drop n t
def GQ:LR->LO->Prop
 | some v,Sm u=>RelV v u
 | none,Nn=>True
 | _,_=>False
def KV{κ:Type}:List (κ×V)->List (κ×KE)->Prop:=LG λ(p:κ×V) (q:κ×KE)=>p.1=q.1/\RelV p.2 q.2
noncomputable def kV:aT->V
 | .inl i=>.int i
 | .inr x=>.str x
set_option genSizeOf false in
inductive HO where
 | lst (xs:LM)
 | tup (xs:LM)
 | dK (kvs:List (aT×V)) | dT (kvs:List (List aT×V))
 | set (S:Int->Bool) (n:Nat)
 | ins (C dx:so) (fs:List (Str×V))
 | own (x:so)
 | xd (fs:List (Str×V))
 | met (f x:so)
 | rng (lo hi:Int)
 | frz (o:Obj) (u:HO)
 | tbl (ps:LY)
 | ext (φ : Lv->Prop)
variable{o:HO}
abbrev Hp:=so->Option HO
variable{H:Hp}
noncomputable def upd(H:Hp)(a:so)(o:HO):Hp:=λb=>if b=a then Sm o else H b
theorem ai:upd H a o a=Sm o:=by unfold upd;rw[KZ rfl]
theorem aw(h:b≠a):upd H a o b=H b:=by unfold upd;rw[KQ h]
theorem dh{u:HO}(h:H a=Sm o)(h':H b=Sm u)(d:o≠u):a≠b:=by
 intro e;subst e;rw[h]at h';exact d (Option.some.inj h')
theorem a_(h:H a=Sm o)(h':H b=Nn):a≠b:=by
 intro e;subst e;rw[h]at h';cases h'
def Gs(h:Lv)(a:so)(items:LY):Prop:=∃o,h.get? a=Sm o/\o.cls = .type "tuple" /\ o.dict=Nn/\∃n,o.data = .seq items n
theorem Gs.tup{items:LY}(x:Gs h a items):IsTup h a items:=let ⟨o,e,c,_,d⟩:=x;#[o,e,c,d]
theorem Gs.lt{items:LY}(x:Gs h a items):a<h.objs.size:=let ⟨_,e,_⟩:=x;yo e
theorem Gs.new(h:Lv)(items:LY):Gs (h.push {cls:=.type "tuple",data:=.seq items}) h.objs.size items:=#[_,xb _ rfl,rfl,rfl,_,rfl]
section
variable(P:Lw)(w:Lu)
def BD(H:Hp)(h:Lv)(a:so):HO->Prop
 | .lst xs=>xs.length<=L_/\∃(its:LN) (n:Nat),Br xs its/\h.get? a=Sm {cls:=.type "list",data:=.seq its.toArray n}
 | .tup xs=>xs.length<=L_/\∃its:LN,Br xs its/\Gs h a its.toArray
 | .dK kvs=>kvs.length<=L_/\(a==sysModules)=false/\∃vs,KV kvs vs/\h.DictOf (df P w) a vs
 | .dT kvs=>kvs.length<=L_/\(a==sysModules)=false/\∃xs:List (List aT×so×KE),
   LG (λ(p:List aT×V) (q:List aT×so×KE)=>p.1=q.1/\H q.2.1=Sm (.tup (p.1.map kV))/\RelV p.2 q.2.2) kvs xs/\
   ∃o es ep,h.get? a=Sm o/\o.ExactDict/\o.data = .dict es ep/\es.toList=xs.map (entryOfKey (tupleKind (df P w)))/\(xs.map (·.1)).Nodup
 | .set S n=>h.SetOf (Mg P w) a S n
 | .ins C dx fs=>H dx=Sm (.own a)/\fs.length<=1000/\dx≠a/\h.get? a=Sm (Np C dx)/\
   ∃mA,h.Ns1 dx mA/\(∀f,GQ (fs.lookup f) (mA f))/\PySem.Within mA (fs.map (·.1))
 | .own _=>∃o,h.get? a=Sm o
 | .xd fs=>∃mA,h.Ns1 a mA/\∀f,GQ (fs.lookup f) (mA f)
 | .rng lo hi=>∃t u v,h.get? a=Sm {cls:=.type "range",data:=.fields #v[.int lo t,.int hi u,.int 1 v]}
 | .frz o u=>h.get? a=Sm o/\BD H h a u
 | .tbl ps=>h.get? a=Sm {cls:=.none,data:=.fields ps}
 | .met f x=>h.get? a=Sm (W.methodObj (.ref f) (.ref x))
 | .ext φ=>φ h/\(∃o,h.get? a=Sm o)/\∀h1 h2:Lv,φ h1->(∀o,h1.get? a=Sm o->h2.get? a=Sm o)->φ h2
def GN(H:Hp)(h:Lv):Prop:=∀a o,H a=Sm o->BD P w H h a o
end
section
variable{P:Lw}{w:Lu}{H H':Hp}{h h':Lv}{a:so}{o:HO}
theorem BD.lt(x:BD P w H h a o):a<h.objs.size:=by
 cases o with
 | lst xs=>revert x;refine yB2 λ_=>yF2 λ_ _=>yB2 λ_ e=>?_;exact yo e
 | tup xs=>revert x;refine yB2 λ_=>yF1 λ_=>yB2 λ_ p=>?_;exact p.lt
 | dK kvs=>revert x;refine yB3 λ_ _=>yF1 λ_=>yB2 λ_=>yF3 λo _ _=>yB2 λe _=>?_;exact yo e
 | dT kvs=>revert x;refine yB3 λ_ _=>yF1 λ_=>yB2 λ_=>yF3 λo _ _=>yB2 λe _=>?_;exact yo e
 | set S n=>revert x;refine yF4 λo _ _ _=>yB2 λe _=>?_;exact yo e
 | ins C dx fs=>revert x;refine yB5 λ_ _ _ e _=>?_;exact yo e
 | own y=>let#[_,e]:=x;exact yo e
 | xd fs=>let#[_,#[_,_,_,e,_],_]:=x;exact yo e
 | rng lo hi=>revert x;refine yF3 λ_ _ _ e=>?_;exact yo e
 | frz ob u=>let#[e,_]:=x;exact yo e
 | tbl ps=>exact yo (show h.get? a=Sm _ from x)
 | met f y=>exact yo (show h.get? a=Sm _ from x)
 | ext φ=>let#[_,#[_,e],_]:=x;exact yo e
theorem LG.mapP{α β : Type}{F G:α->β->Prop}:∀ {J:List α} {O:List β},LG F J O->(∀a b,F a b->G a b)->LG G J O
 | _,_,.nil,_=>.nil
 | _,_,.cons r t,f=>.cons (f _ _ r) (LG.mapP t f)
theorem LG.imp'{α β : Type}{F G:α->β->Prop}(f:∀a b,F a b->G a b){O:List α}{J:List β}(r:LG F O J):LG G O J:=LG.mapP r f
theorem BD.stay(x:BD P w H h a o)(k:∀b u,(b=a\/H b=Sm (.own a))->h.get? b=Sm u->h'.get? b=Sm u)
  (Y:∀b,H b=Sm (.own a)->H' b=Sm (.own a)) (U:∀b xs,H b=Sm (.tup xs)->H' b=Sm (.tup xs)):BD P w H' h' a o:=by
 induction o with
 | lst xs=>revert x;refine yB2 λz=>yF2 λJ n=>yB2 λr e=>?_;exact#[z,yI2 J n #[r,k _ _ (.inl rfl) e]]
 | tup xs=>revert x;refine yB2 λz=>yF1 λJ=>yB2 λr=>yF1 λF=>yB2 λe c=>?_;exact#[z,J,r,F,k _ _ (.inl rfl) e,c]
 | dK kvs=>revert x;refine yB3 λz y=>yF1 λvs=>yB2 λr=>yF3 λF es ep=>yB2 λe c=>?_;exact#[z,y,vs,r,yI3 F es ep #[k _ _ (.inl rfl) e,c]]
 | dT kvs=>
  revert x;refine yB3 λz y=>yF1 λxs=>yB2 λr=>yF3 λF es ep=>yB2 λe c=>?_;exact#[z,y,xs,LG.mapP r λp q z=>#[z.1,U _ _ z.2.1,z.2.2],yI3 F es ep #[k _ _ (.inl rfl) e,c]]
 | set S n=>revert x;refine yF4 λF es ep t=>yB2 λe c=>?_;exact yI4 F es ep t #[k _ _ (.inl rfl) e,c]
 | ins C dx fs=>
  revert x;refine yB5 λd z ne e=>yF1 λmA=>yB2 ?_;rintro ⟨O,es,ep,Z,c⟩ r;exact#[Y _ d,z,ne,k _ _ (.inl rfl) e,mA,yI3 O es ep #[k _ _ (.inr d) Z,c],r]
 | own y=>let#[F,e]:=x;exact#[F,k _ _ (.inl rfl) e]
 | xd fs=>let#[mA,#[O,es,ep,e,c],r]:=x;exact#[mA,yI3 O es ep #[k _ _ (.inl rfl) e,c],r]
 | rng lo hi=>revert x;refine yF3 λt u v e=>?_;exact yI3 t u v (k _ _ (.inl rfl) e)
 | frz F u ih=>let#[e,q]:=x;exact#[k _ _ (.inl rfl) e,ih q]
 | tbl ps=>
  have e:h.get? a=Sm {cls:=.none,data:=.fields ps}:=x;show h'.get? a=Sm {cls:=.none,data:=.fields ps};exact k a _ (.inl rfl) e
 | met f y=>
  have e:h.get? a=Sm (W.methodObj (.ref f) (.ref y)):=x;show h'.get? a=Sm (W.methodObj (.ref f) (.ref y));exact k a _ (.inl rfl) e
 | ext φ=>let#[p,#[o,e],st]:=x;exact#[st _ _ p λo q=>k _ _ (.inl rfl) q,#[o,k _ _ (.inl rfl) e],st]
theorem GN.lt(x:GN P w H h)(e:H a=Sm o):a<h.objs.size:=(x a o e).lt
theorem GN.fresh(x:GN P w H h)(e:h.objs.size<=a):H a=Nn:=by
 cases q:H a with
 | none=>rfl
 | some u=>exact absurd (oG (x.lt q) e) (Jw _)
theorem GN.kept(x:GN P w H h)(k:∀b u,h.get? b=Sm u->h'.get? b=Sm u):GN P w H h':=λa o e=>
 (x a o e).stay (λb u _ q=>k b u q) (λ_ q=>q) λ_ _ q=>q
theorem GN.laid(x:GN P w H h)(k:∀b u,h.get? b=Sm u->h'.get? b=Sm u)(J:h.objs.size<=a)(new:BD P w (upd H a o) h' a o):GN P w (upd H a o) h':=λb u e=>by
 have F:=x.fresh J;by_cases hb:b=a
 .subst hb;rw[ai]at e;cases e;exact new
 .rw[aw hb]at e;exact(x b u e).stay (λc v _ q=>k c v q) (λc q=>by rw[aw (a_ q F)];exact q) λc xs q=>by rw[aw (a_ q F)];exact q
end
def Rd(H:Hp)(a:so)(u:HO):Prop:=H a=Sm u\/∃o,H a=Sm (.frz o u)
theorem Rd.ok{P:Lw}{u:HO}(r:Rd H a u)(x:GN P w H h):BD P w H h a u:=by
 rcases r with r | ⟨o,r⟩
 .exact x a u r
 .let#[_,q]:=x a _ r;exact q
def zE:Option HO->Prop
 | some (.lst _)=>True
 | some (.dK _)=>True
 | some (.dT _)=>True
 | some (.set _ _)=>True
 | some (.ins _ _ _)=>True
 | some (.ext _)=>True
 | _=>False
section
variable{P:Lw}{w:Lu}{H:Hp}{h h':Lv}{x e:so}{o':HO}
theorem GN.write(ok:GN P w H h)(O:zE (H x))(W:e=x\/H e=Sm (.own x))(k:∀b u,b≠e->h.get? b=Sm u->h'.get? b=Sm u)(U:∃u,h'.get? e=Sm u)
  (new:BD P w (upd H x o') h' x o'):GN P w (upd H x o') h':=λb u q=>by
 have F:∀c y,H c=Sm (.own y)->c≠x:=λc y r z=>by subst z;rw[r]at O;exact O
 have J:∀c xs,H c=Sm (.tup xs)->c≠x:=λc xs r z=>by subst z;rw[r]at O;exact O
 by_cases hb:b=x
 .subst hb;rw[ai]at q;cases q;exact new
 .rw[aw hb]at q;by_cases hbe:b=e
  .have Y:H b=Sm (.own x):=by
    rcases W with z | z
    .exact absurd (hbe.trans z) hb
    .rw[hbe];exact z
   rw[q]at Y;cases Y;let#[v,hv]:=U;exact#[v,by rw[hbe];exact hv]
  .refine(ok b u q).stay (λc v S r=>k c v ?_ r) (λc r=>by rw[aw (F c b r)];exact r) λc xs r=>by rw[aw (J c xs r)];exact r
   rcases S with rfl | S
   .exact hbe
   .rintro rfl;rcases W with z | z
    .exact F c b S z
    .rw[S]at z;cases z;exact hb rfl
end
structure Un (fs ex:LL) (H H':Hp) (h h':Lv):Prop where
 keep:∀b o,h.get? b=Sm o->H b=Nn->b∉fs->b∉ex->h'.get? b=Sm o
 slot:∀b o,h.get? b=Sm o->H b=Nn->b∈fs->b∉ex->∃sl,h'.get? b=Sm {o with slots:=sl}
 free:∀b o,h.get? b=Sm o->H b=Nn->b∉ex->H' b=Nn
 there:∀b o,h.get? b=Sm o->b∉ex->∃o',h'.get? b=Sm o'
 tups:∀b xs,H b=Sm (.tup xs)->H' b=Sm (.tup xs)
 frzs:∀b o u,H b=Sm (.frz o u)->H' b=Sm (.frz o u)
 tbls:∀b ps,H b=Sm (.tbl ps)->∃more,H' b=Sm (.tbl (ps++more))
section
variable{fs fs' ex ex':LL}{H H1 H2:Hp}{h h1 h2 h':Lv}{a x e:so}{o:HO}
theorem Un.any(u:Un fs ex H H1 h h1){F:Obj}(q:h.get? b=Sm F)(n:H b=Nn)(hx:b∉ex):∃sl,h1.get? b=Sm {F with slots:=sl}:=by
 by_cases hb:b∈fs
 .exact u.slot b F q n hb hx
 .exact#[F.slots,u.keep b F q n hb hx]
theorem Un.kept(k:∀b u,h.get? b=Sm u->h'.get? b=Sm u):Un fs ex H H h h':=
 #[λb F q _ _ _=>k b F q,λb F q _ _ _=>#[F.slots,k b F q],λ_ _ _ n _=>n,λb F q _=>#[F,k b F q],λ_ _ q=>q,λ_ _ _ q=>q,λ_ ps q=>#[#[],by rw[q];simp]]
theorem Un.refl:Un fs ex H H h h:=Un.kept λ_ _ q=>q
theorem Un.laid(k:∀b u,h.get? b=Sm u->h'.get? b=Sm u)(J:h.objs.size<=a)(F:H a=Nn):Un fs ex H (upd H a o) h h' where
 keep:=λb u q _ _ _=>k b u q
 slot:=λb u q _ _ _=>#[u.slots,k b u q]
 free:=λb u q n _=>by rw[aw (xg (oG (yo q) J))];exact n
 there:=λb u q _=>#[u,k b u q]
 tups:=λb xs q=>by rw[aw (a_ q F)];exact q
 frzs:=λb u xs q=>by rw[aw (a_ q F)];exact q
 tbls:=λb ps q=>#[#[],by rw[aw (a_ q F),q];simp]
theorem Un.write(F:zE (H x))(U:e=x\/H e=Sm (.own x))(k:∀b u,b≠e->h.get? b=Sm u->h'.get? b=Sm u)(O:∃u,h'.get? e=Sm u):Un fs ex H (upd H x o) h h':=by
 have hx:∀b,H b=Nn->b≠x:=λb n z=>by subst z;rw[n]at F;exact F
 have S:∀b,H b=Nn->b≠e:=λb n z=>by
  subst z;rcases U with r | r
  .exact hx b n r
  .rw[n]at r;cases r
 have J:∀b u,H b=Sm u->¬ zE (Sm u)->b≠x:=λb u q nm z=>by subst z;rw[q]at F;exact nm F
 refine⟨λb u q n _ _=>k b u (S b n) q,λb u q n _ _=>⟨u.slots,k b u (S b n) q⟩,λb u q n _=>by rw[aw (hx b n)];exact n,λb u q _=>?_,
  λb xs q=>by rw[aw (J b _ q λz=>z)];exact q,λb u xs q=>by rw[aw (J b _ q λz=>z)];exact q,λb ps q=>⟨#[],by rw[aw (J b _ q λz=>z),q];simp⟩⟩
 by_cases hbe:b=e
 .subst hbe;exact O
 .exact#[u,k b u hbe q]
end
noncomputable def D3(h:Lv)(H:Hp):LL:=(List.range h.objs.size).filter λa=>(H a).isSome
noncomputable def jR(h:Lv)(H:Hp):Lv:=W.hideAll h (D3 h H)
theorem AV(h:Lv)(H:Hp):(jR h H).objs.size=h.objs.size:=W.hideAll_size _ _
theorem Bq{o:Obj}(e:h.get? b=Sm o)(n:H b=Nn):(jR h H).get? b=Sm o:=
 W.hideAll_get _ e λF=>by
  have q:(H b).isSome=true:=(Lh.mp F).2;rw[n]at q;simp at q
theorem EL{h:Lv}{H:Hp}{b:so}{o:Obj}(e:(jR h H).get? b=Sm o):h.get? b=Sm o/\H b=Nn:=by
 have F:h.get? b=Sm o:=W.of_hideAll (D3 h H) e;refine#[F,?_];cases q:H b with
 | none=>rfl
 | some x=>
  have J:b∈D3 h H:=Lh.mpr #[Lg.mpr (yo F),by simp[q]];have z:(jR h H).get? b=Nn:=W.hideAll_none (D3 h H) J;rw[z]at e;cases e
noncomputable def FC(g h:Lv)(L:so):List (so×Obj):=(List.range h.objs.size).filterMap λa=>if a=L\/(g.get? a).isSome=true then Nn else (h.get? a).map λo=>(a,o)
noncomputable def Bv(g h:Lv)(L d:so):List (so×Obj):=(FC g h L).filter λp=>decide (p.1≠d)
structure Mod (K:K_) (mg:Str->LO) (base:Lv):Prop where
 kin:K.In base
 glob:base.Ns Mn mg
 blt:∃mb,base.Ns builtinsNs mb/\∀x:Str,x ≠ "__name__" -> mb x=Mz x
 nolimit:base.NoLimit
set_option genInjectivity false in
set_option genSizeOf false in
structure Cx where
 prog:Lw
 w:Lu
 K:K_
 mg:Str->LO
 base:Lv
 A:Mc
 N:LI
 s₀ : F_
 H₀ : Hp
 env:Env
 outer:List Env
 stack:List Env
 ex:LL
 fn:Str->Bool
 calm:Bool
 pn:List (so×Obj)
 xe:KE->F_->Prop
noncomputable def kf(l:List Env):LL:=l.filterMap (·.frame)
noncomputable abbrev Cx.fs (X:Cx):LL:=kf X.outer
def ap(sc:Scope)(x:Str):Prop:=sc.names.lookup x=Sm .local\/sc.names.lookup x=Sm .cell\/sc.names.lookup x=Sm .free
def aK(sc:Scope)(x:Str):Prop:=sc.names.lookup x=Sm .local\/sc.names.lookup x=Sm .cell
def Pt(env:Env)(h:Lv)(m:Str->LO)(x:Str)(u:KE):Prop:=
 (env.kindOf x=Sm .local/\m x=Sm u)\/((env.kindOf x=Sm .cell\/env.kindOf x=Sm .free)/\∃c,env.cells.lookup x=Sm c/\h.IsCell c (Sm u))
structure Cx.Ok (X:Cx):Prop where
 mod:Mod X.K X.mg X.base
 kind:X.env.scope.kind = .function
 glob:X.env.globals=Mn
 blt:X.env.builtins=builtinsNs
 above:X.s₀.heap.objs.size<=X.env.locals
 inj:∀x y c,X.env.cells.lookup x=Sm c->X.env.cells.lookup y=Sm c->x=y
 has:∀x,(X.env.kindOf x=Sm .cell\/X.env.kindOf x=Sm .free)->∃c,X.env.cells.lookup x=Sm c
 cab:∀x c,X.fn x=true->X.env.cells.lookup x=Sm c->X.s₀.heap.objs.size<=c
 hd:X.calm=true->X.A.handled=Nn
 frames:X.A.frames=Sm X.stack
 stk:X.stack=X.outer\/(X.stack=X.env::X.outer/\X.env.frame=Sm X.env.locals)
 exf:∀b∈X.ex,b≠X.env.locals/\∀x c,X.env.cells.lookup x=Sm c->c≠b
 bs:∀b o,X.base.get? b=Sm o->X.s₀.heap.get? b=Sm o/\X.H₀ b=Nn
 bsz:X.base.objs.size<=X.s₀.heap.objs.size
 noex:∀b o,X.base.get? b=Sm o->b∉X.ex
 exfs:∀b∈X.ex,b∉X.fs
 funs:X.s₀.heap.FunFrames X.base X.outer
 frf:∀b∈X.fs,X.H₀ b=Nn
structure Inv (X:Cx) (pins:List (so×Obj)) (σ : List LR) (H:Hp) (s:F_):Prop where
 ok:X.Ok
 os:s.os=X.s₀.os
 bare:Nj s.gens
 base:Un X.fs X.ex X.H₀ H X.s₀.heap s.heap
 loc:∃m,s.heap.Ns X.env.locals m/\∀(i:Nat) (x:Str) (v:V),X.N[i]?=Sm x->σ[i]?=Sm (Sm v)->ap X.env.scope x->∃u,RelV v u/\Pt X.env s.heap m x u
 cell:∀x c,X.env.cells.lookup x=Sm c->∃v,s.heap.IsCell c v
 free:H X.env.locals=Nn
 freeC:∀x c,X.env.cells.lookup x=Sm c->H c=Nn
 pin:∀p∈X.pn++pins,s.heap.get? p.1=Sm p.2/\H p.1=Nn/\p.1≠X.env.locals/\p.1∉X.fs/\∀v,p.2.data ≠ .cell v
 hok:GN X.prog X.w H s.heap
 len:σ.length=X.N.length
section
variable{X:Cx}{pins:List (so×Obj)}{σ:List LR}{H H':Hp}{s:F_}{h':Lv}
theorem Cx.Ok.nofr(ok:X.Ok){o:Obj}(e:X.base.get? b=Sm o):b∉X.fs:=λF=>by
 have:=(ok.funs.mem F).1;rw[e]at this;cases this
theorem Inv.bs(I:Inv X pins σ H s):∀b o,X.base.get? b=Sm o->s.heap.get? b=Sm o/\H b=Nn:=λb o e=>
 #[I.base.keep b o (I.ok.bs b o e).1 (I.ok.bs b o e).2 (I.ok.nofr e) (I.ok.noex b o e),I.base.free b o (I.ok.bs b o e).1 (I.ok.bs b o e).2 (I.ok.noex b o e)]
theorem Inv.bk(I:Inv X pins σ H s):∀b o,X.base.get? b=Sm o->s.heap.get? b=Sm o:=λb o e=>(I.bs b o e).1
theorem Inv.mod(I:Inv X pins σ H s):Mod X.K X.mg X.base:=I.ok.mod
theorem Inv.kIn(I:Inv X pins σ H s):X.K.In s.heap:=I.ok.mod.kin.keeps I.bk
theorem Inv.lt(I:Inv X pins σ H s):X.env.locals<s.heap.objs.size:=let ⟨_,hn,_⟩:=I.loc;hn.lt
theorem Inv.sz(I:Inv X pins σ H s):X.s₀.heap.objs.size<=s.heap.objs.size:=xH I.ok.above (xE I.lt)
theorem Inv.nofs(I:Inv X pins σ H s)(h:s.heap.objs.size<=a):a∉X.fs:=λF=>by
 refine yA2 (I.ok.funs.mem F) λ_=>yF1 λo=>yB2 λJ _=>?_;exact absurd (oG (yo J) (xH I.sz h)) (Jw _)
theorem Inv.cne(I:Inv X pins σ H s):∀x c,X.env.cells.lookup x=Sm c->c≠X.env.locals:=λx c e z=>by
 refine yE2 (I.cell x c e) λv o=>yB2 λO hd=>?_;let#[m,#[o',es,ep,J,F,_],_]:=I.loc;rw[z,J]at O;cases O;rw[F]at hd;cases hd
theorem Inv.funs(I:Inv X pins σ H s):s.heap.FunFrames X.base X.outer:=by
 have all:∀(l:List Env),(∀b∈kf l,b∈X.fs)->X.s₀.heap.FunFrames X.base l->s.heap.FunFrames X.base l:=by
  intro l
  induction l with
  | nil=>intro _ _;trivial
  | cons env r ih=>
   intro O hl;let#[Y,#[L,o,hf,U,W,hd],S]:=hl;have J:L∈X.fs:=O L (by unfold kf;rw[List.filterMap_cons,hf];exact yy);let#[Z,e]:=I.base.slot L o W (I.ok.frf L J) J λz=>I.ok.exfs L z J;exact#[Y,yI2 L _ #[hf,U,e,hd],ih (λb F=>O b (by unfold kf;rw[List.filterMap_cons,hf];exact yS _ F)) S]
 exact all X.outer (λ_ F=>F) I.ok.funs
theorem Inv.stack(I:Inv X pins σ H s):s.heap.FunFrames X.base X.stack:=by
 rcases I.ok.stk with e | ⟨e,hf⟩
 .rw[e];exact I.funs
 .rw[e];let#[m,F,_]:=I.loc;refine .cons (by rw[I.ok.kind];decide) hf F ?_ I.funs;exact Lv.get?_none_of_le (xH I.ok.bsz I.ok.above)
theorem Inv.stkSub(I:Inv X pins σ H s):∀b∈kf X.stack,b∈X.env.locals::X.fs:=λb F=>by
 rcases I.ok.stk with e | ⟨e,hf⟩
 .rw[e]at F;exact yS _ F
 .rw[e]at F;unfold kf at F;rw[List.filterMap_cons,hf]at F;exact F
theorem Inv.stkFree(I:Inv X pins σ H s):∀b∈kf X.stack,H b=Nn:=λb F=>by
 rcases K7.mp (I.stkSub b F) with e | F
 .rw[e];exact I.free
 .refine yA2 (I.ok.funs.mem F) λ_=>yF1 λo=>yB2 λJ _=>?_;exact I.base.free b o J (I.ok.frf b F) λz=>I.ok.exfs b z F
theorem Inv.step{g':Array Nq}{d':Drawn}{ch:LL}(I:Inv X pins σ H s)
  (F:∀b∈ch,(b∈X.ex\/X.s₀.heap.objs.size<=b)/\b≠X.env.locals/\(∀x c,X.env.cells.lookup x=Sm c->c≠b)/\∀p∈X.pn++pins,p.1≠b)
  (keep:∀b o,b≠X.env.locals->b∉X.fs->b∉ch->s.heap.get? b=Sm o->H b=Nn->h'.get? b=Sm o)
  (slot:∀b o,b≠X.env.locals->b∈X.fs->b∉ch->s.heap.get? b=Sm o->H b=Nn->∃sl,h'.get? b=Sm {o with slots:=sl}) (free:∀b o,b∉ch->s.heap.get? b=Sm o->H b=Nn->H' b=Nn)
  (there:∀b o,b∉ch->s.heap.get? b=Sm o->∃o',h'.get? b=Sm o')
  (tups:∀b xs,H b=Sm (.tup xs)->H' b=Sm (.tup xs)) (frzs:∀b o u,H b=Sm (.frz o u)->H' b=Sm (.frz o u)) (tbls:∀b ps,H b=Sm (.tbl ps)->∃more,H' b=Sm (.tbl (ps++more)))
  (ns:∀m,s.heap.Ns X.env.locals m->h'.Ns X.env.locals m) (hok:GN X.prog X.w H' h') (hg:Nj g') :
  Inv X pins σ H' {s with heap:=h',gens:=g',drawn:=d',toks:=t'}:=by
 have Z:∀b o,X.s₀.heap.get? b=Sm o->b≠X.env.locals:=λb o e=>xg (oG (yo e) I.ok.above);have S:∀b o,X.s₀.heap.get? b=Sm o->b∉X.ex->b∉ch:=λb o e hx W=>by
  rcases(F b W).1 with z | z
  .exact hx z
  .exact absurd (oG (yo e) z) (Jw _)
 have O:∀x c,X.env.cells.lookup x=Sm c->∀v,s.heap.IsCell c v->h'.IsCell c v:=λx c e v ⟨o,Y,hd⟩=>by
  have J:c∉ch:=λz=>(F c z).2.2.1 x c e rfl;by_cases hc:c∈X.fs
  .let#[sl,q]:=slot c o (I.cne x c e) hc J Y (I.freeC x c e);exact#[_,q,hd]
  .exact#[o,keep c o (I.cne x c e) hc J Y (I.freeC x c e),hd]
 refine#[I.ok,I.os,hg,#[λb o e n W hx=>?_,λb o e n W hx=>?_,λb o e n hx=>?_,λb o e hx=>?_,λb xs e=>tups b xs (I.base.tups b xs e),λb o xs e=>frzs b o xs (I.base.frzs b o xs e),λb ps e=>?_],?_,λx c e=>?_,?_,λx c e=>?_,λp hp=>?_,hok,I.len]
 .exact keep b o (Z b o e) W (S b o e hx) (I.base.keep b o e n W hx) (I.base.free b o e n hx)
 .let#[sl,U]:=I.base.slot b o e n W hx;let#[ab,e2]:=slot b _ (Z b o e) W (S b o e hx) U (I.base.free b o e n hx);exact#[ab,e2]
 .let#[o',U]:=I.base.there b o e hx;exact free b o' (S b o e hx) U (I.base.free b o e n hx)
 .let#[o',U]:=I.base.there b o e hx;exact there b o' (S b o e hx) U
 .let#[m1,U]:=I.base.tbls b ps e;let#[m2,e2]:=tbls b _ U;exact#[m1++m2,by rw[e2,Array.append_assoc]]
 .let#[m,hn,hl]:=I.loc;refine#[m,ns m hn,λi x v U e2 e3=>?_];let#[u,r,l]:=hl i x v U e2 e3;refine#[u,r,?_];rcases l with l | ⟨k,c,e,z⟩
  .exact .inl l
  .exact .inr #[k,c,e,O x c e _ z]
 .let#[v,z]:=I.cell x c e;exact#[v,O x c e v z]
 .let#[m,#[o,_,_,Y,_],_]:=I.loc;exact free _ o (λz=>(F _ z).2.1 rfl) Y I.free
 .refine yE2 (I.cell x c e) λv o=>yB2 λY hd=>?_;exact free c o (λz=>(F c z).2.2.1 x c e rfl) Y (I.freeC x c e)
 .refine yA5 (I.pin p hp) λe n ne nf d=>?_;have J:p.1∉ch:=λz=>(F p.1 z).2.2.2 p hp rfl;exact#[keep p.1 p.2 ne nf J e n,free p.1 p.2 J e n,ne,nf,d]
theorem Inv.un(I:Inv X pins σ H s)(u:Un X.fs [] H H' s.heap h')(hok:GN X.prog X.w H' h'):Inv X pins σ H' {s with heap:=h',toks:=t'}:=by
 let#[m,#[o,es,ep,S,r],_]:=id I.loc;let#[Z,Y]:=u.any S I.free '~';exact I.step (g':=s.gens) (d':=s.drawn) (ch:=[]) (λ_ z=>nomatch z) (λb o _ O _ e n=>u.keep b o e n O '~') (λb o _ O _ e n=>u.slot b o e n O '~') (λb o _ e n=>u.free b o e n '~') (λb o _ e=>u.there b o e '~') u.tups u.frzs u.tbls (λm' U=>by
  revert U;refine yF3 λo' es' J=>yB2 λF W=>?_;rw[S]at F;cases F;exact yI3 _ es' J ⟨Y,W⟩) hok I.bare
theorem Inv.call{g':Array Nq}{d':Drawn}{ch:LL}(I:Inv X pins σ H s)(u:Un (kf X.stack) ch H H' s.heap h')(hok:GN X.prog X.w H' h')(hg:Nj g')
  (O:∀b∈ch,(b∈X.ex\/X.s₀.heap.objs.size<=b)/\b≠X.env.locals/\(∀x c,X.env.cells.lookup x=Sm c->c≠b)/\∀p∈X.pn++pins,p.1≠b) :
  Inv X pins σ H' {s with heap:=h',gens:=g',drawn:=d',toks:=t'}:=by
 let#[m,#[o,es,ep,W,r],_]:=id I.loc;let#[sl,U]:=u.any W I.free λz=>(O _ z).2.1 rfl;exact I.step (ch:=ch) O (λb o U Z F e n=>u.keep b o e n (λz=>(K7.mp (I.stkSub b z)).elim U Z) F) (λb o _ _ F e n=>u.any e n F) (λb o F e n=>u.free b o e n F) (λb o F e=>u.there b o e F) u.tups u.frzs u.tbls (λm' Y=>by
  revert Y;refine yF3 λo' es' S=>yB2 λJ r'=>?_;rw[W]at J;cases J;exact yI3 _ es' S ⟨U,r'⟩) hok hg
theorem Inv.turned{it:so}(I:Inv X pins σ H s)(k:∀b o,b≠it->s.heap.get? b=Sm o->h'.get? b=Sm o)(U:H it=Nn)(O:it≠X.env.locals)
  (h1:it∈X.ex\/X.s₀.heap.objs.size<=it) (h2:∀x c,X.env.cells.lookup x=Sm c->c≠it) (W:∀p∈X.pn++pins,p.1≠it):Inv X pins σ H {s with heap:=h',toks:=t'}:=by
 have J:∀b u,H b=Sm u->b≠it:=λb u e z=>by rw[z,U]at e;cases e
 refine I.step (g':=s.gens) (d':=s.drawn) (ch:=[it]) (λb Y=>?_) (λb o _ _ F e _=>k b o (λz=>F (by simp[z])) e) (λb o _ _ F e _=>#[o.slots,k b o (λz=>F (by simp[z])) e]) (λ_ _ _ _ n=>n)
  (λb o F e=>#[o,k b o (λz=>F (by simp[z])) e]) (λ_ _ e=>e) (λ_ _ _ e=>e) (λb ps e=>#[#[],by rw[e];simp]) (λm S=>?_) (λb u e=>?_) I.bare
 .have e:b=it:=by simpa using Y
  subst e;exact#[h1,O,h2,W]
 .revert S;refine yF3 λo es ep=>yB2 λZ r=>?_;exact yI3 o es ep #[k _ o (uW O) Z,r]
 .refine(I.hok b u e).stay (λc v F q=>k c v ?_ q) (λ_ q=>q) λ_ _ q=>q;rcases F with z | z
  .rw[z];exact J b u e
  .exact J c _ z
theorem Inv.tok(I:Inv X pins σ H s)(t:Nat):Inv X pins σ H {s with toks:=t}:=I.un (h':=s.heap) (t':=t) Un.refl I.hok
theorem Inv.kept(I:Inv X pins σ H s)(k:∀b u,s.heap.get? b=Sm u->h'.get? b=Sm u):Inv X pins σ H {s with heap:=h',toks:=t'}:=I.un (Un.kept k) (I.hok.kept k)
theorem Inv.laid(I:Inv X pins σ H s)(k:∀b u,s.heap.get? b=Sm u->h'.get? b=Sm u)(F:s.heap.objs.size<=a)(new:BD X.prog X.w (upd H a o) h' a o) :
  Inv X pins σ (upd H a o) {s with heap:=h',toks:=t'}:=I.un (Un.laid k F (I.hok.fresh F)) (I.hok.laid k F new)
theorem Inv.write{x e:so}(I:Inv X pins σ H s)(J:zE (H x))(O:e=x\/H e=Sm (.own x))(k:∀b u,b≠e->s.heap.get? b=Sm u->h'.get? b=Sm u)(F:∃u,h'.get? e=Sm u)
  (new:BD X.prog X.w (upd H x o) h' x o):Inv X pins σ (upd H x o) {s with heap:=h',toks:=t'}:=I.un (Un.write J O k F) (I.hok.write J O k F new)
theorem Inv.weak{σ':List LR}(I:Inv X pins σ H s)(hl:σ'.length=σ.length)(w:∀(i:Nat) v,σ'[i]?=Sm (Sm v)->σ[i]?=Sm (Sm v)):Inv X pins σ' H s:=
 #[I.ok,I.os,I.bare,I.base,let ⟨m,hn,hl'⟩:=I.loc;#[m,hn,λi x v F O J=>hl' i x v F (w i v O) J],I.cell,I.free,I.freeC,I.pin,I.hok,hl.trans I.len]
theorem Inv.pins_of{F:List (so×Obj)}(I:Inv X pins σ H s)(h:∀p∈F,s.heap.get? p.1=Sm p.2/\H p.1=Nn/\p.1≠X.env.locals/\p.1∉X.fs/\∀v,p.2.data ≠ .cell v):Inv X F σ H s:=
 #[I.ok,I.os,I.bare,I.base,I.loc,I.cell,I.free,I.freeC,λp J=>(K8.mp J).elim (λz=>I.pin p (sE _ z)) (h p),I.hok,I.len]
theorem sH{N:LI}(J:N.Nodup){j:Nat}(a:N[i]?=Sm x)(b:N[j]?=Sm x):i=j:=by
 let#[h1,F]:=KO.mp a;let#[h2,O]:=KO.mp b;exact(List.getElem_inj J).mp (F.trans O.symm)
theorem pP{M:Model}{Q:Unit->F_->Prop}(I:Inv X pins σ H s)(hN:X.N.Nodup)(hi:X.N[i]?=Sm x)(hx:aK X.env.scope x)(r:RelV v u)
  (h:∀s',Inv X pins (σ.set i (Sm v)) H s'->(∃a,MH a s.heap s'.heap/\(a=X.env.locals\/X.env.cells.lookup x=Sm a))->Q Unit.unit s') (hf:X.fn x=true\/X.env.scope.names.lookup x=Sm .local:=by first | exact .inl rfl | exact .inr rfl | assumption):G_ M A (storeName X.env x u) Q E s:=by
 let#[m,hn,hl]:=id I.loc;have al:(X.env.scope.kind == .class||(X.env.scope.kind == .module&&X.env.locals != X.env.globals))=false:=by rw[I.ok.kind];rfl
 have ab : i<σ.length:=by rw[I.len];exact(KO.mp hi).1
 have cne:=I.cne;have O:∀ {a:so} {h':Lv},(∃o,s.heap.get? a=Sm o/\H a=Nn)->MH a s.heap h'->GN X.prog X.w H h':=λ{a h'} ha F b ob e=>by
  let#[_,_,U]:=ha;refine(I.hok b ob e).stay (λc w' S q=>(F.2 c ?_).trans q) (λ_ q=>q) λ_ _ q=>q;rintro rfl;rcases S with rfl | S
  .rw[U]at e;cases e
  .rw[U]at S;cases S
 rcases hx with Y | Y
 .refine wpAny_storeName_local Y hn (λh' as F=>?_) al;refine yE3 (id hn) λoL _ _=>yB2 λa3 _=>?_;refine h _ #[I.ok,I.os,I.bare,#[λb o e n hb hx=>?_,λb o e n hb hx=>?_,I.base.free,λb o e hx=>?_,I.base.tups,I.base.frzs,I.base.tbls],#[_,as,λj y v' J W e3=>?_],λy c e=>?_,I.free,I.freeC,λp hp=>?_,O #[oL,a3,I.free] F,by simpa using I.len] #[_,F,.inl rfl]
  .exact(F.2 b (xg (oG (yo e) I.ok.above))).trans (I.base.keep b o e n hb hx)
  .let#[sl,J]:=I.base.slot b o e n hb hx;exact#[sl,(F.2 b (xg (oG (yo e) I.ok.above))).trans J]
  .let#[o',J]:=I.base.there b o e hx;exact#[o',(F.2 b (xg (oG (yo e) I.ok.above))).trans J]
  .by_cases hj:j=i
   .subst hj;rw[hi]at J;cases J;rw[zbo ab]at W;cases W;exact#[u,r,.inl #[Y,'~']]
   .rw[za8 (uW hj)]at W;let#[u',r',q]:=hl j y v' J W e3;refine#[u',r',?_];rcases q with ⟨k,e⟩ | ⟨k,c,e,z⟩
    .refine .inl #[k,?_];have:y≠x:=λe=>hj (sH hN J (e ▸ hi));simp[this,e]
    .exact .inr #[k,c,e,z.sameBut F (cne y c e)]
  .let#[w',z]:=I.cell y c e;exact#[w',z.sameBut F (cne y c e)]
  .refine yA5 (I.pin p hp) λe n ne nf d=>?_;exact#[(F.2 p.1 ne).trans e,n,ne,nf,d]
 .have Z:X.fn x=true:=by
   rcases hf with z | z
   .exact z
   .rw[z]at Y;cases Y
  let#[c,S]:=I.ok.has x (.inl Y);let#[w',z]:=I.cell x c S;refine wpAny_storeName_cell I.ok.kind Y S z (λh' ag F=>?_);let#[oc,ad,ac]:=id z;refine h {s with heap:=h'} #[I.ok,I.os,I.bare,#[λb o e n hb hx=>?_,λb o e n hb hx=>?_,I.base.free,λb o e hx=>?_,I.base.tups,I.base.frzs,I.base.tbls],#[m,hn.sameBut F (uW (cne x c S)),λj y v' J W e3=>?_],λy c' e=>?_,I.free,I.freeC,λp hp=>?_,O #[oc,ad,I.freeC x c S] F,by simpa using I.len] #[c,F,.inr S]
  .exact(F.2 b (xg (oG (yo e) (I.ok.cab x c Z S)))).trans (I.base.keep b o e n hb hx)
  .let#[sl,J]:=I.base.slot b o e n hb hx;exact#[sl,(F.2 b (xg (oG (yo e) (I.ok.cab x c Z S)))).trans J]
  .let#[o',J]:=I.base.there b o e hx;exact#[o',(F.2 b (xg (oG (yo e) (I.ok.cab x c Z S)))).trans J]
  .by_cases hj:j=i
   .subst hj;rw[hi]at J;cases J;rw[zbo ab]at W;cases W;exact#[u,r,.inr #[.inl Y,c,S,ag]]
   .rw[za8 (uW hj)]at W;let#[u',r',q]:=hl j y v' J W e3;refine#[u',r',?_];rcases q with q | ⟨k,c',e,z'⟩
    .exact .inl q
    .refine .inr #[k,c',e,z'.sameBut F ?_];rintro rfl;exact hj (sH hN J (I.ok.inj _ _ _ e S ▸ hi))
  .by_cases hcc:c'=c
   .subst hcc;exact#[_,ag]
   .let#[w2,z2]:=I.cell y c' e;exact#[w2,z2.sameBut F hcc]
  .refine yA5 (I.pin p hp) λe n ne nf d=>?_;refine#[(F.2 p.1 ?_).trans e,n,ne,nf,d];intro q;rw[q,ad]at e;have q':oc=p.2:=Option.some.inj e;exact d w' (by rw[<-q'];exact ac)
theorem tJ{M:Model}{Q:Unit->F_->Prop}(I:Inv X pins σ H s)(J:X.N.Nodup)(hi:X.N[i]?=Sm x)(hx:aK X.env.scope x)(r:RelV v u)
  (h:∀s',Inv X pins (σ.set i (Sm v)) H s'->Q Unit.unit s') (hf:X.fn x=true\/X.env.scope.names.lookup x=Sm .local:=by first | exact .inl rfl | exact .inr rfl | assumption):G_ M A (storeName X.env x u) Q E s:=
 pP I J hi hx r (λs' F _=>h s' F) hf
theorem Inv.call'{s':F_}{ch:LL}(I:Inv X pins σ H s)(J:s'.os=s.os)(u:Un (kf X.stack) ch H H' s.heap s'.heap)(hok:GN X.prog X.w H' s'.heap)(hg:Nj s'.gens)
  (F:∀b∈ch,(b∈X.ex\/X.s₀.heap.objs.size<=b)/\b≠X.env.locals/\(∀x c,X.env.cells.lookup x=Sm c->c≠b)/\∀p∈X.pn++pins,p.1≠b):Inv X pins σ H' s':=by
 let#[h',g',d',t',o']:=s';have e:o'=s.os:=J;subst e;exact I.call (g':=g') (t':=t') (d':=d') u hok hg F
end
abbrev XK:=KE->LZ->Hp->Prop
abbrev St:=List LR
variable{σ:St}
abbrev VK:=V->Hp->Prop
abbrev TE:=St->Hp->VK->Prop
abbrev TT:=St->Hp->(Bool->Hp->Prop)->Prop
abbrev TA:=St->Hp->(LM->Hp->Prop)->Prop
set_option genInjectivity false in
set_option genSizeOf false in
structure d0 where
 nx:St->Hp->Prop
 rt:VK
 bk:St->Hp->Prop:=λ_ _=>False
 ct:St->Hp->Prop:=λ_ _=>False
abbrev TS:=d0->St->Hp->Prop
def EP(X:Cx)(pins:List (so×Obj))(σ : St)(Q:VK)(u:KE)(s':F_):Prop:=∃v H',Inv X pins σ H' s'/\RelV v u/\Q v H'
def TP(X:Cx)(pins:List (so×Obj))(σ : St)(Q:Bool->Hp->Prop)(b:Bool)(s':F_):Prop:=∃H',Inv X pins σ H' s'/\Q b H'
def AP(X:Cx)(pins:List (so×Obj))(σ : St)(Q:LM->Hp->Prop)(us:LN)(s':F_):Prop:=∃vs H',Inv X pins σ H' s'/\Br vs us/\Q vs H'
def SP(X:Cx)(pins:List (so×Obj))(D:d0)(f:Flow)(s':F_):Prop:=
 match f with
 | .next=>∃σ' H',Inv X pins σ' H' s'/\D.nx σ' H'
 | .brk=>∃σ' H',Inv X pins σ' H' s'/\D.bk σ' H'
 | .cont=>∃σ' H',Inv X pins σ' H' s'/\D.ct σ' H'
 | .ret u=>∃v σ' H',Inv X pins σ' H' s'/\RelV v u/\D.rt v H'
def PE(X:Cx)(e:Expr)(t:TE):Prop:=
 ∀(pins:List (so×Obj)) (s:F_) (σ : St) (H:Hp) (Q:VK),Inv X pins σ H s->t σ H Q->G_ (model X.prog X.w) X.A (eval e X.env) (EP X pins σ Q) X.xe s
def PT(X:Cx)(e:Expr)(t:TT):Prop:=
 ∀(pins:List (so×Obj)) (s:F_) (σ : St) (H:Hp) (Q:Bool->Hp->Prop),Inv X pins σ H s->t σ H Q->G_ (model X.prog X.w) X.A (isTrue e X.env (eval e X.env)) (TP X pins σ Q) X.xe s
def PW(X:Cx)(e:Expr)(t:TT):Prop:=
 ∀(whole:Sem KE) (pins:List (so×Obj)) (s:F_) (σ : St) (H:Hp) (Q:Bool->Hp->Prop),Inv X pins σ H s->t σ H Q->G_ (model X.prog X.w) X.A (isTrue e X.env whole) (TP X pins σ Q) X.xe s
theorem PW.pt{X:Cx}{t:TT}(h:PW X e t):PT X e t:=h _
def PA(X:Cx)(es:LX)(t:TA):Prop:=
 ∀(pos:Pos) (pins:List (so×Obj)) (s:F_) (σ : St) (H:Hp) (Q:LM->Hp->Prop),Inv X pins σ H s->t σ H Q->G_ (model X.prog X.w) X.A (spliced (backTo pos (Mh es X.env))) (AP X pins σ Q) X.xe s
def PS(X:Cx)(st:L6)(t:TS):Prop:=
 ∀(pins:List (so×Obj)) (s:F_) (σ : St) (H:Hp) (D:d0),Inv X pins σ H s->t D σ H->G_ (model X.prog X.w) X.A (exec st X.env) (SP X pins D) X.xe s
def Hq(X:Cx)(st:List L6)(t:TS):Prop:=
 ∀(pins:List (so×Obj)) (s:F_) (σ : St) (H:Hp) (D:d0),Inv X pins σ H s->t D σ H->G_ (model X.prog X.w) X.A (execs st X.env) (SP X pins D) X.xe s
theorem bD{α:Type}{t:Sem α}{Q F:α->F_->Prop}{M:Model}(h:G_ M A t Q E s)(J:∀a s,Q a s->F a s):G_ M A t F E s:=MQ h J λ_ _ x=>x
section
variable{X:Cx}
def j8(i:Nat):TE:=λσ H Q=>∃v,σ[i]?=Sm (Sm v)/\Q v H
def tC(v:V):TE:=λ_ H Q=>Q v H
theorem JG(Y:X.N[i]?=Sm x)(hv:ap X.env.scope x)(hd:(x==("__debug__" : Str))=false:=by decide) (hcd:(x==("__classdict__" : Str))=false:=by decide):PE X (.Name x pos) (j8 i):=by
 intro pins s σ H Q I h;let#[v,e,h]:=h;let#[m,W,hl]:=I.loc;let#[u,r,l]:=hl i x v Y e hv;have J:EP X pins σ Q u s:=yI2 v H #[I,r,h];rcases l with ⟨O,U⟩ | ⟨O,c,S,F⟩
 .exact wpAny_Name (wpAny_loadName_local I.ok.kind O W U J) hd
 .rcases O with O | O
  .exact wpAny_Name (wpAny_loadName_cell I.ok.kind O S F J) hd
  .exact wpAny_Name (wpAny_loadName_free I.ok.kind O S F J hcd) hd
theorem af{i j pos}:PE X (.Constant (.int i) j pos) (tC (.int i)):=λ_ _ _ H _ I h=>wpAny_Constant_int (yI2 (.int i) H #[I.tok _,#[_,rfl],h])
theorem gC{b j pos}:PE X (.Constant (.bool b) j pos) (tC (.bl b)):=λ_ _ _ H _ I h=>Constant_bool (yI2 (.bl b) H #[I,rfl,h])
theorem dJ{j pos}:PE X (.Constant .none j pos) (tC .non):=λ_ _ _ H _ I h=>Constant_none (yI2 .non H #[I,rfl,h])
theorem ay{x j pos}:PE X (.Constant (.str x) j pos) (tC (.str x)):=λ_ _ _ H _ I h=>Calls.Constant_str (yI2 (.str x) H #[I.tok _,#[_,rfl],h])
def Gl(X:Cx)(x:Str):Prop:=X.env.kindOf x=Sm .globalImplicit
theorem vSs{s:L6}(h:(L2.rd s).names.lookup x=Sm .local):ap (L2.rd s) x:=Or.inl h
theorem vLl{s:L6}(h:(L2.rd s).names.lookup x=Sm .local):aK (L2.rd s) x:=Or.inl h
theorem vGg{s:L6}(h:(L2.rd s).names.lookup x=Sm .globalImplicit):(L2.rd s).names.lookup x=Sm .globalImplicit:=h
theorem nR{pins:List (so×Obj)}(I:Inv X pins σ H s)(hg:Gl X x)(F:X.mg x=Sm u)(h:Q u s)
  (hd:(x==("__debug__" : Str))=false:=by decide):G_ (model X.prog X.w) X.A (eval (.Name x pos) X.env) Q E s:=
 Calls.Name_function_global I.ok.kind hg (Calls.loadGlobal_global (by rw[I.ok.glob];exact I.mod.glob.keeps I.bk) F h) hd
theorem iW{pins:List (so×Obj)}(I:Inv X pins σ H s)(hg:Gl X x)(F:X.mg x=Nn)(hv:Mz x=Sm u)(h:Q u s)
  (J:x ≠ "__name__" := by decide) (hd:(x==("__debug__" : Str))=false:=by decide):G_ (model X.prog X.w) X.A (eval (.Name x pos) X.env) Q E s:=by
 let#[O,h1,h2]:=I.mod.blt;exact Calls.Name_function_global I.ok.kind hg (Calls.loadGlobal_builtin (by rw[I.ok.glob];exact I.mod.glob.keeps I.bk) F (by rw[I.ok.blt];exact h1.keeps I.bk) ((h2 x J).trans hv) h) hd
theorem EY(hg:Gl X x)(F:X.mg x=Sm u)(r:RelV v u)(hd:(x==("__debug__" : Str))=false:=by decide):PE X (.Name x pos) (tC v):=
 λ_ _ _ H _ I h=>nR I hg F (yI2 v H #[I,r,h]) hd
theorem Fi(hg:Gl X x)(F:X.mg x=Nn)(hv:Mz x=Sm u)(r:RelV v u)(J:x ≠ "__name__" := by decide) (hd:(x==("__debug__" : Str))=false:=by decide):PE X (.Name x pos) (tC v):=
 λ_ _ _ H _ I h=>iW I hg F hv (yI2 v H #[I,r,h]) J hd
variable{a b:Expr}{ta tb:TE}{pos:Pos}
def tB(t:TE):TT:=λσ H Q=>t σ H λx H1=>∃c,x = .bl c/\Q c H1
theorem cQ{t:TE}(h:PE X e t)(U:∀whole,isTrue e X.env whole=(do let v <-whole;standAt e.pos;holding [v] (truthy v)):=by intro _;rfl):PT X e (tB t):=by
 intro pins s σ H Q I O;refine isTrue_plain (bD (h pins s σ H _ I O) λv W ⟨x,H1,S,J,F⟩=>?_) (U _);let#[d,rfl,q]:=F;cases J;exact N4 #[H1,S,q]
variable{tA tB':TT}{Bv:LX}
def Gh(t u:TT):TT:=λσ H Q=>t σ H λc H1=>if c=true then u σ H1 Q else Q false H1
def K0(t u:TT):TT:=λσ H Q=>t σ H λc H1=>if c=true then Q true H1 else u σ H1 Q
def IA(t:TT):TT:=λσ H Q=>t σ H λc H1=>Q (!c) H1
theorem cS(F:PT X a tA):PW X (.BoolOp .And [a] pos) tA:=by
 intro J pins s σ H Q I h;refine isTrue_and (bD (F pins s σ H Q I h) λc O e=>?_);cases c with
 | true=>exact isTrue_and_nil e
 | false=>exact e
theorem tL(F:PT X a tA):PW X (.BoolOp .Or [a] pos) tA:=by
 intro J pins s σ H Q I h;refine isTrue_or (bD (F pins s σ H Q I h) λc O e=>?_);cases c with
 | false=>exact isTrue_or_nil e
 | true=>exact e
theorem cw(U:PT X a tA)(O:PW X (.BoolOp .And (b::Bv) pos) tB'):PW X (.BoolOp .And (a::b::Bv) pos) (Gh tA tB'):=by
 intro W pins s σ H Q I h;refine isTrue_and (bD (U pins s σ H _ I h) λc S ⟨H1,J,F⟩=>?_);cases c with
 | true=>exact O W pins S σ H1 Q J F
 | false=>exact#[H1,J,F]
theorem y8(U:PT X a tA)(O:PW X (.BoolOp .Or (b::Bv) pos) tB'):PW X (.BoolOp .Or (a::b::Bv) pos) (K0 tA tB'):=by
 intro W pins s σ H Q I h;refine isTrue_or (bD (U pins s σ H _ I h) λc S ⟨H1,J,F⟩=>?_);cases c with
 | true=>exact#[H1,J,F]
 | false=>exact O W pins S σ H1 Q J F
theorem i0(F:PT X a tA):PT X (.UnaryOp .Not a pos) (IA tA):=by
 intro pins s σ H Q I h;exact isTrue_not (F pins s σ H (λc H1=>Q (!c) H1) I h)
def F2(t:TT)(ta tb:TE):TE:=λσ H Q=>t σ H λc H1=>if c=true then ta σ H1 Q else tb σ H1 Q
theorem ft{c:Expr}(U:PT X c tA)(W:PE X a ta)(S:PE X b tb):PE X (.IfExp c a b pos) (F2 tA ta tb):=by
 intro pins s σ H Q I h;refine wpAny_IfExp (bD (U pins s σ H _ I h) λd O ⟨H1,J,F⟩=>?_);cases d with
 | true=>exact W pins O σ H1 Q J F
 | false=>exact S pins O σ H1 Q J F
end
def ud(K:K_)(H:Hp)(a:so)(xs:LM):Prop:=
 Rd H a (.lst xs)\/
  ∃(o:Obj) (its:LY) (n:Nat),K.lookup a=Sm o/\o.cls = .type "list" /\ o.dict=Nn/\o.data = .seq its n/\its.size<=L_/\Br xs its.toList
def su(K:K_)(H:Hp)(a:so)(xs:LM):Prop:=
 Rd H a (.tup xs)\/
  ∃(o:Obj) (its:LY) (n:Nat),K.lookup a=Sm o/\o.cls = .type "tuple" /\ o.data = .seq its n/\its.size<=L_/\Br xs its.toList
noncomputable def M8:KE->LR
 | .none=>Sm .non
 | .bool b=>Sm (.bl b)
 | .int i _=>Sm (.int i)
 | .str x _=>Sm (.str x)
 | .bytes b _=>Sm (.byt b)
 | .float b _=>Sm (.flt b)
 | .ref a=>Sm (.ref a)
 | .type n=>Sm (.ty n)
 | _=>Nn
theorem RelV.abs{x:V}{u:KE}(r:RelV x u):M8 u=Sm x:=by
 cases x with
 | non=>cases r;rfl
 | bl _=>cases r;rfl
 | int _=>let#[t,rfl]:=r;rfl
 | str _=>let#[t,rfl]:=r;rfl
 | byt _=>let#[t,rfl]:=r;rfl
 | flt _=>let#[t,rfl]:=r;rfl
 | ref _=>cases r;rfl
 | ty _=>cases r;rfl
theorem RelV.inj{x y:V}(r:RelV x u)(q:RelV y u):x=y:=Option.some.inj (r.abs.symm.trans q.abs)
theorem Br.inj{xs ys:LM}{F:LN}(h:Br xs F)(h':Br ys F):xs=ys:=by
 induction h generalizing ys with
 | nil=>cases h';rfl
 | cons r t ih=>
  cases h' with
  | cons r' t'=>rw[r.inj r',ih t']
section
variable{X:Cx}{pins:List (so×Obj)}{σ:St}{H:Hp}{s:F_}{a:so}{xs ys:LM}
theorem ud.of(h:H a=Sm (.lst xs)):ud K H a xs:=.inl (.inl h)
theorem su.of(h:H a=Sm (.tup xs)):su K H a xs:=.inl (.inl h)
theorem Inv.list(I:Inv X pins σ H s)(h:ud X.K H a xs):∃F:LN,Br xs F/\PlainL s.heap a F.toArray/\xs.length<=L_:=by
 rcases h with h | ⟨o,F,n,O,S,hd,J,hz,r⟩
 .refine yA2 (h.ok I.hok) λz=>yF2 λF n=>yB2 λr e=>?_;exact#[F,r,yI2 _ n #[e,rfl,rfl,rfl],z]
 .refine#[F.toList,r,yI2 o n #[I.kIn a o O,S,hd,by simpa using J],?_];have e:=r.length;simp only[ui]at e;lia
theorem Inv.tuple(I:Inv X pins σ H s)(h:su X.K H a xs):∃F:LN,Br xs F/\IsTup s.heap a F.toArray/\xs.length<=L_:=by
 rcases h with h | ⟨o,F,n,O,S,J,hz,r⟩
 .refine yA2 (h.ok I.hok) λz=>yF1 λF=>yB2 λr p=>?_;exact#[F,r,p.tup,z]
 .refine#[F.toList,r,#[o,I.kIn a o O,S,n,by simpa using J],?_];have e:=r.length;simp only[ui]at e;lia
theorem Inv.list_inj(I:Inv X pins σ H s)(h:ud X.K H a xs)(h':ud X.K H a ys):xs=ys:=by
 refine yE1 (I.list h) λF=>yB3 ?_;rintro r ⟨o,n,e,_,_,d⟩ _;refine yE1 (I.list h') λits'=>yB3 ?_;rintro O ⟨o',n',J,_,_,d'⟩ _;rw[e]at J;cases J;rw[d]at d';injection d' with d1 _
 have:F=its':=by simpa using congrArg Array.toList d1
 subst this;exact r.inj O
theorem Inv.tuple_inj(I:Inv X pins σ H s)(h:su X.K H a xs)(h':su X.K H a ys):xs=ys:=by
 refine yE1 (I.tuple h) λF=>yB3 ?_;rintro r ⟨o,e,_,n,d⟩ _;refine yE1 (I.tuple h') λits'=>yB3 ?_;rintro O ⟨o',J,_,n',d'⟩ _;rw[e]at J;cases J;rw[d]at d';injection d' with d1 _
 have:F=its':=by simpa using congrArg Array.toList d1
 subst this;exact r.inj O
end
noncomputable abbrev Cx.wish (X:Cx) (E:LH):Cx:={X with xe:=E}
noncomputable abbrev Cx.nox (X:Cx):Cx:=X.wish λ_ _=>False
theorem Cx.Ok.wish{X:Cx}(ok:X.Ok)(E:LH):(X.wish E).Ok:=
 #[ok.mod,ok.kind,ok.glob,ok.blt,ok.above,ok.inj,ok.has,ok.cab,ok.hd,ok.frames,ok.stk,ok.exf,ok.bs,ok.bsz,ok.noex,ok.exfs,ok.funs,ok.frf]
theorem Cx.Ok.unwish{X:Cx}(ok:(X.wish E).Ok):X.Ok:=
 #[ok.mod,ok.kind,ok.glob,ok.blt,ok.above,ok.inj,ok.has,ok.cab,ok.hd,ok.frames,ok.stk,ok.exf,ok.bs,ok.bsz,ok.noex,ok.exfs,ok.funs,ok.frf]
section
variable{X:Cx}{pins:List (so×Obj)}{σ:St}{H:Hp}{s:F_}{E:LH}
theorem Inv.wish(I:Inv X pins σ H s)(E:LH):Inv (X.wish E) pins σ H s:=#[I.ok.wish E,I.os,I.bare,I.base,I.loc,I.cell,I.free,I.freeC,I.pin,I.hok,I.len]
theorem Inv.unwish(I:Inv (X.wish E) pins σ H s):Inv X pins σ H s:=#[I.ok.unwish,I.os,I.bare,I.base,I.loc,I.cell,I.free,I.freeC,I.pin,I.hok,I.len]
theorem SP.unwish{D:d0}{f:Flow}{s':F_}(h:SP (X.wish E) pins D f s'):SP X pins D f s':=by
 cases f with
 | next=>revert h;refine yF2 λF H'=>yB2 λI q=>?_;exact yI2 F H' #[I.unwish,q]
 | brk=>revert h;refine yF2 λF H'=>yB2 λI q=>?_;exact yI2 F H' #[I.unwish,q]
 | cont=>revert h;refine yF2 λF H'=>yB2 λI q=>?_;exact yI2 F H' #[I.unwish,q]
 | ret u=>revert h;refine yF3 λv F H'=>yB3 λI r q=>?_;exact yI3 v F H' #[I.unwish,r,q]
theorem Hq.nox{st:List L6}{t:TS}(h:Hq X.nox st t):Hq X st t:=λpins s σ H D I F=>
 MQ (h pins s σ H D (I.wish _) F) (λ_ _ q=>q.unwish) λ_ _ z=>False.elim z
end
section
variable{X:Cx}{st:L6}{Bv:List L6}{t u:TS}{e:Expr}{te:TE}{pos:Pos}
def Ey:TS:=λD σ H=>D.nx σ H
def xv(t u:TS):TS:=λD σ H=>t {D with nx:=u D} σ H
theorem aL:Hq X [] Ey:=λ_ _ σ H _ I h=>N5 (yI2 σ H #[I,h])
theorem ah(h1:PS X st t)(h2:Hq X Bv u):Hq X (st::Bv) (xv t u):=by
 intro pins s σ H D I h;refine wpAny_execs_cons (bD (h1 pins s σ H {D with nx:=u D} I h) λf O q=>?_);cases f with
 | next=>
  revert q;refine yF2 λF H'=>yB2 λJ q=>?_;exact h2 pins O F H' D J q
 | ret v=>exact q
 | brk=>exact q
 | cont=>exact q
theorem aj(h1:PS X st t):Hq X [st] t:=by
 intro pins s σ H D I h;refine wpAny_execs_cons (bD (h1 pins s σ H D I h) λf F q=>?_);cases f with
 | next=>exact N5 q
 | ret v=>exact q
 | brk=>exact q
 | cont=>exact q
theorem Inv.quiet{pins:List (so×Obj)}(I:Inv X pins σ H s):interactive X.env=false:=by simp[interactive,I.ok.kind]
def Eg(te:TE):TS:=λD σ H=>te σ H λ_ H1=>D.nx σ H1
theorem bo(S:PE X e te)(J:swapsWith e Nn pos.line X.env=pure false:=by rfl):PS X (.Expr e pos) (Eg te):=by
 intro pins s σ H D I h;exact wpAny_Expr_any (bD (S pins s σ H _ I h) λv W ⟨x,H1,O,U,F⟩=>yI2 σ H1 #[O,F]) I.quiet J
def Dx(te:TE):TS:=λD σ H=>te σ H D.rt
theorem aA(S:PE X e te):PS X (.Return (Sm e) pos) (Dx te):=by
 intro pins s σ H D I h;exact wpAny_Return_some (bD (S pins s σ H _ I h) λv U ⟨x,H1,O,J,F⟩=>yI3 x σ H1 #[O,J,F])
def IB(c:TT)(t u:TS):TS:=λD σ H=>c σ H λb H1=>if b=true then t D σ H1 else u D σ H1
theorem aS{c:Expr}{a b:List L6}{tc:TT}(U:PT X c tc)(W:Hq X a t)(S:Hq X b u):PS X (.If c a b pos) (IB tc t u):=by
 intro pins s σ H D I h;refine wpAny_If (bD (U pins s σ H _ I h) λd O ⟨H1,J,F⟩=>?_);cases d with
 | true=>exact W pins O σ H1 D J F
 | false=>exact S pins O σ H1 D J F
end
abbrev TG:=V->St->Hp->(St->Hp->Prop)->Prop
abbrev gL:=LM->St->Hp->(St->Hp->Prop)->Prop
def PG(X:Cx)(target:Expr)(t:TG):Prop:=
 ∀(pins:List (so×Obj)) (s:F_) (σ : St) (H:Hp) (v:V) (u:KE) (Q:St->Hp->Prop),Inv X pins σ H s->RelV v u->t v σ H Q->
  G_ (model X.prog X.w) X.A (assign target X.env u) (λ_ s'=>∃σ' H',Inv X pins σ' H' s'/\Q σ' H') X.xe s
def JD(X:Cx)(ts:LX)(t:gL):Prop:=
 ∀(pins:List (so×Obj)) (s:F_) (σ : St) (H:Hp) (vs:LM) (us:LN) (Q:St->Hp->Prop),Inv X pins σ H s->Br vs us->t vs σ H Q->
  G_ (model X.prog X.w) X.A (assignInOrder ((assignEach ts X.env).map (·.2)) us) (λ_ s'=>∃σ' H',Inv X pins σ' H' s'/\Q σ' H') X.xe s
abbrev nW:=V->V->V->Hp->(Hp->Prop)->Prop
def HR(X:Cx)(t:nW):Prop:=
 ∀(pins:List (so×Obj)) (s:F_) (σ : St) (H:Hp) (o i v:V) (ov iv u:KE) (Q:Hp->Prop),Inv X pins σ H s->RelV o ov->RelV i iv->RelV v u->t o i v H Q->
  G_ (model X.prog X.w) X.A (setItem ov iv u) (λ_ s'=>∃H',Inv X pins σ H' s'/\Q H') X.xe s
section
variable{X:Cx}{pos:Pos}
def iB(i:Nat):TG:=λv σ H Q=>Q (σ.set i (Sm v)) H
theorem FR(J:X.N.Nodup)(hi:X.N[i]?=Sm x)(hx:aK X.env.scope x)(hf:X.fn x=true\/X.env.scope.names.lookup x=Sm .local:=by first | exact .inl rfl | exact .inr rfl | assumption):PG X (.Name x pos) (iB i):=by
 intro pins s σ H v u Q I r h;exact wpAny_assign_Name (tJ I J hi hx r (λs' F=>yI2 _ H #[F,h]) hf)
def x_:gL:=λvs σ H Q=>vs=[]/\Q σ H
def qQ(t:TG)(u:gL):gL:=λvs σ H Q=>∃v r,vs=v::r/\t v σ H λσ' H'=>u r σ' H' Q
theorem gT:JD X [] x_:=by
 intro pins s σ H vs F Q I r h;let#[e,h]:=h;subst e;cases r;exact assignInOrder_nil (yI2 σ H #[I,h])
theorem cG{e:Expr}{es:LX}{t:TG}{u:gL}(h1:PG X e t)(h2:JD X es u)
  (O:(assignEach (e::es) X.env).map (·.2)=assign e X.env::(assignEach es X.env).map (·.2):=by rfl):JD X (e::es) (qQ t u):=by
 intro pins s σ H vs Y Q I r h;revert h;refine yF2 λv Z=>yB2 λW h=>?_;subst W;cases r with
 | cons r rr=>
  rw[O];refine assignInOrder_cons (bD (h1 pins s σ H _ _ _ I r h) λ_ U ⟨F,H1,S,J⟩=>?_);exact h2 pins U F H1 _ _ Q S rr J
def xS(K:K_)(n:Nat)(t:gL):TG:=λv σ H Q=>∃a xs,v = .ref a/\su K H a xs/\xs.length=n/\t xs σ H Q
theorem Je{es:LX}{k:Nat}{t:gL}{n:Nat}(S:X.calm=true)(h:JD X es t)
  (O:(assignEach es X.env).length=n:=by rfl) (hst:(assignEach es X.env).findIdx? (·.1)=Nn:=by rfl):PG X (.Tuple es k pos) (xS X.K n t):=by
 intro pins s σ H v u Q I r F;revert F;refine yF2 λa xs=>yB4 λY U hl F=>?_;subst Y;cases r;refine yE1 (I.tuple U) λab=>yB3 λJ Z hz=>?_;refine assign_Tuple_tuple (I.ok.hd S) Z (by simp[O,<-hl,J.length]) hst λh' hx=>?_;have W:Inv X pins σ H {s with heap:=h'}:=I.kept (t':=s.toks) λb o e=>hx b o (xg (yo e)) e;exact h pins _ σ H xs _ Q W (by simpa using J) F
def HK(to ti:TE)(t:nW):TG:=λv σ H Q=>to σ H λo H1=>ti σ H1 λi H2=>t o i v H2 λH3=>Q σ H3
theorem kM{o i:Expr}{to ti:TE}{t:nW}(ho:PE X o to)(hi:PE X i ti)(W:HR X t)
  (ha:∀v,assign (.Subscript o i pos) X.env v=(do
   let F <-holding [v] (eval o X.env);let J <-holding [v,F] (eval i X.env)
   standAt pos
   holding [v,F,J] (setItem F J v)
   release [v,F,J] []):=by intro _;rfl):PG X (.Subscript o i pos) (HK to ti t):=by
 intro pins s σ H v u Q I r h;rw[ha];refine KL (Ms (bD (ho pins s σ H _ I h) λF s1 ⟨x,H1,Y,S,O⟩=>?_));refine KL (Ms (bD (hi pins s1 σ H1 _ Y O) λJ s2 ⟨y,H2,I2,Z,q2⟩=>?_));refine KL (wpAny_standAt (KL (Ms (bD (W pins s2 σ H2 x y v F J u _ I2 S Z r q2) λ_ s3 ⟨H3,I3,U⟩=>?_))));exact wpAny_release (yI2 σ H3 #[I3,U])
def oT(te:TE)(g:TG):TS:=λD σ H=>te σ H λx H1=>g x σ H1 D.nx
theorem iT{te:TE}{g:TG}(U:PE X e te)(hg:PG X tg g)(O:swapsWithSole [tg] e pos.line X.env=pure false:=by rfl)(hw:swappedStores [tg] e X.env=pure Nn:=by rfl)
  (h1:(assignEach [tg] X.env).map (·.2)=[assign tg X.env]:=by rfl):PS X (.Assign [tg] e pos) (oT te g):=by
 intro pins s σ H D I h;refine wpAny_Assign_stores (bD (U pins s σ H _ I h) λv W ⟨x,H1,S,J,F⟩=>?_) O hw;rw[h1];exact bD (hg pins W σ H1 x v _ S J F) λ_ s2 q=>q
theorem Hg{te:TE}{pos':Pos}(U:X.N.Nodup)(hi:X.N[i]?=Sm x)(hx:aK X.env.scope x)(W:PE X e te)(O:swapsWith e (Sm (.Name x pos')) pos.line X.env=pure false:=by rfl)(hf:X.fn x=true\/X.env.scope.names.lookup x=Sm .local:=by first | exact .inl rfl | exact .inr rfl | assumption) :
  PS X (.Assign [.Name x pos'] e pos) (oT te (iB i)):=by
 intro pins s σ H D I h;refine wpAny_Assign_Name (bD (W pins s σ H _ I h) λv Z ⟨y,H1,S,J,F⟩=>?_) O;exact tJ S U hi hx J (λs2 Y=>yI2 _ H1 #[Y,F]) hf
end
section
variable{X:Cx}{pos:Pos}
def F1(c:TT)(tb:TS):TS:=λD σ H=>∃W:Nat->St->Hp->Prop,(∃m,W m σ H)/\∀m σ H,W m σ H->
 c σ H λb H1=>if b=true then ∃N:St->Hp->Prop,(∀σ' H',N σ' H'->∃m',m'<m/\W m' σ' H')/\tb {D with nx:=N,ct:=N,bk:=D.nx} σ H1 else D.nx σ H1
theorem j3{c:Expr}{F:List L6}{tc:TT}{tb:TS}(hp:PassesOwn (model X.prog X.w) X.A X.env X.xe)(hc:PT X c tc)(hb:Hq X F tb):PS X (.While c F [] pos) (F1 tc tb):=by
 intro pins s σ H D I h;let#[W,#[m0,w0],O]:=h;refine wpAny_While (codeAny_whileLoop (λn s'=>∃σ' H',Inv X pins σ' H' s'/\W n σ' H') ?_ m0 (yI2 σ H #[I,w0]));intro n s1;refine yF2 λY H1=>yB2 λI1 w1=>?_;refine NC hp (bD (hc pins s1 Y H1 _ I1 (O n Y H1 w1)) λb s2 ⟨H2,I2,Z⟩=>?_);cases b with
 | true=>
  let#[N,hN,Z]:=Z;rw[KZ rfl];refine NC hp (bD (hb pins s2 Y H2 _ I2 Z) λf s3 U=>?_);cases f with
  | next=>
   revert U;refine yF2 λJ S=>yB2 λI3 n3=>?_;let#[m',hm,w3]:=hN J S n3;exact#[m',hm,yI2 J S #[I3,w3]]
  | cont=>
   revert U;refine yF2 λJ S=>yB2 λI3 n3=>?_;let#[m',hm,w3]:=hN J S n3;exact#[m',hm,yI2 J S #[I3,w3]]
  | brk=>exact U
  | ret v=>exact U
 | false=>
  rw[KQ xO];exact N5 (yI2 Y H2 #[I2,Z])
end
set_option genInjectivity false in
set_option genSizeOf false in
structure It where
 go:Nat->Hp->Prop
 yld:Nat->Hp->V->Hp->Prop
 stop:Nat->Hp->Prop
def iZ(X:Cx)(pins:List (so×Obj))(H:Hp)(b:so):Prop:=
 H b=Nn/\b≠X.env.locals/\b∉X.fs/\(b∈X.ex\/X.s₀.heap.objs.size<=b)/\(∀x c,X.env.cells.lookup x=Sm c->c≠b)/\∀p∈X.pn++pins,p.1≠b
theorem Inv.fpOk{X:Cx}{pins:List (so×Obj)}{H':Hp}(I:Inv X pins σ H s)(F:s.heap.objs.size<=b)(O:H' b=Nn):iZ X pins H' b:=by
 refine#[O,II (oG I.lt F),I.nofs F,.inr (xH I.sz F),λx c e z=>?_,λp J z=>?_]
 .let#[v,q]:=I.cell x c e;exact absurd (oG q.lt (by rw[z];exact F)) (Jw _)
 .exact absurd (oG (yo (I.pin p J).1) (by rw[z];exact F)) (Jw _)
structure k7 (P:Lw) (w:Lu) (K:K_) (tg:Expr) (J:It) (fp:LL) (it:so) (tn:Nat->Lv->Prop):Prop where
 mem:it∈fp
 obj:∀i h,tn i h->∀b∈fp,∃o,h.get? b=Sm o/\∀v,o.data ≠ .cell v
 keep:∀i h h',tn i h->(∀b∈fp,∀o,h.get? b=Sm o->h'.get? b=Sm o)->tn i h'
 item:∀(X:Cx),X.prog=P->X.w=w->X.K=K->X.calm=true->∀(i:Nat) (pins:List (so×Obj)) (s:F_) (σ : St) (H:Hp) (E:LH),Inv X pins σ H s->(∀b∈fp,iZ X pins H b)->tn i s.heap->J.go i H->
  G_ (model P w) X.A (pyNext (.ref it)) (λr s1=>∃u,r=Sm u/\
   G_ (model P w) X.A (letOwnedTupleGo tg (.ref it) u) (λ_ s2=>∃x H',Inv X pins σ H' s2/\RelV x u/\J.yld i H x H'/\tn (i+1) s2.heap/\∀b∈fp,H' b=Nn) E s1) E s
 done:∀(X:Cx),X.prog=P->X.w=w->X.K=K->X.calm=true->∀(i:Nat) (pins:List (so×Obj)) (s:F_) (σ : St) (H:Hp) (E:LH),Inv X pins σ H s->(∀b∈fp,iZ X pins H b)->tn i s.heap->J.stop i H->
  G_ (model P w) X.A (pyNext (.ref it)) (λr s1=>r=Nn/\Inv X pins σ H s1) E s
 self:∀(A:Mc) (i:Nat) (s:F_) (Q:LH) (E:LH),tn i s.heap->Q (.ref it) s->G_ (model P w) A (pyIter (.ref it)) Q E s
abbrev TI:=St->Hp->(It->Hp->Prop)->Prop
def K5(X:Cx)(pins:List (so×Obj))(σ : St)(tg:Expr)(R:It->Hp->Prop)(itv:KE)(s2:F_):Prop:=
 ∃(it:so) (fp:LL) (tn:Nat->Lv->Prop) (J:It) (H':Hp),itv = .ref it/\Inv X pins σ H' s2/\k7 X.prog X.w X.K tg J fp it tn/\tn 0 s2.heap/\(∀b∈fp,iZ X pins H' b)/\R J H'
def PI(X:Cx)(tg iter:Expr)(wi:TI):Prop:=
 ∀(pins:List (so×Obj)) (s:F_) (σ : St) (H:Hp) (R:It->Hp->Prop),Inv X pins σ H s->wi σ H R->
  G_ (model X.prog X.w) X.A (eval iter X.env) (λv s1=>G_ (model X.prog X.w) X.A (pyIter v) (K5 X pins σ tg R) X.xe s1) X.xe s
theorem zb{M:Model}{A:Mc}{E:LH}{s:F_}{tg:Expr}{it:so}{u:KE}{o:Obj}{n:String}{vs:LY}{Q:Unit->F_->Prop}(J:s.heap.get? it=Sm o)(S:o.cls = .type n)(hd:o.data = .fields vs)
    (O:["enumerate","zip","dict_itemiterator","dict_reverseitemiterator","odict_iterator","itertools.zip_longest","itertools.pairwise"].contains n=false) (F:Q Unit.unit s):G_ M A (letOwnedTupleGo tg (.ref it) u) Q E s:=by
  unfold letOwnedTupleGo;cases tg<;>first
    | exact KP F
    | (cases u<;>first
        | exact KP F
        | (refine KL (wpAny_load J ?_)
           rw[S,hd];show G_ M A (if (["enumerate","zip","dict_itemiterator","dict_reverseitemiterator","odict_iterator","itertools.zip_longest","itertools.pairwise"].contains n&&vs[0]? == Sm (rawInt _))=true then _ else _) Q E s;rw[KQ (by intro h;rw[O,Bool.false_and]at h;cases h)];exact KP F))
noncomputable def ny(K:K_)(a:so):It:=
 #[λi H=>∃xs x,ud K H a xs/\xs[i]?=Sm x,λi H x H'=>H'=H/\∀xs,ud K H a xs->xs[i]?=Sm x,λi H=>∃xs,ud K H a xs/\xs.length<=i]
noncomputable def wy(K:K_)(a:so):It:=
 #[λi H=>∃xs x,su K H a xs/\xs[i]?=Sm x,λi H x H'=>H'=H/\∀xs,su K H a xs->xs[i]?=Sm x,λi H=>∃xs,su K H a xs/\xs.length<=i]
noncomputable def mO(lo:Int)(n:Nat):It:=#[λi _=>i<n,λi H x H'=>H'=H/\x = .int (lo+i),λi _=>n<=i]
theorem Bd{P:Lw}(a it:so):k7 P w K tg (ny K a) [it] it (λi h=>h.IsListIter it a i) where
 mem:='~'
 obj:=λi h st b F=>by
  have e:b=it:=by simpa using F
  subst e;revert st;refine yF1 λo=>yB3 λe c d=>?_;exact#[o,e,λv z=>by rw[d]at z;cases z]
 keep:=λi h h' st k=>st.at λo e=>k it '~' o e
 item:=by
  intro X hP U S hc i pins s σ H E I hf st hg;subst hP U S;revert hg;refine yF2 λxs x=>yB2 λO hx=>?_;refine yE1 (I.list O) λab=>yB3 λrv p hz=>?_;let#[u,hu,ru]:=rv.get hx;refine yA6 (hf it '~') λY f1 f2 f3 Z f5=>?_;refine wpAny_pyNext_list_item st p.isList (x:=u) (by simpa using hu) λh' J sb=>?_;have I1:Inv X pins σ H {s with heap:=h'}:=I.turned (t':=s.toks) (λb o F e=>(sb.2 b F).trans e) Y f1 f3 Z f5;refine yE1 (id J) λo=>yB3 λe c d=>?_;exact#[u,rfl,zb (s:={s with heap:=h'}) e c d ∅ (yI2 x H #[I1,ru,#[rfl,λys hy=>by rw[I.list_inj hy O];exact hx],J,λb F=>(hf b F).1])]
 done:=by
  intro X hP U S hc i pins s σ H E I hf st hg;subst hP U S;let#[xs,O,hx]:=hg;refine yE1 (I.list O) λab=>yB3 λrv p hz=>?_;refine yA6 (hf it '~') λY f1 f2 f3 Z f5=>?_;have hl:=rv.length;exact wpAny_pyNext_list_end (I.ok.hd hc) st p.isList (by simp;lia) λh' eb=>#[rfl,I.turned (t':=s.toks) (λb o F e=>eb b o F e) Y f1 f3 Z f5]
 self:=λ_ _ _ _ _ st h=>wpAny_pyIter_listiter st h
theorem yI{P:Lw}(a it:so):k7 P w K tg (wy K a) [it] it (λi h=>h.IsTupleIter it a i) where
 mem:='~'
 obj:=λi h st b J=>by
  have e:b=it:=by simpa using J
  subst e;revert st;refine yF1 λo=>yB3 λe c d=>?_;exact#[o,e,λv z=>by rw[d]at z;cases z]
 keep:=λi h h' st k=>st.at λo e=>k it '~' o e
 item:=by
  intro X hP Y U hc i pins s σ H E I hf st hg;subst hP Y U;revert hg;refine yF2 λxs x=>yB2 λS hx=>?_;refine yE1 (I.tuple S) λF=>yB3 λrv p hz=>?_;let#[u,hu,ru]:=rv.get hx;refine yA6 (hf it '~') λZ f1 f2 f3 f4 f5=>?_;refine wpAny_pyNext_tuple_item st (show s.heap.IsTuple a F.toArray from p) (x:=u) (by simpa using hu) λh' O sb=>?_;have I1:Inv X pins σ H {s with heap:=h'}:=I.turned (t':=s.toks) (λb o J e=>(sb.2 b J).trans e) Z f1 f3 f4 f5;refine yE1 (id O) λo=>yB3 λe c d=>?_;exact#[u,rfl,zb (s:={s with heap:=h'}) e c d ∅ (yI2 x H #[I1,ru,#[rfl,λys hy=>by rw[I.tuple_inj hy S];exact hx],O,λb J=>(hf b J).1])]
 done:=by
  intro X hP Y U hc i pins s σ H E I hf st hg;subst hP Y U;let#[xs,S,hx]:=hg;refine yE1 (I.tuple S) λF=>yB3 λrv p hz=>?_;refine yA6 (hf it '~') λZ f1 f2 f3 f4 f5=>?_;have hl:=rv.length;exact wpAny_pyNext_tuple_end (I.ok.hd hc) st (show s.heap.IsTuple a F.toArray from p) (by simp;lia) λh' eb=>#[rfl,I.turned (t':=s.toks) (λb o J e=>eb b o J e) Z f1 f3 f4 f5]
 self:=λ_ _ _ _ _ st h=>wpAny_pyIter_tupleiter st h
theorem zd{P:Lw}{K:PySem.W.Frag}(it:so)(lo:Int)(n:Nat):k7 P w K tg (mO lo n) [it] it (λi h=>IsRangeIter h it (lo+(i:Nat)*1) ((n:Int)-(i:Nat)) 1) where
 mem:='~'
 obj:=λi h st b F=>by
  have e:b=it:=by simpa using F
  subst e;exact⟨_,st,λv z=>by
   have z':Data.fields _=Data.cell v:=z;cases z'⟩
 keep:=λi h h' st k=>k it '~' _ st
 item:=by
  intro X Z S O U i pins s σ H E I hf st hg;subst Z S O;refine yA6 (hf it '~') λf0 f1 f2 Y f4 f5=>?_;have W:=Walks.range (prog:=X.prog) (w:=X.w) (I.ok.hd U) it lo 1 n;refine W.item i s _ _ hg st λv h' tk hv J kk=>?_;let#[t,rfl]:=hv;have I1:Inv X pins σ H {s with heap:=h',toks:=tk}:=I.turned (λb o F e=>kk b o (by simpa using F) e) f0 f1 Y f4 f5;refine#[_,rfl,zb (s:={s with heap:=h',toks:=tk}) (n := "range_iterator") J rfl rfl ∅ (yI2 (.int (lo+i)) H #[I1,#[t,?_],#[rfl,rfl],J,λb F=>(hf b F).1])];rw[Int.mul_one]
 done:=by
  intro X Z S O U i pins s σ H E I hf st hg;subst Z S O;refine yA6 (hf it '~') λf0 f1 f2 Y f4 f5=>?_;exact wpAny_pyNext_range_end (I.ok.hd U) st (by have:n<=i:=hg;lia) λh' eb=>#[rfl,I.turned (t':=s.toks) (λb o F e=>eb b o F e) f0 f1 Y f4 f5]
 self:=λ_ _ _ _ _ st h=>wpAny_pyIter_rangeiter st h
section
variable{X:Cx}{tg:Expr}
def xC(K:K_)(tl:TE):TI:=λσ H R=>tl σ H λx H1=>∃a,x = .ref a/\(∃xs,ud K H1 a xs)/\R (ny K a) H1
def Dg(K:K_)(tl:TE):TI:=λσ H R=>tl σ H λx H1=>∃a,x = .ref a/\(∃xs,su K H1 a xs)/\R (wy K a) H1
theorem Ff{l:Expr}{tl:TE}(hl:PE X l tl):PI X tg l (xC X.K tl):=by
 intro pins s σ H R I h;refine bD (hl pins s σ H _ I h) λv J ⟨x,H1,F,S,O⟩=>?_;revert O;refine yF1 λa=>yB3 ?_;rintro e ⟨xs,W⟩ q;subst e;cases S;refine yE1 (F.list W) λY=>yB3 λZ p hz=>?_;refine wpAny_pyIter_list p.isList ?_;refine yI5 J.heap.objs.size ([J.heap.objs.size]) _ _ H1 #[rfl,F.kept (t':=J.toks) λb o e=>yK _ e,Bd a _,#[_,xb _ rfl,rfl,rfl],λb U=>?_,q];have e:b=J.heap.objs.size:=by simpa using U
 subst e;exact F.fpOk (zu _) (F.hok.fresh (zu _))
theorem Hl{l:Expr}{tl:TE}(hl:PE X l tl):PI X tg l (Dg X.K tl):=by
 intro pins s σ H R I h;refine bD (hl pins s σ H _ I h) λv F ⟨x,H1,J,U,S⟩=>?_;revert S;refine yF1 λa=>yB3 ?_;rintro e ⟨xs,Y⟩ q;subst e;cases U;refine yE1 (J.tuple Y) λO=>yB3 λZ p hz=>?_;refine wpAny_pyIter_tuple (show F.heap.IsTuple a O.toArray from p) ?_;refine yI5 F.heap.objs.size ([F.heap.objs.size]) _ _ H1 #[rfl,J.kept (t':=F.toks) λb o e=>yK _ e,yI a _,#[_,xb _ rfl,rfl,rfl],λb W=>?_,q];have e:b=F.heap.objs.size:=by simpa using W
 subst e;exact J.fpOk (zu _) (J.hok.fresh (zu _))
theorem Bz{pins:List (so×Obj)}{R:It->Hp->Prop}{lo hi:Int}{t u v:Tok}{F:Nat}(I:Inv X pins σ H s)(h1:-(2^62)<=lo)(h2:lo<2^62)(S:-(2^62)<=hi)(W:hi<2^62)
  (q:R (mO lo (hi-lo).toNat) H):G_ (model X.prog X.w) X.A (pyIter (.ref s.heap.objs.size)) (K5 X pins σ tg R) E {s with heap:=s.heap.push {cls:=.type "range",data:=.fields #v[.int lo t,.int hi u,.int 1 v]},toks:=F}:=by
 refine wpAny_pyIter_range (IsRange.new ..) (small_one h1 h2 S W) ?_;have J:Inv X pins σ H {s with heap:=s.heap.push {cls:=.type "range",data:=.fields #v[.int lo t,.int hi u,.int 1 v]},toks:=F}:=I.kept λb o e=>yK _ e;refine⟨(s.heap.push {cls:=.type "range",data:=.fields #v[.int lo t,.int hi u,.int 1 v]}).objs.size,[(s.heap.push {cls:=.type "range",data:=.fields #v[.int lo t,.int hi u,.int 1 v]}).objs.size],_,_,H,rfl,
  J.kept (t':=F) λb o e=>yK _ e,zd _ lo (hi-lo).toNat,?_,λb O=>?_,q⟩
 .have U:lo+((0:Nat):Int)*1=lo:='~';have Y:(((hi-lo).toNat:Nat):Int)-((0:Nat):Int)=Mp.Range.rangeSize lo hi 1:=by rw[rangeSize_one];split<;>lia
  show IsRangeIter _ _ (lo+((0:Nat):Int)*1) ((((hi-lo).toNat:Nat):Int)-((0:Nat):Int)) 1;rw[U,Y];exact xb _ rfl
 .have e:b=(s.heap.push {cls:=.type "range",data:=.fields #v[.int lo t,.int hi u,.int 1 v]}).objs.size:=by simpa using O
  subst e;exact J.fpOk (zu _) (J.hok.fresh (zu _))
def Et(ta:TA):TI:=λσ H R=>ta σ H λvs H1=>∃j:Int,vs=[.int j]/\-(2^62)<=j/\j<2^62/\R (mO 0 j.toNat) H1
theorem fA{a:Expr}{ta:TA}{p pos:Pos}(hg:Gl X "range") (O:X.mg "range" = Nn) (W:PA X [a] ta) (S:Mh [a] X.env=[(false,eval a X.env)]:=by rfl):PI X tg (.Call (.Name "range" p) [a] [] pos) (Et ta):=by
 intro pins s σ H R I h;refine Call_ (iW I hg O boot_range (zaV (bD (W pos pins s σ H _ I h) λZ s1 ⟨vs,H1,U,J,F⟩=>?_) S rfl));revert F;refine yF1 λj=>yB4 λe F Y q=>?_;subst e;cases J with
 | cons r rr=>
  cases rr;let#[t,rfl]:=r;exact call_range_1 (Bz U () () F Y (by simpa using q))
def Gf(wi:TI)(g:TG)(tb:TS):TS:=λD σ H=>wi σ H λJ H1=>∃W:Nat->Nat->St->Hp->Prop,(∃m,W 0 m σ H1)/\∀i m σ H,W i m σ H->
 (J.stop i H/\D.nx σ H)\/(J.go i H/\∃N:St->Hp->Prop,(∀σ' H',N σ' H'->∃m',m'<m/\W (i+1) m' σ' H')/\∀x H',J.yld i H x H'->g x σ H' λσ2 H2=>tb {D with nx:=N,ct:=N,bk:=D.nx} σ2 H2)
noncomputable def lb(fp:LL)(h:Lv):List (so×Obj):=fp.filterMap λb=>(h.get? b).map λo=>(b,o)
theorem iz{fp:LL}{o:Obj}(F:b∈fp)(e:h.get? b=Sm o):(b,o)∈lb fp h:=List.mem_filterMap.mpr #[b,F,by rw[e];rfl]
theorem zP{fp:LL}{h:Lv}{p:so×Obj}(F:p∈lb fp h):p.1∈fp/\h.get? p.1=Sm p.2:=by
 let#[b,O,e]:=List.mem_filterMap.mp F;cases q:h.get? b with
 | none=>rw[q]at e;cases e
 | some o=>
  rw[q]at e;have J:(b,o)=p:=Option.some.inj e;subst J;exact#[O,q]
theorem Inv.pinned{pins:List (so×Obj)}{fp:LL}(I:Inv X pins σ H s)(hf:∀b∈fp,iZ X pins H b)(Y:∀b∈fp,∃o,s.heap.get? b=Sm o/\∀v,o.data ≠ .cell v):Inv X (pins++lb fp s.heap) σ H s:=
 I.pins_of λp O=>(K8.mp O).elim (λz=>I.pin p (nS _ z)) λz=>by
  let#[F,e]:=zP z;refine yA4 (hf p.1 F) λU S W _=>?_;let#[o,J,d]:=Y p.1 F;rw[e]at J;cases J;exact#[e,U,S,W,d]
theorem Inv.unpinned{pins pl:List (so×Obj)}(I:Inv X (pins++pl) σ H s):Inv X pins σ H s:=I.pins_of λp F=>I.pin p (nS _ (sE _ F))
theorem bT{iter:Expr}{ab:List L6}{wi:TI}{g:TG}{tb:TS}{pos:Pos}(hp:PassesOwn (model X.prog X.w) X.A X.env X.xe)(hc:X.calm=true)(hi:PI X tg iter wi)(hg:PG X tg g)(Y:Hq X ab tb)
  (hs:∀x,foldedSetIterable iter X.env x=pure x:=by intro _;rfl):PS X (.For tg iter ab [] pos) (Gf wi g tb):=by
 intro pins s σ H D I h;refine wpAny_For (bD (hi pins s σ H _ I h) λv s1 h1=>bD h1 λa5 s2 h2=>?_) hs;revert h2;refine yF5 λit fp tn J H2=>yB6 λe I2 T as f2=>yF1 λW=>yB2 ?_;rintro ⟨m0,w0⟩ al;subst e;have O:∀ {H':Hp},(∀b∈fp,H' b=Nn)->∀b∈fp,iZ X pins H' b:=λhn b Y=>#[hn b Y,(f2 b Y).2];refine codeAny_forLoop_any (λn s'=>∃i σ' H',Inv X pins σ' H' s'/\tn i s'.heap/\(∀b∈fp,H' b=Nn)/\W i n σ' H') ?_ m0 (yI3 0 σ H2 #[I2,as,λb Y=>(f2 b Y).1,w0]);intro n s3;refine yF3 λi σ3 H3=>yB4 λI3 ag ad w3=>?_;rcases al i n σ3 H3 w3 with ⟨stop,qn⟩ | ⟨go,N,hN,step⟩
 .refine NC hp (bD (T.done X rfl rfl rfl hc i pins s3 σ3 H3 X.xe I3 (O ad) ag stop) λr s4 ⟨hr,I4⟩=>?_);subst hr;exact N5 (yI2 σ3 H3 #[I4,qn])
 .refine NC hp (bD (T.item X rfl rfl rfl hc i pins s3 σ3 H3 X.xe I3 (O ad) ag go) λr s4 ⟨u,hr,h4⟩=>?_);subst hr;refine NC hp (bD h4 λ_ s5 ⟨x,H5,I5,r5,y5,ac,a4⟩=>?_);have a3:=I5.pinned (O a4) (T.obj _ _ ac);refine NC hp (bD (hg _ s5 σ3 H5 x u _ a3 r5 (step x H5 y5)) λ_ s6 ⟨σ6,H6,I6,q6⟩=>?_);refine NC hp (bD (Y _ s6 σ6 H6 _ I6 q6) λf s7 Z=>?_);have again:∀ {S:St} {U:Hp},Inv X (pins++lb fp s5.heap) S U s7->N S U->∃m,m<n/\∃i σ' H',Inv X pins σ' H' s7/\tn i s7.heap/\(∀b∈fp,H' b=Nn)/\W i m σ' H':=λ{S U} F n7=>by
   let#[m',hm,w7]:=hN S U n7;refine#[m',hm,yI3 (i+1) S U #[F.unpinned,T.keep _ _ _ ac λb Y o e=>(F.pin (b,o) (nS _ (nS _ (iz Y e)))).1,λb Y=>?_,w7]];let#[o,e,d]:=T.obj _ _ ac b Y;exact(F.pin (b,o) (nS _ (nS _ (iz Y e)))).2.1
  cases f with
  | next=>revert Z;refine yF2 λS U=>yB2 λF n7=>?_;exact again F n7
  | cont=>revert Z;refine yF2 λS U=>yB2 λF n7=>?_;exact again F n7
  | brk=>revert Z;refine yF2 λS U=>yB2 λF Z=>?_;exact yI2 S U #[F.unpinned,Z]
  | ret v=>revert Z;refine yF3 λx7 S U=>yB3 λF r7 Z=>?_;exact yI3 x7 S U #[F.unpinned,r7,Z]
end
theorem Dv{K:PySem.W.Frag}{xs:LM}{g:TG}{tb:TS}{D:d0}(F:Nat->St->Hp->Prop)(U:F 0 σ H)(hl:∀i σ H,i<=xs.length->F i σ H->ud K H a xs)
  (S:∀i x σ H,xs[i]?=Sm x->F i σ H->g x σ H λJ H2=>tb {D with nx:=F (i+1),ct:=F (i+1),bk:=D.nx} J H2) (hd:∀σ H,F xs.length σ H->D.nx σ H) :
  ∃W:Nat->Nat->St->Hp->Prop,(∃m,W 0 m σ H)/\∀i m σ H,W i m σ H->
   ((ny K a).stop i H/\D.nx σ H)\/((ny K a).go i H/\∃N:St->Hp->Prop,(∀O H',N O H'->∃m',m'<m/\W (i+1) m' O H')/\∀x H',(ny K a).yld i H x H'->g x σ H' λJ H2=>tb {D with nx:=N,ct:=N,bk:=D.nx} J H2):=by
 refine#[λi m σ H=>m=xs.length-i/\i<=xs.length/\F i σ H,#[xs.length,'~',gV _,U],?_];rintro i m σ H ⟨rfl,hi,p⟩;have q:=hl i σ H hi p;by_cases hlt:i<xs.length
 .refine .inr #[yI2 xs (xs[i]) #[q,by simp[hlt]],F (i+1),λO H' Y=>#[xs.length-(i+1),(),rfl,hlt,Y],λx H' y=>?_];let#[e,y]:=y;subst e;exact S i x σ _ (y xs q) p
 .have e:i=xs.length:=()
  subst e;exact .inl #[#[xs,q,zu _],hd σ H p]
theorem zD{lo:Int}{n:Nat}{g:TG}{tb:TS}{D:d0}(F:Nat->St->Hp->Prop)(U:F 0 σ H)
  (S:∀i σ H,i<n->F i σ H->g (.int (lo+i)) σ H λJ H2=>tb {D with nx:=F (i+1),ct:=F (i+1),bk:=D.nx} J H2) (hd:∀σ H,F n σ H->D.nx σ H) :
  ∃W:Nat->Nat->St->Hp->Prop,(∃m,W 0 m σ H)/\∀i m σ H,W i m σ H->
   ((mO lo n).stop i H/\D.nx σ H)\/((mO lo n).go i H/\∃N:St->Hp->Prop,(∀O H',N O H'->∃m',m'<m/\W (i+1) m' O H')/\∀x H',(mO lo n).yld i H x H'->g x σ H' λJ H2=>tb {D with nx:=N,ct:=N,bk:=D.nx} J H2):=by
 refine#[λi m σ H=>m=n-i/\i<=n/\F i σ H,#[n,'~',gV _,U],?_];rintro i m σ H ⟨rfl,hi,p⟩;by_cases hlt:i<n
 .refine .inr #[hlt,F (i+1),λO H' Y=>#[n-(i+1),(),rfl,hlt,Y],λx H' y=>?_];let#[e,y]:=y;subst e y;exact S i σ _ hlt p
 .have e:i=n:=()
  subst e;exact .inl #[zu _,hd σ H p]
abbrev R2:=V->V->Hp->VK->Prop
def Ge(X:Cx)(f:KE->KE->Sem KE)(r:R2):Prop:=
 ∀(pins:List (so×Obj)) (s:F_) (σ : St) (H:Hp) (x y:V) (v u:KE) (Q:VK),Inv X pins σ H s->RelV x v->RelV y u->r x y H Q->
  G_ (model X.prog X.w) X.A (f v u) (EP X pins σ Q) X.xe s
def UnR(X:Cx)(f:KE->Sem KE)(r:V->Hp->VK->Prop):Prop:=
 ∀(pins:List (so×Obj)) (s:F_) (σ : St) (H:Hp) (x:V) (v:KE) (Q:VK),Inv X pins σ H s->RelV x v->r x H Q->
  G_ (model X.prog X.w) X.A (f v) (EP X pins σ Q) X.xe s
def B3(X:Cx)(f:KE)(r:LM->Hp->VK->Prop):Prop:=
 ∀(pins:List (so×Obj)) (s:F_) (σ : St) (H:Hp) (xs:LM) (us:LN) (Q:VK),Inv X pins σ H s->Br xs us->r xs H Q->
  G_ (model X.prog X.w) X.A (call f us) (EP X pins σ Q) X.xe s
def uE(r:R2)(ta tb:TE):TE:=λσ H Q=>ta σ H λx H1=>tb σ H1 λy H2=>r x y H2 Q
def Gb(r:V->Hp->VK->Prop)(ta:TE):TE:=λσ H Q=>ta σ H λx H1=>r x H1 Q
def rI(C:Int->Int->Prop)(g:Int->Int->V):R2:=λx y H Q=>∃i j,x = .int i/\y = .int j/\C i j/\Q (g i j) H
def lQ(g:Int->Int->V):R2:=λx y H Q=>∃i j,x = .int i/\y = .int j/\Q (g i j) H
def rU(g:Int->V):V->Hp->VK->Prop:=λx H Q=>∃i,x = .int i/\Q (g i) H
section
variable{X:Cx}{a b c:Expr}{ta tb tc:TE}{pos:Pos}
theorem B_(ha:PE X a ta)(O:PE X b tb){pins:List (so×Obj)}{R:V->V->Hp->Prop}(I:Inv X pins σ H s)
  (h:ta σ H λx H1=>tb σ H1 λy H2=>R x y H2)  {f:KE->KE->Sem KE}
  (hf:∀v u s2 x y H2,Inv X pins σ H2 s2->RelV x v->RelV y u->R x y H2->G_ (model X.prog X.w) X.A (f v u) Q X.xe s2) :
  G_ (model X.prog X.w) X.A (eval a X.env) (λv Y=>G_ (model X.prog X.w) X.A (eval b X.env) (λu W=>G_ (model X.prog X.w) X.A (f v u) Q X.xe W) X.xe Y) X.xe s:=by
 refine bD (ha pins s σ H _ I h) λv Z ⟨x,H1,S,J,F⟩=>?_;refine bD (O pins Z σ H1 _ S F) λu s2 ⟨y,H2,I2,U,q2⟩=>?_;exact hf v u s2 x y H2 I2 J U q2
theorem ar{op:Operator}{r:R2}(S:Ge X (binaryOp op) r)(J:PE X a ta)(F:PE X b tb):PE X (.BinOp a op b pos) (uE r ta tb):=by
 intro pins s σ H Q I h;exact wpAny_BinOp (B_ J F I h λv u s2 x y H2 U W O q=>S pins s2 σ H2 x y v u Q U W O q)
theorem fH{op:UnaryOp}{r:V->Hp->VK->Prop}(W:UnR X (unaryOp op) r)(U:PE X a ta):PE X (.UnaryOp op a pos) (Gb r ta):=by
 intro pins s σ H Q I h;exact UnaryOp_ (bD (U pins s σ H _ I h) λv S ⟨x,H1,O,J,F⟩=>W pins S σ H1 x v Q O J F)
theorem uv{f:KE->KE->Sem KE}{C:Int->Int->Prop}{g:Int->Int->Int}
  (rule:∀(i j:Int) (t u:Tok) (s:F_) (Q:LH) (E:LH),C i j->Q (.int (g i j) s.toks) {s with toks:=s.toks+1}->G_ (model X.prog X.w) X.A (f (.int i t) (.int j u)) Q E s) :
  Ge X f (rI C λi j=>.int (g i j)):=by
 intro pins s σ H x y v u Q I F J h;revert h;refine yF2 λi j=>yB4 ?_;rintro rfl rfl O q;let#[t,rfl]:=F;let#[t',rfl]:=J;exact rule i j t t' s _ _ O (yI2 (.int (g i j)) H #[I.tok _,#[_,rfl],q])
theorem xy{f:KE->KE->Sem KE}{g:Int->Int->Int}
  (rule:∀(i j:Int) (t u:Tok) (s:F_) (Q:LH) (E:LH),Q (.int (g i j) s.toks) {s with toks:=s.toks+1}->G_ (model X.prog X.w) X.A (f (.int i t) (.int j u)) Q E s) :
  Ge X f (lQ λi j=>.int (g i j)):=by
 intro pins s σ H x y v u Q I F J h;revert h;refine yF2 λi j=>yB3 ?_;rintro rfl rfl q;let#[t,rfl]:=F;let#[t',rfl]:=J;exact rule i j t t' s _ _ (yI2 (.int (g i j)) H #[I.tok _,#[_,rfl],q])
theorem CY{f:KE->KE->Sem KE}{g:Int->Int->Bool}
  (rule:∀(i j:Int) (t u:Tok) (s:F_) (Q:LH) (E:LH),Q (.bool (g i j)) s->G_ (model X.prog X.w) X.A (f (.int i t) (.int j u)) Q E s) :
  Ge X f (lQ λi j=>.bl (g i j)):=by
 intro pins s σ H x y v u Q I F J h;revert h;refine yF2 λi j=>yB3 ?_;rintro rfl rfl q;let#[t,rfl]:=F;let#[t',rfl]:=J;exact rule i j t t' s _ _ (yI2 (.bl (g i j)) H #[I,rfl,q])
def Mx(i j:Int):Prop:=0<j/\j<1073741824
def IV(i j:Int):Prop:=0<=j/\j<=1000000/\i.natAbs<2^64
def Io(i j:Int):Prop:=(-(2^64)<i/\i<2^64)\/(-(2^64)<j/\j<2^64)
theorem Io.ok{i j:Int}(h:Io i j):IntMulOk i j:=by
 rcases h with ⟨h1,h2⟩ | ⟨h1,h2⟩
 .exact .of_left (intBits_le_64 h1 h2)
 .exact .of_right (intBits_le_64 h1 h2)
theorem yd(k:Nat):(0:Int)<=2^k:=by
 rw[two_pow_cast];exact Int.natCast_nonneg _
theorem IY:Ge X (binaryOp .Add) (lQ λi j=>.int (i+j)):=xy λ_ _ _ _ _ _ _ q=>add_int q
theorem fR:Ge X (binaryOp .Sub) (lQ λi j=>.int (i-j)):=xy λ_ _ _ _ _ _ _ q=>sub_int q
theorem G3:Ge X (binaryOp .Mult) (rI Io λi j=>.int (i*j)):=uv λ_ _ _ _ _ _ _ F q=>mul_int q F.ok
theorem eU:Ge X (binaryOp .FloorDiv) (rI Mx λi j=>.int (i/j)):=uv λi j _ _ _ _ _ F q=>by
 have h1:(0:Int)<j:=F.1;have h2:j<1073741824:=F.2;exact floordiv_int () (by rw[zbp i ()];exact q) (.inl (PyProof.noPylong_small ()))
theorem b5:Ge X (binaryOp .Mod) (rI (λ_ j=>0<j) λi j=>.int (i%j)):=uv λi j _ _ _ _ _ F q=>by
 have h1:(0:Int)<j:=F;exact mod_int' () (by rw[Int.fmod_eq_emod_of_nonneg i ()];exact q)
theorem ng:Ge X (binaryOp .Pow) (rI IV λi j=>.int (i^j.toNat)):=uv λ_ _ _ _ _ _ _ F q=>pow_int_small F.1 F.2.1 F.2.2 q
theorem fN:Ge X (binaryOp .LShift) (rI IV λi j=>.int (i*2^j.toNat)):=uv λ_ _ _ _ _ _ _ F q=>lshift_int_small F.1 F.2.1 F.2.2 q
theorem tu:Ge X (binaryOp .RShift) (rI (λ_ j=>0<=j) λi j=>.int (i/2^j.toNat)):=uv λi j _ _ _ _ _ F q=>
 rshift_int F (by rw[zbp i (yd _)];exact q)
theorem km:Ge X (binaryOp .BitAnd) (lQ λi j=>.int (N_ i j)):=xy λ_ _ _ _ _ _ _ q=>and_int q
theorem JX:Ge X (binaryOp .BitOr) (lQ λi j=>.int (N6 i j)):=xy λ_ _ _ _ _ _ _ q=>or_int q
theorem KY{f:KE->Sem KE}{g:Int->Int}
  (rule:∀(i:Int) (t:Tok) (s:F_) (Q:LH) (E:LH),Q (.int (g i) s.toks) {s with toks:=s.toks+1}->G_ (model X.prog X.w) X.A (f (.int i t)) Q E s) :
  UnR X f (rU λi=>.int (g i)):=by
 intro pins s σ H x v Q I F h;let#[i,rfl,q]:=h;let#[t,rfl]:=F;exact rule i t s _ _ (yI2 (.int (g i)) H #[I.tok _,#[_,rfl],q])
theorem eP:UnR X (unaryOp .USub) (rU λi=>.int (-i)):=KY λ_ _ _ _ _ q=>neg_int q
theorem F9:UnR X (unaryOp .Invert) (rU λi=>.int (MR i)):=KY λ_ _ _ _ _ q=>invert_int q
end
noncomputable def oW:V->V->Bool
 | .non,.non=>true | .non,.int _=>true | .int _,.non=>true | .non,.bl _=>true | .bl _,.non=>true | .non,.str _=>true | .str _,.non=>true
 | .int _,.int _=>true | .bl _,.bl _=>true | .str _,.str _=>true | .byt _,.byt _=>true
 | .int _,.str _=>true | .str _,.int _=>true | .bl _,.str _=>true | .str _,.bl _=>true
 | _,_=>false
def KF:R2:=λx y H Q=>oW x y=true/\Q (.bl (decide (x=y))) H
def K4:R2:=λx y H Q=>oW x y=true/\Q (.bl (!decide (x=y))) H
theorem wW{i j:Int}:decide (V.int i=V.int j)=(i==j):=by
 rw[zaK];simp
theorem AK{i j:Bool}:decide (V.bl i=V.bl j)=(i==j):=by
 rw[zaK];simp
theorem wB{i j:Str}:decide (V.str i=V.str j)=(i==j):=by
 rw[zaK];simp
theorem wb{i j:Array UInt8}:decide (V.byt i=V.byt j)=(i.toList==j.toList):=by
 rw[zaK];cases i;cases j;simp
section
variable{X:Cx}{a b c:Expr}{ta tb tc:TE}{pos:Pos}
theorem bE{pins:List (so×Obj)}{Q:VK}{k F:Bool}(I:Inv X pins σ H s)(q:Q (.bl k) H)(e:k=F):EP X pins σ Q (.bool F) s:=by
 subst e;exact yI2 (.bl k) H #[I,rfl,q]
theorem J_:Ge X (Mq .Eq) KF:=by
 intro pins s σ H x y v u Q I O F h;let#[J,q]:=h;cases x with
 | non=>
  cases O;cases y with
  | non=>cases F;exact EqNone.eq_none_none (bE I q '~')
  | bl j=>cases F;exact EqNone.eq_none_bool (bE I q '~')
  | int j=>let#[t',rfl]:=F;exact EqNone.eq_none_int (bE I q '~')
  | str j=>let#[t',rfl]:=F;exact EqNone.eq_none_str (bE I q '~')
  | _=>exact absurd (show false=true from J) xO
 | bl i=>
  cases O;cases y with
  | non=>cases F;exact EqNone.eq_bool_none (bE I q '~')
  | bl j=>cases F;exact eq_bool (bE I q AK)
  | str j=>let#[t',rfl]:=F;exact EqMixed.eq_bool_str (bE I q '~')
  | _=>exact absurd (show false=true from J) xO
 | int i=>
  let#[t,rfl]:=O;cases y with
  | non=>cases F;exact EqNone.eq_int_none (bE I q '~')
  | int j=>let#[t',rfl]:=F;exact eq_int (bE I q wW)
  | str j=>let#[t',rfl]:=F;exact EqMixed.eq_int_str (bE I q '~')
  | _=>exact absurd (show false=true from J) xO
 | str i=>
  let#[t,rfl]:=O;cases y with
  | non=>cases F;exact EqNone.eq_str_none (bE I q '~')
  | bl j=>cases F;exact EqMixed.eq_str_bool (bE I q '~')
  | int j=>let#[t',rfl]:=F;exact EqMixed.eq_str_int (bE I q '~')
  | str j=>let#[t',rfl]:=F;exact eq_str (bE I q wB)
  | _=>exact absurd (show false=true from J) xO
 | byt i=>
  let#[t,rfl]:=O;cases y with
  | byt j=>let#[t',rfl]:=F;exact W.eq_bytes (bE I q wb)
  | _=>exact absurd (show false=true from J) xO
 | _=>cases y<;>exact absurd (show false=true from J) xO
theorem Kc:Ge X (Mq .NotEq) K4:=by
 intro pins s σ H x y v u Q I O F h;let#[J,q]:=h;cases x with
 | non=>
  cases O;cases y with
  | non=>cases F;exact EqNone.ne_none_none (bE I q '~')
  | bl j=>cases F;exact EqNone.ne_none_bool (bE I q '~')
  | int j=>let#[t',rfl]:=F;exact EqNone.ne_none_int (bE I q '~')
  | str j=>let#[t',rfl]:=F;exact EqNone.ne_none_str (bE I q '~')
  | _=>exact absurd (show false=true from J) xO
 | bl i=>
  cases O;cases y with
  | non=>cases F;exact EqNone.ne_bool_none (bE I q '~')
  | bl j=>cases F;exact ne_bool (bE I q (congrArg not AK))
  | str j=>let#[t',rfl]:=F;exact EqMixed.ne_bool_str (bE I q '~')
  | _=>exact absurd (show false=true from J) xO
 | int i=>
  let#[t,rfl]:=O;cases y with
  | non=>cases F;exact EqNone.ne_int_none (bE I q '~')
  | int j=>let#[t',rfl]:=F;exact ne_int (bE I q (congrArg not wW))
  | str j=>let#[t',rfl]:=F;exact EqMixed.ne_int_str (bE I q '~')
  | _=>exact absurd (show false=true from J) xO
 | str i=>
  let#[t,rfl]:=O;cases y with
  | non=>cases F;exact EqNone.ne_str_none (bE I q '~')
  | bl j=>cases F;exact EqMixed.ne_str_bool (bE I q '~')
  | int j=>let#[t',rfl]:=F;exact EqMixed.ne_str_int (bE I q '~')
  | str j=>let#[t',rfl]:=F;exact ne_str (bE I q (congrArg not wB))
  | _=>exact absurd (show false=true from J) xO
 | byt i=>
  let#[t,rfl]:=O;cases y with
  | byt j=>let#[t',rfl]:=F;exact W.ne_bytes (bE I q (congrArg not wb))
  | _=>exact absurd (show false=true from J) xO
 | _=>cases y<;>exact absurd (show false=true from J) xO
theorem JZ:Ge X (Mq .Lt) (lQ λi j=>.bl (decide (i<j))):=CY λ_ _ _ _ _ _ _ q=>lt_int q
theorem Kk:Ge X (Mq .LtE) (lQ λi j=>.bl (decide (i<=j))):=CY λ_ _ _ _ _ _ _ q=>le_int q
theorem lf:Ge X (Mq .Gt) (lQ λi j=>.bl (decide (j<i))):=CY λ_ _ _ _ _ _ _ q=>gt_int q
theorem Am:Ge X (Mq .Lt) (λx y H Q=>∃i j,x = .str i/\y = .str j/\Q (.bl (decide (i.cps.toList<j.cps.toList))) H):=by
 intro pins s σ H x y v u Q I F J h;revert h;refine yF2 λi j=>yB3 ?_;rintro rfl rfl q;let#[t,rfl]:=F;let#[t',rfl]:=J;exact lt_str (bE I q rfl)
theorem zo:Ge X (Mq .In) (λx y H Q=>∃i j,x = .str i/\y = .str j/\Q (.bl (!(NJ j i 0 j.length 1).isEmpty)) H):=by
 intro pins s σ H x y v u Q I F J h;revert h;refine yF2 λi j=>yB3 ?_;rintro rfl rfl q;let#[t,rfl]:=F;let#[t',rfl]:=J;exact in_str (bE I q rfl)
theorem IN:Ge X (Mq .Is) (λx y H Q=>y = .non/\Q (.bl (decide (x = .non))) H):=by
 intro pins s σ H x y v u Q I F J h;let#[rfl,q]:=h;cases J;refine is_none_gen (bE I q ?_);cases x<;>first
  | (cases F;rfl)
  | (let#[t,rfl]:=F;rfl)
theorem Fa:Ge X (Mq .IsNot) (λx y H Q=>y = .non/\Q (.bl (!decide (x = .non))) H):=by
 intro pins s σ H x y v u Q I F J h;let#[rfl,q]:=h;cases J;refine isnot_none_gen (bE I q ?_);cases x<;>first
  | (cases F;rfl)
  | (let#[t,rfl]:=F;rfl)
theorem uL:Ge X (Mq .NotIn) (λx y H Q=>∃i j,x = .str i/\y = .str j/\Q (.bl (!(!(NJ j i 0 j.length 1).isEmpty))) H):=by
 intro pins s σ H x y v u Q I F J h;revert h;refine yF2 λi j=>yB3 ?_;rintro rfl rfl q;let#[t,rfl]:=F;let#[t',rfl]:=J;exact notIn_str (bE I q rfl)
theorem aB(b:Expr){op:CmpOp}(h:op ≠ .In:=by decide)(h2:op ≠ .NotIn:=by decide):behindInMarks op b=false:=by
 have F:(op==CmpOp.In)=false:=by cases op<;>first | rfl | exact absurd rfl h
 have J:(op==CmpOp.NotIn)=false:=by cases op<;>first | rfl | exact absurd rfl h2
 cases b<;>simp[behindInMarks,F,J]
theorem iK{op:CmpOp}{r:R2}(U:Ge X (Mq op) r)(O:PE X a ta)(F:PE X b tb)(J:behindInMarks op b=false):PE X (.Compare a [op] [b] pos) (uE r ta tb):=by
 intro pins s σ H Q I h;exact wpAny_Compare1 (B_ O F I h λv u s2 x y H2 W Y S q=>U pins s2 σ H2 x y v u Q W Y S q) J
def yM(t:TE):TT:=λσ H Q=>t σ H λx H'=>∃k,x = .bl k/\Q k H'
theorem az{op:CmpOp}{r:R2}(ho:Ge X (Mq op) r)(ha:PE X a ta)(U:PE X b tb)(O:behindInMarks op b=false):PT X (.Compare a [op] [b] pos) (yM (uE r ta tb)):=by
 intro pins s σ H Q I h;refine wpAny_isTrue_Compare1 (bD (ha pins s σ H _ I h) λv s1 ⟨x,H1,W,J,F⟩=>bD (U pins s1 σ H1 _ W F) λu s2 ⟨y,H2,I2,Y,q2⟩=>
  bD (ho pins s2 σ H2 x y v u _ I2 J Y q2) λc s3 ⟨z,H3,I3,Z,k,e,S⟩=>?_) O
 subst e;cases Z;exact N4 #[H3,I3,S]
theorem jC:(L_:Nat)<2^63:=by rw[M2];decide
theorem zf:Ge X (binaryOp .Add) (λx y H Q=>∃i j,x = .str i/\y = .str j/\i.length+j.length<=L_/\Q (.str (i++j)) H):=by
 intro pins s σ H x y v u Q I F J h;revert h;refine yF2 λi j=>yB4 ?_;rintro rfl rfl hz q;let#[t,rfl]:=F;let#[t',rfl]:=J;exact add_str (λt' O=>yI2 (.str (i++j)) H #[I.tok _,#[_,rfl],q]) hz
theorem dv{x:V}{F:LN}(r:Br [x] F):∃u,F=[u]/\RelV x u:=by
 cases r with
 | cons r1 r2=>cases r2;exact#[_,rfl,r1]
theorem qJ{x y:V}{F:LN}(r:Br [x,y] F):∃u w',F=[u,w']/\RelV x u/\RelV y w':=by
 cases r with
 | cons r1 r2=>
  cases r2 with
  | cons r3 r4=>cases r4;exact yI2 _ _ #[rfl,r1,r3]
theorem zI:B3 X (.type "int") (λxs H Q=>(∃i,xs=[.int i]/\Q (.int i) H)\/∃k,xs=[.bl k]/\Q (.int (if k then 1 else 0)) H):=by
 intro pins s σ H xs J Q I r h;rcases h with ⟨i,rfl,q⟩ | ⟨k,rfl,q⟩
 .refine yE1 (dv r) λu=>yB2 ?_;rintro rfl;refine yF1 ?_;rintro t rfl;exact call_int_int (yI2 (.int i) H #[I,#[_,rfl],q])
 .let#[u,rfl,F]:=dv r;cases F;exact call_int_bool (yI2 (.int (if k then 1 else 0)) H #[I.tok _,#[_,rfl],q])
theorem sW:B3 X (.type "str") (λxs H Q=>∃i,xs=[.int i]/\i.natAbs.log2<1920/\Q (.str (toString i)) H):=by
 intro pins s σ H xs F Q I r h;revert h;refine yF1 λi=>yB3 ?_;rintro rfl hz q;refine yE1 (dv r) λu=>yB2 ?_;rintro rfl;refine yF1 ?_;rintro t rfl;exact P.str_of_int hz (yI2 (.str _) H #[I.tok _,#[_,rfl],q])
end
structure HL (h:Lv) (x dx C:so) (mA:Str->LO):Prop where
 obj:h.get? x=Sm (Np C dx)
 ns:h.Ns1 dx mA
 ne:dx≠x
theorem zH{dx:so}{mA:Str->LO}(n:h.Ns1 dx mA):∃od,h.get? dx=Sm od/\∀name,W.lookIn name od=Sm (mA name):=by
 revert n;refine yF3 λo es ep=>yB5 λU hd Y _ J=>?_;refine#[o,U,λname=>?_];have e:=J name;unfold nsFind findBy at e;rw[<-Array.find?_toList]at e;unfold W.lookIn;rw[hd];dsimp only;split
 .rename_i y q;rw[q]at e;exact congrArg Sm e
 .rename_i q;rw[q]at e;have a:es.toList.any (·.refKey)=false:=by
   rw[List.any_eq_false];intro y S;let#[z,t,F]:=Y y (Li.mp S);simp[Nf.refKey,F]
  have O:¬ es.toList.any (·.refKey)=true:=by rw[a];exact xO
  rw[KQ O];exact congrArg Sm e
theorem HL.look{x dx:so}{mA:Str->LO}(I:HL h x dx C mA):∃od,W.InstAt h x (Np C dx) C (Sm od)/\∀name,W.lookIn name od=Sm (mA name):=
 let ⟨od,ho,hl⟩:=zH I.ns
 #[od,#[I.obj,rfl,rfl,ho],hl]
section
variable{prog:Lw}{w:Lu}{A:Mc}{E:LH}{s:F_}{K:K_}{x dx C f:so}{mA:Str->LO}{name:Str}{v:KE}
theorem FG{F:Bool}(X:K.In s.heap)(I:HL s.heap x dx C mA)(hg:W.plainGet K C name=true)(hh:W.hasDictIn K C=true)
  (S:MX K (.ref C) name=Sm Nn) (hv:mA name=Sm v) (O:W.handedIn v=true) (h:Q v {s with toks:=s.toks+1}) :
  G_ (model prog w) A (getAttr (.ref x) name F) Q E s:=by
 let#[U,J,hl]:=I.look;exact W.get_value X J (W.plainGet_of hg).1 (W.findObj_own hh S rfl (by rw[hl,hv])) O h
theorem FN{ns:LI}{Q:Unit->F_->Prop}(X:K.In s.heap)(I:HL s.heap x dx C mA)
  (hs:MX K (.ref C) "__setattr__" = Sm (Sm (.builtin "object.__setattr__"))) (hp:W.plainOver K C=true) (ht:W.takerIn K C name=Sm Nn) (hh:W.hasDictIn K C=true)
  (hw:PySem.Within mA ns) (hsz:ns.length<=L_)
  (h:∀h',HL h' x dx C (λy=>if y=name then Sm v else mA y)->MH dx s.heap h'->Q Unit.unit {s with heap:=h',toks:=s.toks+2}) :
  G_ (model prog w) A (setAttr (.ref x) name v) Q E s:=by
 let#[od,J,hl]:=I.look;refine W.set_plain X J hs (W.osa_open (s:={s with toks:=s.toks+1}) (r:=Nn) X J hp ht λb=>?_);let#[cd,hc,Y]:=W.any_some hh;have hx:s.heap.get? x=Sm #[.ref C,Sm dx,.plain,#[]]:=I.obj;refine KL (KP (KL (KL (wpAny_loadPart hx (KL (W.Looks.here (s:={s with toks:=s.toks+1}) (W.looks_clsIn X hc) ?_))))));rw[Y];refine KP (a:=Sm dx) (KL (KP (KL ?_)));refine wpAny_nsSet1 (s:={s with toks:=s.toks+1}) I.ns λh' O F=>?_;refine yE3 (O.count (Within.cons name v hw)) λoD ac ab=>yB3 λZ S U=>?_;refine KL (wpAny_lookBehind Z (by rw[S];exact pastItsLine_dict (xH U (by rw[ye];lia))) ?_);exact KP (h _ #[(F.2 _ (uW I.ne)).trans I.obj,O,I.ne] F)
theorem B4{R:M6->F_->Prop}{vs:LN}{F:List (Str×KE)}(X:K.In s.heap)(J:W.makesIn K C=true)
  (hi:MX K (.ref C) "__init__" = Sm (Sm (.ref f))) (hf:W.typeIn K (.ref f)=Sm (.type "function"))
  (h:codeAny (model prog w) (A.under (.builtin "type.__call__" #[.ref C::vs,F])) (.call (.ref f) #[.ref (s.heap.objs.size+1)::vs,F]) (W.InitBack (s.heap.objs.size+1) R)
   {s with heap:=(s.heap.push Nk).push (Np C s.heap.objs.size)}) :
  codeAny (model prog w) A (.call (.ref C) #[vs,F]) R s:=by
 let#[hh,g,d,t,os]:=s;exact W.make_core (W.makes_of X J) (W.looks_findIn X hi) (λself=>W.bind_fn X self hf) (.inl rfl) h
end
noncomputable def bC(f:Str)(v:V):List (Str×V)->List (Str×V)
 | []=>[(f,v)]
 | (g,x)::r=>if g=f then (g,v)::r else (g,x)::bC f v r
theorem lR(f g:Str)(v:V):∀fs:List (Str×V),(bC f v fs).lookup g=if g=f then Sm v else fs.lookup g
 | []=>by
  show List.lookup g [(f,v)]=_;by_cases h:g=f
  .have F:(g==f)=true:=beq_iff_eq.mpr h;simp only[List.lookup,F,KZ h]
  .have F:(g==f)=false:=beq_eq_false_iff_ne.mpr h;simp only[List.lookup,F,KQ h]
 | (k,x)::r=>by
  have ih:=lR f g v r;rw[show bC f v ((k,x)::r)=(if k=f then (k,v)::r else (k,x)::bC f v r) from rfl];by_cases hk:k=f
  .rw[KZ hk];by_cases h:g=k
   .have F:(g==k)=true:=beq_iff_eq.mpr h;simp only[List.lookup,F,KZ (h.trans hk)]
   .have F:(g==k)=false:=beq_eq_false_iff_ne.mpr h;simp only[List.lookup,F,KQ (λe:g=f=>h (e.trans hk.symm))]
  .rw[KQ hk];by_cases h:g=k
   .have F:(g==k)=true:=beq_iff_eq.mpr h;simp only[List.lookup,F,KQ (λe:g=f=>hk (h.symm.trans e))]
   .have F:(g==k)=false:=beq_eq_false_iff_ne.mpr h;simp only[List.lookup,F];exact ih
theorem kL(f:Str)(v:V):∀fs:List (Str×V),f∈(bC f v fs).map (·.1)/\∀g,g∈fs.map (·.1)->g∈(bC f v fs).map (·.1)
 | []=>#[by simp[bC],λg h=>by simp at h]
 | (k,x)::r=>by
  let#[i1,i2]:=kL f v r;rw[show bC f v ((k,x)::r)=(if k=f then (k,v)::r else (k,x)::bC f v r) from rfl];by_cases hk:k=f
  .rw[KZ hk];subst hk;exact#['~',λg h=>by simpa using h]
  .rw[KQ hk];refine#[?_,λg h=>?_]
   .rw[yX];exact yS _ i1
   .rw[yX]at h |-
    rcases K7.mp h with e | e
    .exact K7.mpr (.inl e)
    .exact yS _ (i2 g e)
theorem l5(f:Str)(v:V):∀fs:List (Str×V),(bC f v fs).length<=fs.length+1
 | []=>by simp[bC]
 | (k,x)::r=>by
  have ih:=l5 f v r;rw[show bC f v ((k,x)::r)=(if k=f then (k,v)::r else (k,x)::bC f v r) from rfl];by_cases hk:k=f
  .rw[KZ hk,ye,ye];lia
  .rw[KQ hk,ye,ye];lia
theorem GQ.some_of{v:V}{o:LO}(r:GQ (Sm v) o):∃u,o=Sm u/\RelV v u:=by
 cases o with
 | none=>exact(show False from r).elim
 | some u=>exact#[u,rfl,r]
theorem zM{v:V}{u:KE}(r:RelV v u):W.handedIn u=true:=by
 cases v with
 | non=>cases (show u=Mu from r);rfl
 | bl b=>cases (show u=KE.bool b from r);rfl
 | int i=>let#[t,e]:=(show ∃t,u=NA i t from r);cases e;rfl
 | str x=>let#[t,e]:=(show ∃t,u=M1 x t from r);cases e;rfl
 | byt b=>let#[t,e]:=(show ∃t,u=KE.bytes b t from r);cases e;rfl
 | flt b=>let#[t,e]:=(show ∃t,u=KE.float b t from r);cases e;rfl
 | ref a=>cases (show u=Ma a from r);rfl
 | ty n=>cases (show u=M5 n from r);rfl
section
variable{P:Lw}{w:Lu}{H H':Hp}{h h':Lv}{a C dx:so}{fs fs':List (Str×V)}
theorem oO(hok:GN P w H h)(e:H a=Sm (.ins C dx fs)):∃mA,HL h a dx C mA/\(∀f,GQ (fs.lookup f) (mA f))/\PySem.Within mA (fs.map (·.1))/\fs.length<=1000/\H dx=Sm (.own a):=by
 refine yA5 (show BD P w H h a (.ins C dx fs) from hok a _ e) λd z ne F=>yF1 λmA=>yB3 λn r q=>?_;exact#[mA,#[F,n,ne],r,q,z,d]
end
structure KC (K:K_) (C:so):Prop where
 pg:W.plainGet K C Nr=true
 hd:W.hasDictIn K C=true
 po:W.plainOver K C=true
 sa:MX K (.ref C) "__setattr__" = Sm (Sm (.builtin "object.__setattr__"))
theorem KC.get(c:KC K C)(f:Str):W.plainGet K C f=true:=c.pg
def G5(K:K_)(C:so)(f:Str):Prop:=MX K (.ref C) f=Sm Nn
theorem G5.taker{f:Str}(n:G5 K C f):W.takerIn K C f=Sm Nn:=by
 unfold W.takerIn;rw[show MX K (.ref C) f=Sm Nn from n]
 rfl
section
variable{X:Cx}{pins:List (so×Obj)}{σ:St}{H:Hp}{s:F_}{a C dx:so}{fs:List (Str×V)}{f:Str}{v:V}{A:Mc}{E:LH}
theorem xh{b:Bool}(I:Inv X pins σ H s)(e:H a=Sm (.ins C dx fs))(c:KC X.K C)(n:G5 X.K C f)(l:fs.lookup f=Sm v)
  (h:∀u s',Inv X pins σ H s'->RelV v u->Q u s'):G_ (model X.prog X.w) A (getAttr (.ref a) f b) Q E s:=by
 refine yE1 (oO I.hok e) λmA=>yB5 λO r _ _ _=>?_;let#[u,J,F]:=GQ.some_of (v:=v) (o:=mA f) (by rw[<-l];exact r f);exact FG I.kIn O (c.get f) c.hd n J (zM F) (h u _ (I.tok _) F)
theorem yB{y:V}{Q:Unit->F_->Prop}(I:Inv X pins σ H s)(e:H a=Sm (.ins C dx fs))(c:KC X.K C)(n:G5 X.K C f)(hl:fs.length<1000)(W:RelV y u)
  (h:∀s',Inv X pins σ (upd H a (.ins C dx (bC f y fs))) s'->Q Unit.unit s'):G_ (model X.prog X.w) A (setAttr (.ref a) f u) Q E s:=by
 refine yE1 (oO I.hok e) λmA=>yB5 λO r wi _ J=>?_;have hz:(fs.map (·.1)).length<=L_:=by rw[ze,M2];lia
 refine FN I.kIn O c.sa c.po n.taker c.hd wi hz λh' F U=>h _ ?_;have hd:∃o,h'.get? dx=Sm o:=let ⟨o,_,_,e',_⟩:=F.ns;#[o,e'];refine I.write (x:=a) (e:=dx) (by rw[e];exact True.intro) (.inr J) (λb q S z=>(U.2 b S).trans z) hd ?_;refine#[by rw[aw O.ne];exact J,?_,O.ne,F.obj,_,F.ns,λg=>?_,λg hg=>?_]
 .have:=l5 f y fs;lia
 .show GQ ((bC f y fs).lookup g) (if g=f then Sm u else mA g);rw[lR];by_cases q:g=f
  .rw[KZ q,KZ q];exact W
  .rw[KQ q,KQ q];exact r g
 .by_cases q:g=f
  .rw[q];exact(kL f y fs).1
  .refine(kL f y fs).2 g (wi g λz=>hg ?_);show (if g=f then Sm u else mA g)=Nn;rw[KQ q];exact z
theorem Inv.made(I:Inv X pins σ H s):Inv X pins σ (upd (upd H s.heap.objs.size (.own (s.heap.objs.size+1))) (s.heap.objs.size+1) (.ins C s.heap.objs.size []))
  {s with heap:=(s.heap.push Nk).push (Np C s.heap.objs.size)}:=by
 have F:(s.heap.push Nk).get? s.heap.objs.size=Sm Nk:=xb s.heap rfl;have Y:((s.heap.push Nk).push (Np C s.heap.objs.size)).get? (s.heap.objs.size+1)=Sm (Np C s.heap.objs.size):=by
  have:=xb (s.heap.push Nk) (o:=Np C s.heap.objs.size) rfl
  rwa [tV]at this
 have U:(s.heap.push Nk).Ns s.heap.objs.size (λ_=>Nn):=yI3 Nk #[] _ #[F,rfl,(λe O=>absurd O '~'),λ_=>rfl];have J:=I.laid (a:=s.heap.objs.size) (o:=.own (s.heap.objs.size+1)) (h':=s.heap.push Nk) (t':=s.toks) (λb u q=>yK _ q) (zu _) #[_,F];refine J.laid (a:=s.heap.objs.size+1) (o:=.ins C s.heap.objs.size []) (t':=s.toks) (λb u q=>yK _ q) (Nat.le_of_eq (tV _ _)) ?_;have ne:s.heap.objs.size≠s.heap.objs.size+1:=xg (zaW _);refine#[by rw[aw ne,ai],gV _,ne,Y,λ_=>Nn,(Lv.Ns1.of_empty U).at λo q=>yK _ q,λ_=>True.intro,λy S=>absurd rfl S]
theorem EH{prog:Lw}{env:Env}{f:Str}(F:attributeBase e f env (eval e env)=eval e env)
  (h:G_ (model prog w) A (eval e env) (λo J=>G_ (model prog w) A (getAttr o f true) Q E J) E s):G_ (model prog w) A (eval (.Attribute e f pos) env) Q E s:=
 Attribute_any_ h (by rw[arm_eval_Attribute,F])
end
section
variable{X:Cx}{pins:List (so×Obj)}{σ:St}{H:Hp}{s:F_}{A:Mc}{E:LH}{Q:LH}{c:KE}{b:Bool}
inductive gZ (K:PySem.W.Frag) (H:Hp):V->KE->Prop where
 | non:gZ K H .non (.type "NoneType")
 | bl (x:Bool):gZ K H (.bl x) (.type "bool")
 | int (i:Int):gZ K H (.int i) (.type "int")
 | str (x:Str):gZ K H (.str x) (.type "str")
 | flt (x:UInt64):gZ K H (.flt x) (.type "float")
 | lst {a:so} {xs:LM} (e:H a=Sm (.lst xs)):gZ K H (.ref a) (.type "list")
 | frz {a:so} {o:Obj} {xs:LM} (e:H a=Sm (.frz o (.lst xs))):gZ K H (.ref a) (.type "list")
 | tup {a:so} {xs:LM} (e:H a=Sm (.tup xs)):gZ K H (.ref a) (.type "tuple")
 | dK {a:so} {kvs:List (aT×V)} (e:H a=Sm (.dK kvs)):gZ K H (.ref a) (.type "dict")
 | dT {a:so} {kvs:List (List aT×V)} (e:H a=Sm (.dT kvs)):gZ K H (.ref a) (.type "dict")
 | ins {a C dx:so} {fs:List (Str×V)} (e:H a=Sm (.ins C dx fs)) (cl:KC K C) (ha:PySem.W.findIn K (.ref C) "__class__" = Sm (Sm (.builtin "object.__class__")))
   (hn:PySem.W.specialIn K (.builtin "object.__class__") "__get__" = Sm (Sm (.builtin "getset_descriptor.__get__"))) (htk:PySem.W.takesIn K (.builtin "object.__class__")=Sm true)
   (hm:PySem.W.mroIn K C (.type "object")=Sm true):gZ K H (.ref a) (.ref C)
theorem zm{x:V}{u t:KE}(I:Inv X pins σ H s)(F:RelV x u)(ty:gZ X.K H x t)(e:W.kitOne X.K t c=Sm b)(h:∀tk,Q (.bool b) {s with toks:=tk}) :
  G_ (model X.prog X.w) A (call (.builtin "isinstance") [u,c]) Q E s:=by
 cases ty with
 | non=>cases (show u=Mu from F);exact IC W.kitx_none I.kIn True.intro e (λz=>nomatch z) h
 | bl y=>cases (show u=KE.bool y from F);exact IC W.kitx_bool I.kIn True.intro e (λz=>nomatch z) h
 | int i=>let#[t,q]:=(show ∃t,u=NA i t from F);cases q;exact IC W.kitx_int I.kIn True.intro e (λz=>nomatch z) h
 | str y=>let#[t,q]:=(show ∃t,u=M1 y t from F);cases q;exact IC W.kitx_str I.kIn True.intro e (λz=>nomatch z) h
 | flt y=>let#[t,q]:=(show ∃t,u=KE.float y t from F);cases q;exact IC W.kitx_float I.kIn True.intro e (λz=>nomatch z) h
 | @lst a xs ea=>
  cases (show u=Ma a from F);refine yA2 (show BD X.prog X.w H s.heap a (.lst xs) from I.hok a _ ea) λ_=>yF2 λ_ n=>yB2 λ_ h1=>?_;exact IC W.kitx_list I.kIn #[_,h1,rfl] e (λz=>nomatch z) h
 | @frz a ob xs ea=>
  cases (show u=Ma a from F);refine yA3 (show BD X.prog X.w H s.heap a (.frz ob (.lst xs)) from I.hok a _ ea) λ_ _=>yF2 λ_ n=>yB2 λ_ h1=>?_;exact IC W.kitx_list I.kIn #[_,h1,rfl] e (λz=>nomatch z) h
 | @tup a xs ea=>
  cases (show u=Ma a from F);refine yA2 (show BD X.prog X.w H s.heap a (.tup xs) from I.hok a _ ea) λ_=>yF1 λ_=>yB2 λ_ p=>?_;revert p;refine yF1 λo=>yB3 λh1 h2 _=>?_;exact IC W.kitx_tuple I.kIn #[o,h1,h2] e (λz=>nomatch z) h
 | @dK a kvs ea=>
  cases (show u=Ma a from F);refine yA3 (show BD X.prog X.w H s.heap a (.dK kvs) from I.hok a _ ea) λ_ _=>yF1 λvs=>yB2 λ_ p=>?_;revert p;refine yF3 λo es ep=>yB3 λh1 h2 _=>?_;exact IC W.kitx_dict I.kIn #[o,h1,h2.1] e (λz=>nomatch z) h
 | @dT a kvs ea=>
  cases (show u=Ma a from F);refine yA3 (show BD X.prog X.w H s.heap a (.dT kvs) from I.hok a _ ea) λ_ _=>yF1 λxs=>yB2 λ_=>yF3 λo es ep=>yB3 λh1 h2 _=>?_;exact IC W.kitx_dict I.kIn #[o,h1,h2.1] e (λz=>nomatch z) h
 | @ins a C dx fs ea cl ha hn htk hm=>
  cases (show u=Ma a from F);let#[mA,O,_]:=oO I.hok ea;let#[S,J,_]:=O.look;exact IC (W.kitx_own (cl.get _) cl.hd ha hn htk hm) I.kIn J e (λz=>nomatch z) h
end
structure Cm (k:Nat) (A:Mc):Prop where
 hd:A.handled=Nn
 dp:A.depth+3*k+5<recursionLimit
 un:A.units+16*k+200<cLine
theorem Cm.mono{j k:Nat}(r:Cm k A)(h:j<=k):Cm j A:=#[r.hd,by have:=r.dp;lia,by have:=r.un;lia]
theorem Cm.deeper{k:Nat}(r:Cm (k+1) A)(env:Env):Cm k (A.deeper env):=
 #[r.hd,by have:=r.dp;show A.depth+1+3*k+5<_;lia,by have:=r.un;show A.units+3+16*k+200<_;lia]
theorem yA{F:LN}{J:List (Str×KE)}:(A.under (.builtin "type.__call__" #[.ref C::F,J])).depth=A.depth+1:=by
 first | rfl | simp[Mc.under,Code.weight,Code.isCreation,Code.isGuard,Code.isCaller,Code.frames,Code.isFrame,guardIds]
theorem x5{F:LN}{J:List (Str×KE)}:(A.under (.builtin "type.__call__" #[.ref C::F,J])).units=A.units+1:=by
 first | rfl | simp[Mc.under,Code.cUnits,Code.frames,Code.isFrame]
theorem Cm.make{k:Nat}(r:Cm (k+1) A)(C:so)(F:LN)(J:List (Str×KE)):Cm k (A.under (.builtin "type.__call__" #[.ref C::F,J])):=
 #[r.hd,by have:=r.dp;rw[yA];lia,by have:=r.un;rw[x5];lia]
theorem Cm.depth{k:Nat}(r:Cm k A):A.depth<recursionLimit:=by have:=r.dp;lia
def xD:TA:=λ_ H Q=>Q [] H
def ly(ta:TE)(tr:TA):TA:=λσ H Q=>ta σ H λx H1=>tr σ H1 λxs H2=>Q (x::xs) H2
section
variable{X:Cx}{e:Expr}{es:LX}{te:TE}{t:TA}{pos:Pos}
theorem ae:PA X [] xD:=λ_ _ _ _ H Q I h=>Calls.spliced_nil (yI2 ([]) H #[I,.nil,h])
theorem aa(Z:PE X e te)(O:PA X es t)(S:Mh (e::es) X.env=(false,eval e X.env)::Mh es X.env:=by rfl):PA X (e::es) (ly te t):=by
 intro pos pins s σ H Q I h;rw[S];show G_ _ _ (spliced ((false,eval e X.env)::backTo pos (Mh es X.env))) _ _ s;refine Calls.spliced_cons (bD (Z pins s σ H _ I h) λu Y ⟨x,H1,U,J,F⟩=>?_);exact bD (O pos pins Y σ H1 _ U F) λus s2 ⟨xs,H2,I2,W,q2⟩=>yI2 (x::xs) H2 #[I2,.cons J W,q2]
def Bx(t:TA):TE:=λσ H Q=>t σ H λxs H1=>xs.length<=L_/\∀p,H1 p=Nn->Q (.ref p) (upd H1 p (.tup xs))
def Jb(t:TA):TE:=λσ H Q=>t σ H λxs H1=>xs.length<=L_/\∀p,H1 p=Nn->Q (.ref p) (upd H1 p (.lst xs))
theorem aN{x1}(h:PA X es t):PE X (.Tuple es x1 pos) (Bx t):=by
 intro pins s σ H Q I O;refine wpAny_Tuple_spliced (bD (h pos pins s σ H _ I O) λS F ⟨xs,H1,J,r,z,q⟩=>#[by rw[<-r.length];exact z,?_]);have hf:H1 F.heap.objs.size=Nn:=J.hok.fresh (zu _);refine yI2 (.ref F.heap.objs.size) (upd H1 F.heap.objs.size (.tup xs)) #[J.laid (t':=F.toks) (λb u e=>yK _ e) (zu _) ?_,rfl,q _ hf];exact#[z,S,r,#[_,xb _ rfl,rfl,rfl,_,rfl]]
theorem aI(h:PA X es t):PE X (.List es pos) (Jb t):=by
 intro pins s σ H Q I O;refine wpAny_List_spliced (bD (h pos pins s σ H _ I O) λS F ⟨xs,H1,J,r,z,q⟩=>#[by rw[<-r.length];exact z,?_]);have hf:H1 F.heap.objs.size=Nn:=J.hok.fresh (zu _);refine yI2 (.ref F.heap.objs.size) (upd H1 F.heap.objs.size (.lst xs)) #[J.laid (t':=F.toks) (λb u e=>yK _ e) (zu _) ?_,rfl,q _ hf];exact#[z,yI2 S 0 #[r,xb _ rfl]]
end
abbrev Sp:=LM->Hp->VK->XK->Prop
abbrev jL:=List Env->Hp->F_->XK->KE->F_->Prop
structure Hu (P:Lw) (w:Lu) (K:K_) (mg:Str->LO) (base:Lv) (A:Mc) (outer:List Env) (s:F_) (H:Hp):Prop where
 frames:A.frames=Sm outer
 mod:Mod K mg base
 bs:∀b o,base.get? b=Sm o->s.heap.get? b=Sm o/\H b=Nn
 bsz:base.objs.size<=s.heap.objs.size
 funs:s.heap.FunFrames base outer
 frf:∀b∈kf outer,H b=Nn
 hok:GN P w H s.heap
 bare:Nj s.gens
def CE(outer:List Env)(P:Lw)(w:Lu)(H:Hp)(s:F_)(Q:VK)(u:KE)(s':F_):Prop:=
 ∃v H',s'.os=s.os/\Nj s'.gens/\Un (kf outer) [] H H' s.heap s'.heap/\GN P w H' s'.heap/\RelV v u/\Q v H'
def CR(CX:jL)(outer:List Env)(P:Lw)(w:Lu)(H:Hp)(s:F_)(Q:VK)(E:XK)(r:M6)(s':F_):Prop:=
 match r with
 | .ok (.ret u)=>CE outer P w H s Q u s'
 | .ok _=>False
 | .error e=>CX outer H s E e s'
structure GG (P:Lw) (w:Lu) (K:K_) (mg:Str->LO) (base:Lv) (CX:jL) (k:Nat) (f:so) (fd:MV) (ps:LI) (sp:Sp):Prop where
 len:∀vs H Q E,sp vs H Q E->vs.length=ps.length
 run:∀(A:Mc) (outer:List Env) (s:F_) (H:Hp) (args:Args) (us:LN) (vs:LM) (Q:VK) (E:XK),Cm k A->Hu P w K mg base A outer s H->BindsTo s fd args (ps.zip us)->Br vs us->sp vs H Q E->
  codeAny (model P w) A (.call (.ref f) args) (CR CX outer P w H s Q E) s
theorem GG.mono{P:Lw}{mg:Str->LO}{base:Lv}{CX:jL}{j k:Nat}{f:so}{fd:MV}{ps:LI}{sp:Sp}(F:GG P w K mg base CX j f fd ps sp)(h:j<=k) :
  GG P w K mg base CX k f fd ps sp:=#[F.len,λA outer s H args J vs Q E O=>F.run A outer s H args J vs Q E (O.mono h)]
theorem GG.imp{P:Lw}{mg:Str->LO}{base:Lv}{CX:jL}{k:Nat}{f:so}{fd:MV}{ps:LI}{sp J:Sp}(F:GG P w K mg base CX k f fd ps sp)
  (h:∀vs H Q E,J vs H Q E->sp vs H Q E):GG P w K mg base CX k f fd ps J:=
 #[λvs H Q E q=>F.len vs H Q E (h _ _ _ _ q),λA outer s H args Y vs Q E S Z O hv U=>F.run A outer s H args Y vs Q E S Z O hv (h _ _ _ _ U)]
theorem Hu.make{P:Lw}{mg:Str->LO}{base:Lv}{outer:List Env}(e:Hu P w K mg base A outer s H)(C:so)(F:LN)(J:List (Str×KE)) :
  Hu P w K mg base (A.under (.builtin "type.__call__" #[.ref C::F,J])) outer s H:=#[by first | exact e.frames | (simpa [Mc.under,Code.envs,Code.isFrame,pushEnvs] using e.frames),e.mod,e.bs,e.bsz,e.funs,e.frf,e.hok,e.bare]
section
variable{X:Cx}{pins:List (so×Obj)}{σ:St}{H:Hp}{s s':F_}
theorem Inv.env0(I:Inv X pins σ H s):Hu X.prog X.w X.K X.mg X.base X.A X.stack s H:=
 #[I.ok.frames,I.ok.mod,I.bs,xH I.ok.bsz I.sz,I.stack,I.stkFree,I.hok,I.bare]
theorem Inv.after{Q:VK}(I:Inv X pins σ H s)(h:CE X.stack X.prog X.w H s Q u s'):EP X pins σ Q u s':=by
 revert h;refine yF2 λv H'=>yB6 λos bare un hok r q=>?_;let#[hh,g,d,t,F]:=s';obtain rfl:F=s.os:=os;exact yI2 v H' #[I.call (h':=hh) (g':=g) (d':=d) (t':=t) (ch:=[]) un hok bare (λb z=>absurd z '~'),r,q]
end
def qK(sp:Sp)(dvs:LM)(E:XK)(t:TA):TE:=λσ H Q=>t σ H λvs H1=>sp (vs++dvs) H1 Q E
def Binds(K:K_)(fd:MV)(ps:LI)(ds:LN):Prop:=
 ∀(s:F_) (us:LN),K.In s.heap->(us++ds).length=ps.length->BindsTo s fd #[us,[]] (ps.zip (us++ds))
theorem Binds.all{fd:MV}{ps:LI}(h:∀F:LN,F.length=ps.length->bindArgs fd #[F,[]]=pure (ps.zip F)):Binds K fd ps []:=λs F _ hl=>by
 rw[sF]at hl |-
 exact .of_eq (h F hl)
def mM(CX:jL)(X:Cx)(E:XK):Prop:=∀(pins:List (so×Obj)) (σ : St) (H:Hp) (s:F_) (e:KE) (s':F_),Inv X pins σ H s->CX X.stack H s E e s'->X.xe e s'
section
variable{X:Cx}{CX:jL}{k:Nat}{f C:so}{fd:MV}{ps:LI}{sp:Sp}{dvs:LM}{ds:LN}{E:XK}{x m:Str}{p pos apos:Pos}{e o:Expr}{es:LX}{ta:TE}{t:TA}
theorem GV{pins:List (so×Obj)}{σ:St}{H:Hp}{s:F_}{Q:VK}{J:LN}{vs:LM}(F:GG X.prog X.w X.K X.mg X.base CX k f fd ps sp)(W:Cm k X.A)(U:Binds X.K fd ps ds)(hd:Br dvs ds)(hx:mM CX X E)
  (I:Inv X pins σ H s) (r:Br vs J) (h:sp (vs++dvs) H Q E):G_ (model X.prog X.w) X.A (call (.ref f) J) (EP X pins σ Q) X.xe s:=by
 have S:Br (vs++dvs) (J++ds):=r.append hd;have hl:(J++ds).length=ps.length:=by rw[<-S.length];exact F.len _ _ _ _ h
 refine wpAny_call (NL (F.run X.A X.stack s H #[J,[]] (J++ds) (vs++dvs) Q E W I.env0 (U s J I.kIn hl) S h) λr s' O=>?_);cases r with
 | error e=>exact hx pins σ H s e s' I O
 | ok fl=>
  cases fl with
  | ret u=>exact I.after O
  | next=>exact False.elim O
  | brk=>exact False.elim O
  | cont=>exact False.elim O
theorem FU(F:GG X.prog X.w X.K X.mg X.base CX k f fd ps sp)(S:Cm k X.A)(hg:Gl X x)(U:X.mg x=Sm (.ref f))(hk:Nl X.K (.ref f)=true)(Y:Binds X.K fd ps ds)(hd:Br dvs ds)(hx:mM CX X E)
  (Z:PA X (e::es) t) (J:(x==("__debug__" : Str))=false:=by decide) (he:Mh (e::es) X.env=(false,eval e X.env)::Mh es X.env:=by rfl) (hpl:(backTo pos (Mh es X.env)).any (·.1)=false:=by rfl) :
  PE X (.Call (.Name x p) (e::es) [] pos) (qK sp dvs E t):=by
 intro pins s σ H Q I h;refine N7 (nR I hg U ?_ J);refine W.callWith_K (h₀:=X.base) I.ok.mod.kin hk (bD (Z pos pins s σ H _ I h) λus s1 ⟨vs,H1,O,r,q⟩=>#[O.kIn,?_]) he hpl;exact GV F S Y hd hx O r q
structure Mk (K:K_) (C f:so):Prop where
 makes:W.makesIn K C=true
 init:MX K (.ref C) "__init__" = Sm (Sm (.ref f))
 fn:W.isFn K (.ref f)=true
 kp:Nl K (.ref C)=true
theorem CM{pins:List (so×Obj)}{σ:St}{H:Hp}{s:F_}{Q:VK}{O:LN}{vs:LM}(M:Mk X.K C f)(F:GG X.prog X.w X.K X.mg X.base CX k f fd ps sp)(Y:Cm (k+1) X.A)(Z:Binds X.K fd ps ds)(hd:Br dvs ds)
  (hx:mM CX X E) (I:Inv X pins σ H s) (r:Br vs O)
  (h:∀x dx,H x=Nn->H dx=Nn->dx≠x->sp (.ref x::(vs++dvs)) (upd (upd H dx (.own x)) x (.ins C dx [])) (λv H2=>v = .non/\Q (.ref x) H2) E) :
  G_ (model X.prog X.w) X.A (call (.ref C) O) (EP X pins σ Q) X.xe s:=by
 have U:=h (s.heap.objs.size+1) s.heap.objs.size (I.hok.fresh (Nat.le_succ _)) (I.hok.fresh (zu _)) (xg (zaW _));have S:=Inv.made (C:=C) I;have W:Br (V.ref (s.heap.objs.size+1)::(vs++dvs)) (Ma (s.heap.objs.size+1)::(O++ds)):=.cons rfl (r.append hd);have hl:(Ma (s.heap.objs.size+1)::O++ds).length=ps.length:=by
  have e:=W.length;rw[F.len _ _ _ _ U]at e;exact e.symm
 refine wpAny_call (B4 (f:=f) I.kIn M.makes M.init (beq_iff_eq.mp M.fn) (NL (F.run _ X.stack _ _ #[Ma (s.heap.objs.size+1)::O,[]] (Ma (s.heap.objs.size+1)::(O++ds)) _ _ E (Y.make C O [])
  (S.env0.make C O []) (Z _ (Ma (s.heap.objs.size+1)::O) S.kIn hl) W U) λr s' J=>?_))
 cases r with
 | error e=>exact hx pins σ _ _ e s' S J
 | ok fl=>
  cases fl with
  | ret u=>
   refine yE2 (S.after J) λv H'=>yB4 λI3 rv ev q3=>?_;subst ev;exact#[rv,yI2 (V.ref (s.heap.objs.size+1)) H' #[I3,rfl,q3]]
  | next=>exact False.elim J
  | brk=>exact False.elim J
  | cont=>exact False.elim J
end
structure aE (N P:LI) (sc:Scope):Prop where
 kind:sc.kind = .function
 co:sc.isCoroutine=false
 gen:sc.isGenerator=false
 nd:N.Nodup
 pre:N.take P.length=P
 par:∀x∈P,sc.names.lookup x=Sm .local\/sc.names.lookup x=Sm .cell
 nofree:∀y∈sc.names,y.2 ≠ .free
theorem DG{N P:LI}{s:L6}(h1:(L2.rd s).kind = .function:=by rfl)(h2:(L2.rd s).isCoroutine=false:=by rfl)(h3:(L2.rd s).isGenerator=false:=by rfl)(h4:N.Nodup:=by decide +kernel)(h5:N.take P.length=P:=by rfl)(h6:∀x∈P,(L2.rd s).names.lookup x=Sm .local\/(L2.rd s).names.lookup x=Sm .cell:=by decide +kernel)(h7:∀y∈(L2.rd s).names,y.2 ≠ .free:=by decide +kernel):aE N P (L2.rd s):=#[h1,h2,h3,h4,h5,h6,h7]
theorem pj{kindOf:Str->Option MI}{x:Str}:∀ {binds:List (Str×KE)} {m:Str->LO},(∀v,(x,v)∉binds)->bindL kindOf binds m x=m x
 | [],_,_=>rfl
 | (n,v)::r,m,h=>by
  unfold bindL;rw[pj λw F=>h w (yS _ F)];split
  .have:x≠n:=by rintro rfl;exact h v yy
   simp[this]
  .rfl
theorem pQ{kindOf:Str->Option MI}{x:Str}:∀ {binds:List (Str×KE)} {m:Str->LO},(∀v,(x,v)∉binds)->bindC kindOf binds m x=m x
 | [],_,_=>rfl
 | (n,v)::r,m,h=>by
  unfold bindC;rw[pQ λw F=>h w (yS _ F)];split
  .rfl
  .have:x≠n:=by rintro rfl;exact h v yy
   simp[this]
theorem pK{kindOf:Str->Option MI}{x:Str}{v:KE}:∀ {P:LI} {vs:LN} {i:Nat} {m:Str->LO},P.Nodup->P[i]?=Sm x->vs[i]?=Sm v->kindOf x=Sm .local->
  bindL kindOf (P.zip vs) m x=Sm v
 | [],_,_,_,_,h,_,_=>by simp at h
 | _::_,[],_,_,_,_,h,_=>by simp at h
 | p::P,w::vs,0,m,nd,h1,h2,hk=>by
  simp at h1 h2;subst h1;subst h2;show bindL kindOf ((p,w)::P.zip vs) m p=_;unfold bindL;rw[pj λv hv=>(Lo.mp nd).1 (List.of_mem_zip hv).1,KZ hk];simp
 | p::P,w::vs,i+1,m,nd,h1,h2,hk=>by
  show bindL kindOf ((p,w)::P.zip vs) m x=_;unfold bindL;exact pK (i:=i) (Lo.mp nd).2 (by simpa using h1) (by simpa using h2) hk
theorem pq{kindOf:Str->Option MI}{x:Str}{v:KE}:∀ {P:LI} {vs:LN} {i:Nat} {m:Str->LO},P.Nodup->P[i]?=Sm x->vs[i]?=Sm v->kindOf x≠Sm .local->
  bindC kindOf (P.zip vs) m x=Sm v
 | [],_,_,_,_,h,_,_=>by simp at h
 | _::_,[],_,_,_,_,h,_=>by simp at h
 | p::P,w::vs,0,m,nd,h1,h2,hk=>by
  simp at h1 h2;subst h1;subst h2;show bindC kindOf ((p,w)::P.zip vs) m p=_;unfold bindC;rw[pQ λv hv=>(Lo.mp nd).1 (List.of_mem_zip hv).1,KQ hk];simp
 | p::P,w::vs,i+1,m,nd,h1,h2,hk=>by
  show bindC kindOf ((p,w)::P.zip vs) m x=_;unfold bindC;exact pq (i:=i) (Lo.mp nd).2 (by simpa using h1) (by simpa using h2) hk
noncomputable def start(N:LI)(vs:LM):St:=vs.map Sm++List.replicate (N.length-vs.length) Nn
noncomputable def kH(CX:jL)(P:Lw)(w:Lu)(K:K_)(mg:Str->LO)(base:Lv)(N:LI)(qual:Str)(scope:Scope)(f:so)(cd:KE)(A:Mc)(outer:List Env)(s:F_)(H:Hp)(E:XK):Cx where
 prog:=P
 w:=w
 K:=K
 mg:=mg
 base:=base
 A:=A.deeper (envOfC qual scope s.heap.objs.size f cd)
 N:=N
 s₀:=s
 H₀:=H
 env:=envOfC qual scope s.heap.objs.size f cd
 outer:=outer
 stack:=envOfC qual scope s.heap.objs.size f cd::outer
 ex:=[]
 calm:=true
 fn:=λ_=>true
 pn:=[]
 xe:=λe s'=>G_ (model P w) (A.deeper (envOfC qual scope s.heap.objs.size f cd)) (leaving (envOfC qual scope s.heap.objs.size f cd) e) (λ_ s''=>CX outer H s E e s'') (λe' s''=>CX outer H s E e' s'') s'
theorem rf{F:Scope}{n:Nat}(h:F.names.lookup x=Sm .cell):∃c,(cellsFrom n F.names []).lookup x=Sm c:=by
 have q:=W.cellsFrom_some F.names n [] (.inl h);exact Option.isSome_iff_exists.mp q
theorem Bi{CX:jL}{P:Lw}{w:Lu}{K:K_}{mg:Str->LO}{base:Lv}{N ps:LI}{F:Str}{scope:Scope}{f:so}{cd:KE}{A:Mc}{outer:List Env}{s s1:F_}{H:Hp}{E:XK}{us:LN}{vs:LM}
  (S:aE N ps scope) (hd:A.handled=Nn) (J:Hu P w K mg base A outer s H) (hl:vs.length=ps.length) (r:Br vs us)
  (x:InCallC s s.heap.objs.size (bindL (envOfC F scope s.heap.objs.size f cd).kindOf (ps.zip us) λ_=>Nn) (cellsFrom (s.heap.objs.size+1) scope.names []) (bindC (envOfC F scope s.heap.objs.size f cd).kindOf (ps.zip us) λ_=>Nn) s1) :
  Inv (kH CX P w K mg base N F scope f cd A outer s H E) [] (start N vs) H s1:=by
 have ab:ps.length<=N.length:=by have:=congrArg List.length S.pre;rw[sQ]at this;lia
 refine yE2 x.done λh1 tk=>yB2 ?_;rintro rfl hk;have U:∀b:so,b∉(kH CX P w K mg base N F scope f cd A outer s H E).ex:=λb z=>absurd (show b∈([]:LL) from z) '~';refine⟨⟨J.mod,S.kind,rfl,rfl,zu _,λy z c h1 h2=>?_,λy O=>?_,λy c _ h=>?_,λ_=>hd,Mc.frames_deeper J.frames,.inr ⟨rfl,rfl⟩,λb z=>absurd z (U b),J.bs,J.bsz,λb _ _=>U b,λb z=>absurd z (U b),J.funs,J.frf⟩,
  rfl,J.bare,Un.kept hk,⟨_,x.toInCall.ns,λi y v h1 h2 h3=>?_⟩,λy c h=>⟨_,x.cell y c h⟩,J.hok.fresh (zu _),λy c h=>?_,λp Y=>absurd (show p∈([]:List (so×Obj)) from Y) '~',J.hok.kept hk,?_⟩
 .exact name_of_addr x.apart (zaX h1) (zaX h2)
 .have O:scope.names.lookup y=Sm .cell\/scope.names.lookup y=Sm .free:=O;rcases O with O | O
  .exact rf O
  .exact absurd rfl (S.nofree _ (zaX O))
 .exact xE (x.above y c (zaX h))
 .have hi:i<vs.length:=by
   unfold start at h2;by_cases hi:i<vs.length
   .exact hi
   .rw[uC (by simpa using hi)]at h2;rw[zaY]at h2;split at h2<;>cases h2
  have ha:vs[i]?=Sm v:=by
   unfold start at h2;rw[xR (by simpa using hi),yf]at h2;cases e:vs[i]? with
   | none=>rw[e]at h2;cases h2
   | some a=>rw[e]at h2;cases h2;rfl
  let#[u,hu,rv]:=r.get ha;have Y:ps[i]?=Sm y:=by
   rw[<-S.pre,List.getElem?_take_of_lt ()];exact h1
  have Z:ps.Nodup:=by rw[<-S.pre];exact S.nd.sublist (List.take_sublist _ _)
  refine#[u,rv,?_];rcases S.par y (me Y) with k | k
  .exact .inl #[k,pK Z Y hu k]
  .let#[c,e]:=rf (n:=s.heap.objs.size+1) k;refine .inr #[.inl k,c,e,?_];have q:=x.cell y c e;rw[pq Z Y hu (by show scope.names.lookup y≠_;rw[k];decide)]at q;exact q
 .exact J.hok.fresh (xE (x.above y c (zaX h)))
 .unfold start;show _=N.length;rw[jn,ze,zaL];lia
theorem Ka{CX:jL}{P:Lw}{w:Lu}{K:K_}{mg:Str->LO}{base:Lv}{k:Nat}{f:so}{name F:Str}{U:Arguments}{Y:List L6}{scope:Scope}{dV kV ac pm O ct oc:KE}{an od:LZ}
  {a3:Array LO} {N ps:LI} {sp:Sp} (lk:K.lookup f=Sm #[oc,od,.func (M3 name F U Y scope dV kV ac pm an O ct),a3]) (al:W.codeIn K O F=true) (S:aE N ps scope)
  (len:∀vs H Q E,sp vs H Q E->vs.length=ps.length)
  (ab:∀(A:Mc) (outer:List Env) (s:F_) (H:Hp) (vs:LM) (Q:VK) (E:XK),Cm k (A.deeper (envOfC F scope s.heap.objs.size f O))->sp vs H Q E->
   ∃t,Hq (kH CX P w K mg base N F scope f O A outer s H E) Y t/\t {nx:=λ_ H'=>Q .non H',rt:=Q} (start N vs) H) :
  GG P w K mg base CX (k+1) f (M3 name F U Y scope dV kV ac pm an O ct) ps sp:=by
 refine#[len,λA outer s H args us vs Q E hr e0 hb r ad=>?_];have hl:=len _ _ _ _ ad;have KX:K.In s.heap:=e0.mod.kin.keeps λb o e=>(e0.bs b o e).1;have as:s.heap.NoLimit:=e0.mod.nolimit.keeps λb o e=>(e0.bs b o e).1;have Z:∀y∈ps.zip us,scope.names.lookup y.1=Sm .local\/(scope.names.lookup y.1=Sm .cell/\((cellsFrom (s.heap.objs.size+1) scope.names []).lookup y.1).isSome=true):=λ⟨n,v⟩ hy=>by
  rcases S.par n (List.of_mem_zip hy).1 with q | q
  .exact .inl q
  .exact .inr #[q,W.cellsFrom_some _ _ _ (.inl q)]
 refine codeAny_call_function hr.depth (KX _ _ lk) rfl S.co S.gen rfl (W.codeRec_of KX al) (hb _ _ _ _ ?_);refine wpAny_newFunctionEnv_cells S.kind Z λenv he s1 x=>?_;subst he;refine#[as.keeps x.toInCall.keep,codeAny_func ?_];let#[t,ht,hq]:=ab A outer s H vs Q E (hr.deeper _) ad;have I:Inv (kH CX P w K mg base N F scope f O A outer s H E) [] (start N vs) H s1:=Bi S hr.hd e0 hl r x;refine MQ (ht [] s1 (start N vs) H _ I hq) (λfl s' hs=>?_) λe s' hs=>hs;have ag:∀ {σ':St} {H':Hp} {v:V} {u:KE},Inv (kH CX P w K mg base N F scope f O A outer s H E) [] σ' H' s'->RelV v u->Q v H'->CE outer P w H s Q u s':=
  λ{σ' H' v u} J rv q=>yI2 v H' #[J.os,J.bare,J.base,J.hok,rv,q]
 cases fl with
 | ret u=>
  revert hs;refine yF3 λv σ' H'=>yB3 λJ rv q=>?_;exact ag J rv q
 | next=>
  revert hs;refine yF2 λσ' H'=>yB2 λJ q=>?_;exact ag (v:=V.non) (u:=Mu) J rfl q
 | brk=>
  revert hs;refine yF2 λ_ _=>yB2 λ_ q=>?_;exact False.elim q
 | cont=>
  revert hs;refine yF2 λ_ _=>yB2 λ_ q=>?_;exact False.elim q
section
variable{X:Cx}{x:Str}{p pos:Pos}{e:Expr}{es:LX}{t:TA}{id T:String}{r:LM->Hp->VK->Prop}
def A9(r:LM->Hp->VK->Prop)(t:TA):TE:=λσ H Q=>t σ H λvs H1=>r vs H1 Q
theorem CL(U:B3 X (.builtin id) r)(hg:Gl X x)(O:X.mg x=Nn)(hv:Mz x=Sm (.builtin id))(ha:PA X (e::es) t)(S:x ≠ "__name__" := by decide) (hdb:(x==("__debug__" : Str))=false:=by decide)
  (he:Mh (e::es) X.env=(false,eval e X.env)::Mh es X.env:=by rfl) (hpl:(backTo pos (Mh es X.env)).any (·.1)=false:=by rfl):PE X (.Call (.Name x p) (e::es) [] pos) (A9 r t):=by
 intro pins s σ H Q I h;refine N7 (iW I hg O hv ?_ S hdb);exact PyProof.Rows.callWith_builtin1 (bD (ha pos pins s σ H _ I h) λW Z ⟨vs,H1,Y,J,F⟩=>U pins Z σ H1 vs W Q Y J F) he hpl
theorem Au(U:B3 X (.type T) r)(hg:Gl X x)(O:X.mg x=Nn)(hv:Mz x=Sm (.type T))(ha:PA X (e::es) t)(S:x ≠ "__name__" := by decide) (hdb:(x==("__debug__" : Str))=false:=by decide)
  (he:Mh (e::es) X.env=(false,eval e X.env)::Mh es X.env:=by rfl) (hpl:(backTo pos (Mh es X.env)).any (·.1)=false:=by rfl):PE X (.Call (.Name x p) (e::es) [] pos) (A9 r t):=by
 intro pins s σ H Q I h;refine N7 (iW I hg O hv ?_ S hdb);exact zaV (bD (ha pos pins s σ H _ I h) λW Z ⟨vs,H1,Y,J,F⟩=>U pins Z σ H1 vs W Q Y J F) he hpl
end
end L2
namespace HT
open PySem PyProof.Rows
theorem rcLt_int(A:Mc)(s:F_)(a:Int)(t:Tok)(c:Int)(u:Tok)(prog:Lw)(w:Lu)(E:LH)(Q:LH)(h:Q (.bool (decide (a<c))) s) :
  G_ (model prog w) A (richCompare .Lt (.int a t) (.int c u)) Q E s:=
 (PyProof.Rows.lt_int h:G_ (model prog w) A (Mq .Lt (.int a t) (.int c u)) Q E s)
section
variable{prog:Lw}{w:Lu}{A:Mc}{E:LH}{s:F_}
theorem cat_tup{t b:so}{vs ws:LN}{Q:LH}(ht:IsTup s.heap t vs.toArray)(hb:IsTup s.heap b ws.toArray)(hv:vs≠[])
  (h1:ws=[]->Q (.ref t) s) (h2:ws≠[]->Q (.ref s.heap.objs.size) {s with heap:=s.heap.push {cls:=.type "tuple",data:=.seq (vs++ws).toArray}})
  (hsz:vs.length+ws.length<=L_):G_ (model prog w) A (binaryOp .Add (.ref t) (.ref b)) Q E s:=by
 refine yE1 (id ht) ?_;rintro ⟨cls,dd,data,sl⟩;refine yB3 λY Z=>yF1 λn hd=>?_;refine yE1 (id hb) ?_;rintro ⟨ab,O,data2,U⟩;refine yB3 λJ W=>yF1 λn2 S=>?_;simp only at Z hd W S;subst Z hd W S;have e:vs.toArray++ws.toArray=(vs++ws).toArray:='~';by_cases hw:ws=[]
 .exact concat_meets #[_,Y,rfl] #[_,J,rfl] noFill_tuple_add seq_tuple_add PySem.F.slot_tuple_add PySem.F.entry_tuple_add (PySem.F.args_tuple_add_2 _ _)
   (tuple_addW1 t b vs.toArray ws.toArray n n2 dd O sl U (by simpa using hv) (by simp[hw])) #[Y,J,h1 hw]
 .refine concat_meets #[_,Y,rfl] #[_,J,rfl] noFill_tuple_add seq_tuple_add PySem.F.slot_tuple_add PySem.F.entry_tuple_add (PySem.F.args_tuple_add_2 _ _)
   (tuple_addW2 t b vs.toArray ws.toArray n n2 dd O sl U (by simpa using hv) (by simpa using hw) (by rw[List.size_toArray,List.size_toArray];exact hsz)) #[Y,J,?_]
  rw[e];exact h2 hw
noncomputable def sIx(n d:Nat):LQ->Nat
 | none=>d
 | some v=>if v<0 then (v+(n:Int)).toNat else min v.toNat n
theorem sIx_none(n d:Nat):sIx n d Nn=d:=rfl
theorem sIx_nat(n d k:Nat):sIx n d (Sm (k:Int))=min k n:=by
 show (if (k:Int)<0 then ((k:Int)+(n:Int)).toNat else min (k:Int).toNat n)=min k n;rw[if_neg (),Int.toNat_natCast]
theorem H_(n d:Nat)(hd:d<=n)(o:LQ):sIx n d o<=n:=by
 cases o with
 | none=>exact hd
 | some v=>
  show (if v<0 then (v+(n:Int)).toNat else min v.toNat n)<=n;by_cases hv:v<0
  .rw[if_pos hv];lia
  .rw[if_neg hv];exact Nat.min_le_right _ _
theorem wj(v:Int)(n d:Nat):(if v<0 then max (v+(n:Int)) 0 else min v (n:Int))=((sIx n d (Sm v):Nat):Int):=by
 show (if v<0 then max (v+(n:Int)) 0 else min v (n:Int))=(((if v<0 then (v+(n:Int)).toNat else min v.toNat n):Nat):Int)
 by_cases hv:v<0
 .simp only[if_pos hv];lia
 .simp only[if_neg hv];lia
theorem yr(lo hi:LQ)(n:Nat):On lo hi 1 (n:Int)=(((sIx n 0 lo:Nat):Int),((sIx n n hi:Nat):Int)):=by
 have h1:¬ ((1:Int)<0):=()
 unfold On;simp only[h1,if_false];refine Prod.ext ?_ ?_
 .cases lo with
  | none=>rfl
  | some v=>exact wj v n 0
 .cases hi with
  | none=>rfl
  | some v=>exact wj v n n
theorem yZ(i j:Nat):N8 (i:Int) (j:Int) 1=j-i:=by
 unfold N8;have h1:(1:Int)>0:=()
 simp only[h1,if_true,Int.ediv_one];split<;>lia
theorem mN{v:KE}{o:LQ}{Q:LQ->F_->Prop}(p:IsPart v o)(h:Q o s):G_ (model prog w) A (Mp.Slice.slicePartIndex v) Q E s:=by
 cases p with
 | none=>exact slicePart_none h
 | int i t=>exact slicePart_int h
theorem sliceApplied_gen{U:so}{S O:KE}{lo hi:LQ}{n:Nat}{Q:Int×Int×Nat->F_->Prop}(W:s.heap.IsSliceOf U S O .none)(pl:IsPart S lo)(Z:IsPart O hi)
  (h:Q (((sIx n 0 lo:Nat):Int),1,sIx n n hi-sIx n 0 lo) s):G_ (model prog w) A (OA (.ref U) (pure (n:Int))) Q E s:=by
 refine yE1 (id W) λos=>yB3 λJ Y F=>?_;unfold OA Mp.Slice.sliceFields;refine Mw (Mw (MT J F (x:=S) rfl (Mw (MT J F (x:=O) rfl (Mw (MT J F (x:=.none) rfl (MC ?_)))))));refine Mw (slicePart_none ?_);show G_ _ _ (if ((1:Int)==0)=true then _ else _) _ _ s;rw[if_neg ∅];refine Mw (mN pl (Mw (mN Z (Mw (MC ?_)))));show G_ _ _ (match On lo hi 1 (n:Int) with | (lo,hi)=>pure (lo,(1:Int),N8 lo hi 1)) _ _ s;rw[yr lo hi n];show G_ _ _ (pure (((sIx n 0 lo:Nat):Int),(1:Int),N8 ((sIx n 0 lo:Nat):Int) ((sIx n n hi:Nat):Int) 1)) _ _ s;rw[yZ];exact MC h
theorem BZ(xs:LY)(i k:Nat):((List.range k).filterMap λ(m:Nat)=>xs[((i:Int)+(m:Int)*1).toNat]?).toArray=((xs.toList.drop i).take k).toArray:=by
 have e:(λ(m:Nat)=>xs[((i:Int)+(m:Int)*1).toNat]?)=λm=>xs[i+m]?:=by
  funext m;have:((i:Int)+(m:Int)*1).toNat=i+m:=()
  rw[this]
 rw[e];have:=pick_run xs i k;rw[List.filterMap_map]at this;have F:((λx=>xs[x]?) ∘ λx=>i+x)=λm=>xs[i+m]?:=rfl;rw[F]at this;rw[this]
theorem getItem_tuple_cut{t Y:so}{items:LY}{vl vu:KE}{lo hi:LQ}{Q:LH}(J:IsTup s.heap t items)(Z:s.heap.IsSliceOf Y vl vu .none)(pl:IsPart vl lo)(pu:IsPart vu hi)
  (hw:¬ (sIx items.size 0 lo=0/\sIx items.size items.size hi=items.size))
  (h:Q (.ref s.heap.objs.size) {s with heap:=s.heap.push {cls:=.type "tuple",data:=.seq ((items.toList.drop (sIx items.size 0 lo)).take (sIx items.size items.size hi-sIx items.size 0 lo)).toArray}})
  (hsz:items.size<=L_):G_ (model prog w) A (getItem (.ref t) (.ref Y)) Q E s:=by
 have F:sizeOk (.seq ((items.toList.drop (sIx items.size 0 lo)).take (sIx items.size items.size hi-sIx items.size 0 lo)).toArray):=by
  show ((items.toList.drop (sIx items.size 0 lo)).take (sIx items.size items.size hi-sIx items.size 0 lo)).toArray.size<=L_;rw[List.size_toArray,List.length_take,List.length_drop,Array.length_toList];exact Nat.le_trans (Nat.min_le_right _ _) (Nat.le_trans (Nat.sub_le _ _) hsz)
 have hj:sIx items.size items.size hi<=items.size:=H_ _ _ (Nat.le_refl _) hi;refine yE1 (id Z) λos=>yB3 λS U ab=>?_;have O:s.TypeIs (.ref Y) "slice" := #[os,S,U];unfold getItem
 try with_reducible refine Ms ?_
 first | refine Mw (MC ?_) | skip
 refine Mw (wpAny_sequenceKey J.typeIs ∅ ?_);refine Mw (M4 (name:=Str.ofString "__getitem__") J.typeIs PyProof.Rows.slot_tuple_getitem
  (My PyProof.Rows.slot_tuple_getitem J.typeIs entry_tuple_getitem ?_ (args_tuple_getitem _ _)))
 show G_ _ _ (Oq (.ref t) >>= _) _ _ s;refine Mw (tupleItemsOf_ J ?_);refine Mw (Nt O ?_);rw[if_pos ∅];refine Mw (sliceApplied_gen Z pl pu ?_);have W:¬ ((((sIx items.size 0 lo:Nat):Int)==0&&(1:Int)==1&&(sIx items.size items.size hi-sIx items.size 0 lo)==items.size)=true):=by
  intro q;rw[Bool.and_eq_true,Bool.and_eq_true]at q;have q1:((sIx items.size 0 lo:Nat):Int)=0:=eq_of_beq q.1.1;have q2:sIx items.size items.size hi-sIx items.size 0 lo=items.size:=eq_of_beq q.2;exact hw #[(),()]
 show G_ _ _ (if (((sIx items.size 0 lo:Nat):Int)==0&&(1:Int)==1&&(sIx items.size items.size hi-sIx items.size 0 lo)==items.size)=true then _ else _) _ _ s;rw[if_neg W,BZ]
 first
  | exact Mw (m:=N9 _) (MA (MC ⟨_,rfl,MC h⟩) F)
  | exact Mw (m:=N9 _) (MA (Mw (MC (MC ⟨_,rfl,MC h⟩))) F)
  | exact Mw (Mw (m:=N9 _) (MA (MC (MC ⟨_,rfl,MC h⟩)) F))
  | exact Mw (Mw (m:=N9 _) (MA (MC ⟨_,rfl,MC h⟩) F))
end
end HT
namespace L2
open PySem PySem.Spec PyProof.Rows
variable{H:Hp}
abbrev TO:=St->Hp->(LQ->Hp->Prop)->Prop
def PO(X:Cx)(e:Option Expr)(t:TO):Prop:=
 ∀(pins:List (so×Obj)) (s:F_) (σ : St) (H:Hp) (Q:LQ->Hp->Prop),Inv X pins σ H s->t σ H Q->
  G_ (model X.prog X.w) X.A (evalPart e X.env) (λu s'=>∃o H',Inv X pins σ H' s'/\IsPart u o/\Q o H') X.xe s
def nV:TO:=λ_ H Q=>Q Nn H
def yW(t:TE):TO:=λσ H Q=>t σ H λx H1=>∃i,x = .int i/\Q (Sm i) H1
theorem mT{ns:LS}:∀ {F:LN},Br (ns.map V.int) F->M7 F ns:=by
 induction ns with
 | nil=>intro F r;rw[IT]at r;cases r;exact .nil
 | cons n ns ih=>
  intro F r;rw[yX]at r;cases r with
  | cons r1 r2=>
   let#[t,e]:=r1;subst e;exact .cons n t (ih r2)
section
variable{X:Cx}{e:Expr}{te:TE}{lo hi:Option Expr}{tl th:TO}{pos p2:Pos}
theorem gS:PO X Nn nV:=by
 intro pins s σ H Q I h;rw[evalPart_none];exact KP (yI2 Nn H #[I,.none,h])
theorem fG(h:PE X e te):PO X (Sm e) (yW te):=by
 intro pins s σ H Q I O;rw[evalPart_some];refine bD (h pins s σ H _ I O) λu U ⟨x,H1,S,J,F⟩=>?_;let#[i,rfl,q]:=F;let#[t,rfl]:=J;exact yI2 (Sm i) H1 #[S,.int i t,q]
def Do(X:Cx)(r:V->LQ->LQ->Hp->VK->Prop):Prop:=
 ∀(pins:List (so×Obj)) (s:F_) (σ : St) (H:Hp) (x:V) (v vl vu:KE) (lo hi:LQ) (sl:so) (Q:VK),Inv X pins σ H s->RelV x v->s.heap.IsSliceOf sl vl vu .none->IsPart vl lo->IsPart vu hi->r x lo hi H Q->
  ∃T id,typeLookup (.type T) "__getitem__" = pure (Sm (.builtin id))/\s.TypeIs v T/\G_ (model X.prog X.w) X.A (getItem v (.ref sl)) (EP X pins σ Q) X.xe s
theorem Do.or{r J:V->LQ->LQ->Hp->VK->Prop}(h:Do X r)(h':Do X J):Do X (λx lo hi H Q=>r x lo hi H Q\/J x lo hi H Q):=by
 intro pins s σ H x v S O lo hi Y Q I W F pl U q;rcases q with q | q
 .exact h pins s σ H x v S O lo hi Y Q I W F pl U q
 .exact h' pins s σ H x v S O lo hi Y Q I W F pl U q
def GC(r:V->LQ->LQ->Hp->VK->Prop)(te:TE)(tl th:TO):TE:=λσ H Q=>te σ H λx H1=>tl σ H1 λl H2=>th σ H2 λu H3=>r x l u H3 Q
theorem fe{r:V->LQ->LQ->Hp->VK->Prop}(hr:Do X r)(Z:PE X e te)(hl:PO X lo tl)(hu:PO X hi th):PE X (.Subscript e (.Slice lo hi Nn p2) pos) (GC r te tl th):=by
 intro pins s σ H Q I h;refine Subscript_ (bD (Z pins s σ H _ I h) λv s1 ⟨x,H1,I1,r1,q1⟩=>?_);refine wpAny_Slice (bD (hl pins s1 σ H1 _ I1 q1) λJ s2 ⟨l,H2,W,pl,q2⟩=>bD (hu pins s2 σ H2 _ W q2) λF s3 ⟨u,O,I3,Y,U⟩=>?_);rw[evalPart_none];refine KP ?_;have S:Inv X pins σ O {s3 with heap:=s3.heap.push {cls:=.type "slice",data:=.fields #v[J,F,.none]}}:=I3.kept (t':=s3.toks) λb ob q=>yK _ q;refine yE2 (hr pins {s3 with heap:=s3.heap.push {cls:=.type "slice",data:=.fields #v[J,F,.none]}} σ O x v J F l u s3.heap.objs.size Q S r1 (Lv.IsSliceOf.new ..) pl Y U) λT id=>yB3 λhT ht hg=>?_;show G_ (model X.prog X.w) X.A (subscriptTail e (.Slice lo hi Nn p2) v (.ref s3.heap.objs.size)) (EP X pins σ Q) X.xe {s3 with heap:=s3.heap.push {cls:=.type "slice",data:=.fields #v[J,F,.none]}};exact tail_any (ops:=[.ref s3.heap.objs.size,v]) ht hT hg (by with_unfolding_all rfl)
noncomputable def dO(xs:LM)(lo hi:LQ):LM:=(xs.drop (HT.sIx xs.length 0 lo)).take (HT.sIx xs.length xs.length hi-HT.sIx xs.length 0 lo)
theorem l7(xs:LM)(lo hi:LQ):(dO xs lo hi).length<=xs.length:=by
 unfold dO;rw[sQ,Jx];lia
def Md(K:K_):V->LQ->LQ->Hp->VK->Prop:=λx lo hi H Q=>∃a xs,x = .ref a/\su K H a xs/\
 ¬ (HT.sIx xs.length 0 lo=0/\HT.sIx xs.length xs.length hi=xs.length)/\∀p,H p=Nn->Q (.ref p) (upd H p (.tup (dO xs lo hi)))
theorem Hn:Do X (Md X.K):=by
 intro pins s σ H x v vl Z lo hi sl Q I Y U pl W h;revert h;refine yF2 λa xs=>yB4 ?_;rintro rfl hx S q;cases Y;refine yE1 (I.tuple hx) λJ=>yB3 λr O hz=>?_;have F:J.toArray.size=xs.length:=by rw[xU];exact r.length.symm
 refine yI2 ("tuple") _ #[PyProof.Rows.slot_tuple_getitem.lookup,O.typeIs,?_];refine HT.getItem_tuple_cut O U pl W (by rw[F];exact S) ?_ (by rw[F];exact hz);rw[F];refine yI2 (.ref s.heap.objs.size) _ #[I.laid (t':=s.toks) (o:=.tup (dO xs lo hi)) (λb ob q=>yK _ q) (zu _) ?_,rfl,q _ (I.hok.fresh (zu _))];exact#[xH (l7 xs lo hi) hz,_,(r.drop (HT.sIx xs.length 0 lo)).take (HT.sIx xs.length xs.length hi-HT.sIx xs.length 0 lo),Gs.new _ _]
def qI(K:K_):R2:=λx y H Q=>∃a b xs ys,x = .ref a/\y = .ref b/\su K H a xs/\su K H b ys/\xs≠[]/\xs.length+ys.length<=L_/\
 (ys=[]->Q (.ref a) H)/\(ys≠[]->∀p,H p=Nn->Q (.ref p) (upd H p (.tup (xs++ys))))
theorem Br.nil_iff{xs:LM}{F:LN}(r:Br xs F):F=[] ↔ xs=[]:=by
 cases r with
 | nil=>simp
 | cons _ _=>simp
theorem E3:Ge X (binaryOp .Add) (qI X.K):=by
 intro pins s σ H x y v u Q I W ry h;revert h;refine yF4 λa b xs ys=>yB8 ?_;rintro rfl rfl Z U hx hz S q2;cases W;cases ry;refine yE1 (I.tuple Z) λab=>yB3 λJ Y _=>?_;refine yE1 (I.tuple U) λO=>yB3 λF p2 _=>?_;refine HT.cat_tup Y p2 (λz=>hx (J.nil_iff.mp z)) (λz=>yI2 (.ref a) H #[I,rfl,S (F.nil_iff.mp z)]) (λz=>?_) (by rw[<-J.length,<-F.length];exact hz);refine yI2 (.ref s.heap.objs.size) _ #[I.laid (t':=s.toks) (o:=.tup (xs++ys)) (λb ob q=>yK _ q) (zu _) ?_,rfl,q2 (λw=>z (F.nil_iff.mpr w)) _ (I.hok.fresh (zu _))];exact#[by rw[jn];exact hz,_,J.append F,Gs.new _ _]
end
noncomputable def ku(n:Nat)(i:Int):LW:=if 0<=i then (if i<n then Sm i.toNat else Nn) else if -(n:Int)<=i then Sm (i+n).toNat else Nn
noncomputable def cM{α:Type}(xs:List α)(i:Int):Option α:=(ku xs.length i).bind λj=>xs[j]?
theorem wQ{n:Nat}{i:Int}{j:Nat}(h:ku n i=Sm j):seqIndex? i n=Sm j/\j<n/\-(n:Int)<=i/\i<n:=by
 unfold ku at h;by_cases h0:0<=i
 .rw[KZ h0]at h;by_cases h1:i<n
  .rw[KZ h1]at h;have e:i.toNat=j:=Option.some.inj h;exact#[by rw[seqIndex_of h0 h1,e],(),(),h1]
  .rw[KQ h1]at h;cases h
 .rw[KQ h0]at h;by_cases h1:-(n:Int)<=i
  .rw[KZ h1]at h;have e:(i+n).toNat=j:=Option.some.inj h;exact#[by rw[seqIndex_neg () h1,e],(),h1,()]
  .rw[KQ h1]at h;cases h
theorem nQ{α:Type}{xs:List α}{i:Int}{v:α}(h:cM xs i=Sm v):∃j,seqIndex? i xs.length=Sm j/\xs[j]?=Sm v/\j<xs.length/\-(xs.length:Int)<=i/\i<xs.length:=by
 unfold cM at h;cases e:ku xs.length i with
 | none=>rw[e]at h;cases h
 | some j=>
  rw[e]at h;refine yA4 (wQ e) λh1 h2 F J=>?_;exact#[j,h1,h,h2,F,J]
theorem ao{α:Type}{xs:List α}{j:Nat}{v:α}(h:xs[j]?=Sm v):cM xs (j:Int)=Sm v:=by
 have F:j<xs.length:=(KO.mp h).1;have e:ku xs.length (j:Int)=Sm j:=by
  unfold ku;rw[KZ (),KZ ()];simp
 unfold cM;rw[e];exact h
def FX(b:Expr):Prop:=∀o i,subscripted b false o i=operate [o,i] (getItem o i)
def Hw(X:Cx)(r:R2):Prop:=
 ∀(value slice:Expr) (pins:List (so×Obj)) (s:F_) (σ : St) (H:Hp) (x y:V) (v u:KE) (Q:VK),Inv X pins σ H s->RelV x v->RelV y u->r x y H Q->
  subscripted slice false v u=operate [v,u] (getItem v u)->G_ (model X.prog X.w) X.A (subscriptTail value slice v u) (EP X pins σ Q) X.xe s
def Hr(X:Cx)(id:String)(r:V->LM->Hp->VK->Prop):Prop:=
 ∀(pins:List (so×Obj)) (s:F_) (σ : St) (H:Hp) (x:V) (xs:LM) (v:KE) (us:LN) (Q:VK),Inv X pins σ H s->RelV x v->Br xs us->r x xs H Q->
  G_ (model X.prog X.w) X.A (call (.builtin id) (v::us)) (EP X pins σ Q) X.xe s
section
variable{X:Cx}{a b:Expr}{ta tb:TE}{pos:Pos}
theorem Hw.or{r O:R2}(h:Hw X r)(h':Hw X O):Hw X (λx y H Q=>r x y H Q\/O x y H Q):=by
 intro value F pins s σ H x y v u Q I U S q J;rcases q with q | q
 .exact h value F pins s σ H x y v u Q I U S q J
 .exact h' value F pins s σ H x y v u Q I U S q J
theorem am{r:R2}(F:Hw X r)(S:PE X a ta)(J:PE X b tb)(O:FX b:=by exact λ_ _=>rfl):PE X (.Subscript a b pos) (uE r ta tb):=by
 intro pins s σ H Q I h;exact Subscript_ (B_ S J I h λv u s2 x y H2 W Y U q=>F a b pins s2 σ H2 x y v u Q W Y U q (O _ _))
def Iy(K:K_):R2:=λx y H Q=>∃p xs i v,x = .ref p/\y = .int i/\ud K H p xs/\cM xs i=Sm v/\Q v H
def Jc(K:K_):R2:=λx y H Q=>∃p xs i v,x = .ref p/\y = .int i/\su K H p xs/\cM xs i=Sm v/\Q v H
def G2:R2:=λx y H Q=>∃z i c,x = .str z/\y = .int i/\z.length<=L_/\cM z.cps.toList i=Sm c/\Q (.str #[#v[c]]) H
theorem IL:Hw X (Iy X.K):=by
 intro value J pins s σ H x y v u Q I rx ry h W;revert h;refine yF4 λp xs i z=>yB5 ?_;rintro rfl rfl Z he q;cases rx;let#[t,rfl]:=ry;refine yE1 (I.list Z) λU=>yB3 λr pl hz=>?_;refine yE1 (nQ he) λj=>yB5 λh1 h2 h3 h4 h5=>?_;let#[w,Y,O]:=r.get h2;have hl:=r.length;have hn:=jC;have F:EP X pins σ Q w s:=yI2 z H #[I,O,q];by_cases h0:0<=i
 .have S:i.toNat=j:=by
   rw[seqIndex_of h0 h5]at h1;exact Option.some.inj h1
  exact item_listR pl.isList h0 () (by rw[S];simpa using Y) F W
 .have S:(i+(U.toArray.size:Int)).toNat=j:=by
   rw[seqIndex_neg () h4]at h1;rw[xU,<-hl];exact Option.some.inj h1
  exact Oa (x:=w) pl.isList.typeIs slot_list_getitem.lookup
   (wpAny_getItem_list_neg (Q:=λr s'=>r=w/\EP X pins σ Q r s') pl.isList () (by rw[xU]<;>lia) () (by rw[S];simpa using Y) #[rfl,F]) W
theorem KA:Hw X (Jc X.K):=by
 intro value F pins s σ H x y v u Q I rx Y h S;revert h;refine yF4 λp xs i z=>yB5 ?_;rintro rfl rfl U W q;cases rx;let#[t,rfl]:=Y;refine yE1 (I.tuple U) λZ=>yB3 λr pl hz=>?_;refine yE1 (nQ W) λj=>yB5 λh1 h2 h3 h4 h5=>?_;let#[w,ew,J]:=r.get h2;have hl:=r.length;have hn:=jC;have O:EP X pins σ Q w s:=yI2 z H #[I,J,q];exact Oa (x:=w) pl.typeIs slot_tuple_getitem.lookup
  (getItem_tuple (j:=j) (Q:=λr s'=>r=w/\EP X pins σ Q r s') pl () () (by rw[xU,<-hl];exact h1) (by simpa using ew) #[rfl,O]) S
theorem HW:Hw X G2:=by
 intro value F pins s σ H x y v u Q I Y U h J;revert h;refine yF3 λz i c=>yB5 ?_;rintro rfl rfl hz O q;let#[t,rfl]:=Y;let#[t',rfl]:=U;refine yE1 (nQ O) λj=>yB5 λh1 h2 h3 Z W=>?_;have hl:z.cps.toList.length=z.length:=by simp[Str.length]
 rw[hl]at h1 Z W;have hn:=jC;exact tail_any (typeIs_str s z t) slot_str_getitem.lookup (getItem_str (c:=c) (by
  have S:decide (i < -(2^63:Int))=false:=decide_eq_false ();have e2:decide (i>=2^63)=false:=decide_eq_false ();rw[S,e2,Bool.or_false]) (by rw[h1];simpa using h2) (yI2 (.str ⟨#v[c]⟩) H ⟨I.tok _,⟨_,rfl⟩,q⟩)) J
def Qq(K:K_):R2:=λx y H Q=>Iy K x y H Q\/Jc K x y H Q\/G2 x y H Q
theorem Gr:Hw X (Qq X.K):=IL.or (KA.or HW)
theorem yD(F:LN)(n j:Nat)(u:KE):MW (·.setIfInBounds j u) {cls:=.type "list",data:=.seq F.toArray n}={cls:=.type "list",data:=.seq (F.set j u).toArray n}:=by
 simp[MW]
theorem Inv.lst{pins:List (so×Obj)}{σ:St}{s:F_}{p:so}{xs:LM}(I:Inv X pins σ H s)(h:H p=Sm (.lst xs)) :
  ∃(F:LN) (n:Nat),Br xs F/\s.heap.get? p=Sm {cls:=.type "list",data:=.seq F.toArray n}/\xs.length<=L_:=by
 refine yA2 (I.hok p _ h) λz=>yF2 λF n=>yB2 λr e=>?_;exact yI2 F n #[r,e,z]
theorem Inv.lstUpd{pins:List (so×Obj)}{σ:St}{s:F_}{p:so}{xs ys:LM}{F its':LN}{n n':Nat}{f:Obj->Obj}(I:Inv X pins σ H s)(h:H p=Sm (.lst xs))
  (O:s.heap.get? p=Sm {cls:=.type "list",data:=.seq F.toArray n}) (hf:f {cls:=.type "list",data:=.seq F.toArray n}={cls:=.type "list",data:=.seq its'.toArray n'}) (r:Br ys its') (hz:ys.length<=L_) (t:Nat) :
  Inv X pins σ (upd H p (.lst ys)) {s with heap:=s.heap.update p f,toks:=t}:=by
 have e:(s.heap.update p f).get? p=Sm {cls:=.type "list",data:=.seq its'.toArray n'}:=by
  rw[Iu f O (by rw[hf]<;>rfl),hf]
 refine I.write (x:=p) (e:=p) (by rw[h];trivial) (.inl rfl) (λb u J q=>(zaZ _ _ (uW J)).trans q) #[_,e] ?_;exact#[hz,yI2 its' n' #[r,e]]
def xf:V->V->V->Hp->(Hp->Prop)->Prop:=λo i v H Q=>∃p xs k j,o = .ref p/\i = .int k/\H p=Sm (.lst xs)/\ku xs.length k=Sm j/\Q (upd H p (.lst (xs.set j v)))
theorem BX:HR X xf:=by
 intro pins s σ H o i v ov iv u Q I ro ri rv h;revert h;refine yF4 λp xs k j=>yB5 ?_;rintro rfl rfl U hj q;cases ro;let#[t,rfl]:=ri;refine yE2 (I.lst U) λF n=>yB3 λr J hz=>?_;refine yA4 (wQ hj) λh1 h2 S Z=>?_;have hl:=r.length;have hn:=jC;have Y:Inv X pins σ (upd H p (.lst (xs.set j v))) {s with heap:=s.heap.update p (MW (·.setIfInBounds j u))}:=
  I.lstUpd U J (yD F n j u) (r.set rv j) (by rw[List.length_set];exact hz) s.toks
 by_cases h0:0<=k
 .have O:k.toNat=j:=by
   rw[seqIndex_of h0 Z]at h1;exact Option.some.inj h1
  exact W.ki_setAt J h0 () (by rw[xU,<-hl];exact Z) (by rw[O];exact#[_,Y,q])
 .have O:(k+(F.toArray.size:Int)).toNat=j:=by
   rw[seqIndex_neg () S]at h1;rw[xU,<-hl];exact Option.some.inj h1
  exact W.ki_setBack J () (by rw[xU,<-hl];exact S) () (by rw[O];exact#[_,Y,q])
theorem clipN(i:Int)(n:Nat):(max 0 (min (if i<0 then i+n else i) n)) = (((if i<0 then (i+n).toNat else min i.toNat n):Nat):Int):=by
 split
 next h=>rw[Int.toNat_eq_max,Int.min_eq_left (),Int.max_comm]
 next h=>
  rw[Int.max_eq_right (Int.le_min.mpr #[Int.not_lt.mp h,Int.natCast_nonneg n])];let#[k,rfl]:=Int.eq_ofNat_of_zero_le (Int.not_lt.mp h);rcases Nat.le_total k n with h|h
  .exact (Int.min_eq_left (Int.ofNat_le.mpr h)).trans (congrArg _ (Nat.min_eq_left h)).symm
  .exact (Int.min_eq_right (Int.ofNat_le.mpr h)).trans (congrArg _ (Nat.min_eq_right h)).symm
theorem rQ(lo hi:LQ)(n:Nat):(sliceBounds lo hi Nn n).1=((HT.sIx n 0 lo:Nat):Int)/\(sliceBounds lo hi Nn n).2.1=((HT.sIx n n hi:Nat):Int)/\(sliceBounds lo hi Nn n).2.2=1:=by
 refine#[?_,?_,rfl]
 .cases lo with
  | none=>rfl
  | some i=>exact clipN i n
 .cases hi with
  | none=>rfl
  | some i=>exact clipN i n
theorem qB(F:LN)(lo hi:LQ):slicePick F.toArray lo hi Nn=((F.drop (HT.sIx F.length 0 lo)).take (HT.sIx F.length F.length hi-HT.sIx F.length 0 lo)).toArray:=by
 let#[h1,h2,J]:=rQ lo hi F.toArray.size;unfold slicePick;rw[h1,h2,J];simp only[sliceRange_one,pick_run,xU]<;>rfl
def CK(K:K_):V->LQ->LQ->Hp->VK->Prop:=λx lo hi H Q=>∃a xs,x = .ref a/\ud K H a xs/\∀p,H p=Nn->Q (.ref p) (upd H p (.lst (dO xs lo hi)))
theorem FI:Do X (CK X.K):=by
 intro pins s σ H x v Z Y lo hi sl Q I W O pl U h;revert h;refine yF2 λa xs=>yB3 ?_;rintro rfl hx q;cases W;refine yE1 (I.list hx) λS=>yB3 λr J hz=>?_;have F:=r.length;refine yI2 ("list") _ #[slot_list_getitem.lookup,J.isList.typeIs,?_];refine wpAny_getItem_list_slice J.isList O pl U .none '~' ?_ (by rw[xU]<;>lia);rw[qB,<-F];refine yI2 (.ref s.heap.objs.size) _ #[I.laid (t':=s.toks) (o:=.lst (dO xs lo hi)) (λb ob q=>yK _ q) (zu _) ?_,rfl,q _ (I.hok.fresh (zu _))];exact#[xH (l7 xs lo hi) hz,yI2 _ 0 #[(r.drop (HT.sIx xs.length 0 lo)).take (HT.sIx xs.length xs.length hi-HT.sIx xs.length 0 lo),xb _ rfl]]
noncomputable def cW:V->Bool
 | .non=>true
 | .bl _=>true
 | .int _=>true
 | .str _=>true
 | _=>false
noncomputable def kZ:V->V->Bool
 | .non,.non=>true
 | .bl a,.bl b=>a==b
 | .bl a,.int b=>(if a then 1 else 0)==b
 | .int a,.bl b=>a==(if b then 1 else 0)
 | .int a,.int b=>a==b
 | .str a,.str b=>a==b
 | _,_=>false
theorem tU{A:Mc}{s:F_}{y x:V}{u v:KE}(J:RelV y u)(F:RelV x v)(S:cW y=true)(O:cW x=true):SeqAt.EqAt A s u v (kZ y x):=by
 cases y with
 | non=>
  cases J;cases x with
  | non=>cases F;exact SeqAt.EqAt.same _
  | bl b=>cases F;exact SeqAt.EqAt.none_bool b
  | int b=>let#[t,rfl]:=F;exact SeqAt.EqAt.none_int b t
  | str b=>let#[t,rfl]:=F;exact SeqAt.EqAt.none_str b t
  | _=>exact absurd (show false=true from O) xO
 | bl a=>
  cases J;cases x with
  | non=>cases F;exact SeqAt.EqAt.bool_none a
  | bl b=>cases F;exact SeqAt.EqAt.bool_bool a b
  | int b=>let#[t,rfl]:=F;exact SeqAt.EqAt.bool_int a b t
  | str b=>let#[t,rfl]:=F;exact SeqAt.EqAt.bool_str a b t
  | _=>exact absurd (show false=true from O) xO
 | int a=>
  let#[t',rfl]:=J;cases x with
  | non=>cases F;exact SeqAt.EqAt.int_none a t'
  | bl b=>cases F;exact SeqAt.EqAt.int_bool a t' b
  | int b=>let#[t,rfl]:=F;exact SeqAt.EqAt.int_int a t' b t
  | str b=>let#[t,rfl]:=F;exact SeqAt.EqAt.int_str a t' b t
  | _=>exact absurd (show false=true from O) xO
 | str a=>
  let#[t',rfl]:=J;cases x with
  | non=>cases F;exact SeqAt.EqAt.str_none a t'
  | bl b=>cases F;exact SeqAt.EqAt.str_bool a t' b
  | int b=>let#[t,rfl]:=F;exact SeqAt.EqAt.str_int a t' b t
  | str b=>let#[t,rfl]:=F;exact SeqAt.EqAt.str_str a t' b t
  | _=>exact absurd (show false=true from O) xO
 | _=>exact absurd (show false=true from S) xO
noncomputable def gM(x:V)(u:KE):Bool:=match u with
 | .none=>kZ .non x
 | .bool b=>kZ (.bl b) x
 | .int i _=>kZ (.int i) x
 | .str z _=>kZ (.str z) x
 | _=>false
theorem A_{x y:V}{u:KE}(r:RelV y u)(f:cW y=true):gM x u=kZ y x:=by
 cases y with
 | non=>cases r;rfl
 | bl b=>cases r;rfl
 | int i=>let#[t,rfl]:=r;rfl
 | str z=>let#[t,rfl]:=r;rfl
 | _=>exact absurd (show false=true from f) xO
theorem jw{x:V}:∀ {xs:LM} {F:LN},Br xs F->xs.all cW=true->F.any (gM x)=xs.any λy=>kZ y x
 | _,_,.nil,_=>rfl
 | y::xs,u::F,.cons r t,f=>by
  rw[List.all_cons,KI]at f;rw[za0,za0,A_ r f.1,jw t f.2]
theorem i7{A:Mc}{s:F_}{x:V}{v:KE}(S:RelV x v)(O:cW x=true):∀ {xs:LM} {J:LN},Br xs J->xs.all cW=true->∀u∈J,SeqAt.EqAt A s u v (gM x u)
 | _,_,.nil,_=>λu F=>by cases F
 | y::xs,u::J,.cons r t,f=>λU F=>by
  rw[List.all_cons,KI]at f;rcases K7.mp F with rfl | F
  .rw[A_ r f.1];exact tU r S f.1 O
  .exact i7 S O t f.2 U F
noncomputable def iQ(x:V)(xs:LM):Bool:=xs.any λy=>kZ y x
def K9(K:K_)(neg:Bool):R2:=λx y H Q=>∃p xs,y = .ref p/\(ud K H p xs\/su K H p xs)/\cW x=true/\xs.all cW=true/\Q (.bl (if neg then !iQ x xs else iQ x xs)) H
theorem Af:Ge X (Mq .In) (K9 X.K false):=by
 intro pins s σ H x y v u Q I U W h;revert h;refine yF2 λp xs=>yB5 ?_;rintro rfl J S fs q;cases W;rcases J with J | J
 .refine yE1 (I.list J) λF=>yB3 λr pl hz=>?_;refine SeqAt.in_listAt (gM x) pl.isList (λw O=>i7 U S r fs w (by simpa using O)) (yI2 (.bl _) H #[I,rfl,?_]);rw[show F.toArray.any (gM x)=F.any (gM x) from '~',jw r fs];exact q
 .refine yE1 (I.tuple J) λF=>yB3 λr pl hz=>?_;refine SeqAt.in_tupleAt (gM x) pl (λw O=>i7 U S r fs w (by simpa using O)) (yI2 (.bl _) H #[I,rfl,?_]);rw[show F.toArray.any (gM x)=F.any (gM x) from '~',jw r fs];exact q
theorem rc:Ge X (Mq .NotIn) (K9 X.K true):=by
 intro pins s σ H x y v u Q I U W h;revert h;refine yF2 λp xs=>yB5 ?_;rintro rfl J S fs q;cases W;rcases J with J | J
 .refine yE1 (I.list J) λF=>yB3 λr pl hz=>?_;refine SeqAt.notIn_listAt (gM x) pl.isList (λw O=>i7 U S r fs w (by simpa using O)) (yI2 (.bl _) H #[I,rfl,?_]);rw[show F.toArray.any (gM x)=F.any (gM x) from '~',jw r fs];exact q
 .refine yE1 (I.tuple J) λF=>yB3 λr pl hz=>?_;refine SeqAt.notIn_tupleAt (gM x) pl (λw O=>i7 U S r fs w (by simpa using O)) (yI2 (.bl _) H #[I,rfl,?_]);rw[show F.toArray.any (gM x)=F.any (gM x) from '~',jw r fs];exact q
theorem sV:B3 X (.builtin "len") (λxs H Q=>∃p ys,xs=[.ref p]/\(ud X.K H p ys\/su X.K H p ys)/\Q (.int ys.length) H):=by
 intro pins s σ H xs Y Q I r h;revert h;refine yF2 λp ys=>yB3 ?_;rintro rfl J q;let#[u,rfl,U]:=dv r;cases U;have W:=jC;rcases J with J | J
 .refine yE1 (I.list J) λS=>yB3 λO pl hz=>?_;have F:=O.length;exact Calls.call_len_list pl.isList (by simp only[xU]<;>lia) (yI2 (.int ys.length) H #[I.tok _,#[s.toks+1,by rw[xU,F]],q])
 .refine yE1 (I.tuple J) λS=>yB3 λO pl hz=>?_;have F:=O.length;exact len_tuple pl (by simp only[xU]<;>lia) (yI2 (.int ys.length) H #[I.tok _,#[s.toks+1,by rw[xU,F]],q])
theorem sY:B3 X (.builtin "len") (λxs H Q=>∃z,xs=[.str z]/\z.length<=L_/\Q (.int z.length) H):=by
 intro pins s σ H xs F Q I r h;revert h;refine yF1 λz=>yB3 ?_;rintro rfl hz q;refine yE1 (dv r) λu=>yB2 ?_;rintro rfl;refine yF1 ?_;rintro t rfl;have J:=jC;exact len_str () (yI2 (.int z.length) H #[I.tok _,#[_,rfl],q])
theorem qz:B3 X (.type "tuple") (λxs H Q=>∃p ys,xs=[.ref p]/\((ud X.K H p ys/\∀l,H l=Nn->Q (.ref l) (upd H l (.tup ys)))\/(su X.K H p ys/\Q (.ref p) H))):=by
 intro pins s σ H xs Z Q I r h;revert h;refine yF2 λp ys=>yB2 ?_;rintro rfl h;let#[u,rfl,Y]:=dv r;cases Y;rcases h with ⟨O,q⟩ | ⟨O,q⟩
 .refine yE1 (I.list O) λF=>yB3 λJ pl hz=>?_;have U:=J.length;refine call_tuple_list pl.isList (λh' kp=>?_) (by simp only[xU]<;>lia);have S:Inv X pins σ H {s with heap:=h'}:=I.kept (t':=s.toks) kp;have W:Inv X pins σ (upd H h'.objs.size (.tup ys)) {s with heap:=h'.push {cls:=.type "tuple",data:=.seq F.toArray}}:=
   S.laid (t':=s.toks) (λb o e=>yK _ e) (zu _) (show BD X.prog X.w _ _ _ (.tup ys) from #[hz,F,J,Gs.new _ _])
  exact yI2 (.ref h'.objs.size) _ #[W,rfl,q _ (S.hok.fresh (zu _))]
 .refine yE1 (I.tuple O) λF=>yB3 λJ pl hz=>?_;exact call_tuple_same pl (yI2 (.ref p) H #[I,rfl,q])
def uA(K:K_)(T:String)(x:V)(H:Hp):Prop:=match x with
 | .str _=>T = "str"
 | .int _=>T = "int"
 | .ref p=>(T = "list" /\ ∃xs,ud K H p xs)\/(T = "tuple" /\ ∃o,K.lookup p=Sm o/\o.cls = .type "tuple" /\ o.dict=Nn)\/
   (T = "dict" /\ ((∃kvs,H p=Sm (.dK kvs))\/∃kvs,H p=Sm (.dT kvs)))\/(T = "set" /\ ∃S n,H p=Sm (.set S n))
 | _=>False
theorem Ah{pins:List (so×Obj)}{σ:St}{H:Hp}{s:F_}{T:String}{x:V}{v:KE}(I:Inv X pins σ H s)(r:RelV x v)(ty:uA X.K T x H) :
  s.TypeIs v T/\∀a,v = .ref a->∃ob,s.heap.get? a=Sm ob/\ob.dict=Nn:=by
 cases x with
 | str z=>
  let#[t,rfl]:=r;cases (show T = "str" from ty);exact#[typeIs_str s z t,λ_ e=>nomatch e]
 | int i=>
  let#[t,rfl]:=r;cases (show T = "int" from ty);exact#[typeIs_int s i t,λ_ e=>nomatch e]
 | ref p=>
  cases r;rcases ty with ⟨rfl,xs,U⟩ | ⟨rfl,o,F,O,hd⟩ | ⟨rfl,F⟩ | ⟨rfl,S,n,F⟩
  .refine yE1 (I.list U) λW=>yB3 λ_ pl _=>?_;refine#[pl.isList.typeIs,λa e=>?_];cases e;revert pl;refine yF2 λo n=>yB4 λe c hd _=>?_;exact#[o,e,hd]
  .refine#[#[o,I.kIn p o F,O],λa e=>?_];cases e;exact#[o,I.kIn _ o F,hd]
  .have z:∃o,s.heap.get? p=Sm o/\o.ExactDict:=by
    rcases F with ⟨kvs,F⟩ | ⟨kvs,F⟩
    .refine yA3 (I.hok p _ F) λ_ _=>yF1 λ_=>yB2 λ_=>yF3 λo _ _=>yB3 λe ex _=>?_;exact#[o,e,ex]
    .refine yA3 (I.hok p _ F) λ_ _=>yF1 λ_=>yB2 λ_=>yF3 λo _ _=>yB3 λe ex _=>?_;exact#[o,e,ex]
   let#[o,e,ex]:=z;refine#[#[o,e,ex.1],λa J=>?_];cases J;exact#[o,e,ex.2.1]
  .refine yE4 (I.hok p _ F) λo _ _ _=>yB3 λe ex _=>?_;refine#[#[o,e,ex.1],λa J=>?_];cases J;exact#[o,e,ex.2.1]
 | _=>exact False.elim ty
def Dr(K:K_)(T:String)(r:V->LM->Hp->VK->Prop)(to:TE):TE:=λσ H Q=>to σ H λx H1=>uA K T x H1/\r x [] H1 Q
def F5(K:K_)(T:String)(r:V->LM->Hp->VK->Prop)(to:TE)(t:TA):TE:=λσ H Q=>to σ H λx H1=>uA K T x H1/\t σ H1 λxs H2=>r x xs H2 Q
variable{o e:Expr}{es:LX}{to:TE}{t:TA}{name:Str}{apos cpos:Pos}{T id:String}{r:V->LM->Hp->VK->Prop}
theorem HJ(U:PlainAttrs T)(slot:Slot T name id)(J:typeOf (.builtin id)=pure (.type "method_descriptor")) (Y:Hr X id r) (ho:PE X o to)
  (F:attributeBase o name X.env (eval o X.env)=eval o X.env:=by rfl) (hline:(apos.endLine==cpos.line)=true:=by rfl):PE X (.Call (.Attribute o name apos) [] [] cpos) (Dr X.K T r to):=by
 intro pins s σ H Q I h;refine wpAny_Call_method0_late F hline (bD (ho pins s σ H _ I h) λv Z ⟨x,H1,S,O,ty,W⟩=>?_);let#[h1,h2]:=Ah S O ty;exact yI2 T id #[U,slot,J,h1,h2,zbq rfl (PySem.evalArgs_none (Y pins Z σ H1 x [] v [] Q S O .nil W))]
theorem Km(W:PlainAttrs T)(slot:Slot T name id)(J:typeOf (.builtin id)=pure (.type "method_descriptor")) (Z:Hr X id r) (ho:PE X o to) (ha:PA X (e::es) t)
  (F:attributeBase o name X.env (eval o X.env)=eval o X.env:=by rfl)
  (hfew:((backTo cpos (Mh (e::es) X.env)).all (λx=>!x.1)&&(backToKw cpos (keywordEach [] X.env)).all (λx=>x.1.isSome)
   && decide ((e::es).length+([]:List Keyword).length+(if ([]:List Keyword).isEmpty then 0 else 1)<30))=true:=by rfl)
  (hline:(apos.endLine==cpos.line)=true:=by rfl) (hs:Mh (e::es) X.env=(false,eval e X.env)::Mh es X.env:=by rfl) (hplain:(backTo cpos (Mh es X.env)).any (·.1)=false:=by rfl) :
  PE X (.Call (.Attribute o name apos) (e::es) [] cpos) (F5 X.K T r to t):=by
 intro pins s σ H Q I h;refine wpAny_Call_method_late F hfew hline rfl (bD (ho pins s σ H _ I h) λv s1 ⟨x,H1,U,S,ty,Y⟩=>?_);let#[h1,h2]:=Ah U S ty;refine yI2 T id #[W,slot,J,h1,h2,?_];have O:=ha cpos pins s1 σ H1 _ U Y;rw[hs]at O |-
 refine zbq (by show (false||(backTo cpos (Mh es X.env)).any (·.1))=false;rw[hplain]<;>rfl) (Calls.evalArgs_plain ?_);exact bD O λus s2 ⟨vs,H2,I2,r2,q2⟩=>Z pins s2 σ H2 x vs v us Q I2 S r2 q2
end
def Ju(X:Cx)(id:String)(r:V->LM->Hp->VK->Prop):Prop:=
 ∀(pins:List (so×Obj)) (s:F_) (σ : St) (H:Hp) (x:V) (xs:LM) (v:KE) (us:LN) (Q:VK),Inv X pins σ H s->RelV x v->Br xs us->r x xs H Q->
  G_ (model X.prog X.w) X.A (call (.builtin id) (v::us)) (EP X pins σ Q) X.xe s
theorem Br.cons_at{x:V}{xs:LM}{F:LN}(h:Br (x::xs) F):∃u vs,F=u::vs/\RelV x u/\Br xs vs:=by
 cases h with
 | cons r q=>exact yI2 _ _ #[rfl,r,q]
theorem Br.one{x:V}{F:LN}(h:Br [x] F):∃u,F=[u]/\RelV x u:=by
 refine yE2 h.cons_at λu vs=>yB3 ?_;rintro rfl r q;cases q;exact#[u,rfl,r]
theorem Br.zero:∀ {F:LN},Br [] F->F=[]
 | _,.nil=>rfl
theorem Br.dropLast{xs:LM}{F:LN}(h:Br xs F):Br xs.dropLast F.dropLast:=by
 induction h with
 | nil=>exact .nil
 | cons r t ih=>
  cases t with
  | nil=>exact .nil
  | cons q t'=>exact .cons r ih
theorem y3{α:Type}(l:List α):l.eraseIdx (l.length-1)=l.dropLast:=by
 induction l with
 | nil=>rfl
 | cons a r ih=>
  cases r with
  | nil=>rfl
  | cons b r=>
   have e:(a::b::r).length-1=((b::r).length-1)+1:=by
    have h1:(a::b::r).length=r.length+2:=rfl;have h2:(b::r).length=r.length+1:=rfl;lia
   rw[e,List.eraseIdx_cons_succ,ih]
   all_goals rfl
section
variable{X:Cx}{pins:List (so×Obj)}{σ:St}{H:Hp}{s:F_}{l b:so}{xs ys zs:LM}
theorem Inv.lset{F its':LN}{n:Nat}{f:LY->LY}{t':Nat}(I:Inv X pins σ H s)(J:H l=Sm (.lst xs))
  (e:s.heap.get? l=Sm {cls:=.type "list",data:=.seq F.toArray n}) (hf:f F.toArray=its'.toArray) (hv:Br ys its') (hz:ys.length<=L_) :
  Inv X pins σ (upd H l (.lst ys)) {s with heap:=s.heap.update l (MW f),toks:=t'}:=by
 have q:=IsL.update e f;rw[hf]at q;refine I.write (x:=l) (e:=l) (by rw[J];exact trivial) (.inl rfl) (λU u O S=>(zaZ s.heap (MW f) (uW O)).trans S) #[_,q] ?_;exact#[hz,yI2 its' _ #[hv,q]]
theorem Inv.lnew{F:LN}{t':Nat}(I:Inv X pins σ H s)(hv:Br ys F)(hz:ys.length<=L_) :
  Inv X pins σ (upd H s.heap.objs.size (.lst ys)) {s with heap:=s.heap.push {cls:=.type "list",data:=.seq F.toArray},toks:=t'}:=
 I.laid (λ_ _ q=>yK _ q) (zu _) #[hz,yI2 F 0 #[hv,xb _ rfl]]
theorem Inv.fresh(I:Inv X pins σ H s):H s.heap.objs.size=Nn:=I.hok.fresh (zu _)
theorem Inv.lstM(I:Inv X pins σ H s)(J:H l=Sm (.lst xs)):xs.length<=L_/\∃(F:LN) (n:Nat),Br xs F/\xs.length=F.length/\s.heap.get? l=Sm {cls:=.type "list",data:=.seq F.toArray n}:=by
 refine yA2 (I.hok l _ J) λz=>yF2 λF n=>yB2 λr e=>?_;exact#[z,yI2 F n #[r,r.length,e]]
theorem Cy{n:Nat}(h:n<=L_):Ou n=false:=by
 unfold Ou;exact decide_eq_false ()
end
section
variable{X:Cx}
def n_:V->LM->Hp->VK->Prop:=λx vs H Q=>∃l xs y,x = .ref l/\vs=[y]/\H l=Sm (.lst xs)/\xs.length<L_/\Q .non (upd H l (.lst (xs++[y])))
theorem pB:Ju X "list.append" n_:=by
 intro pins s σ H x vs v Y Q I U W h;revert h;refine yF3 λl xs y=>yB5 ?_;rintro rfl rfl O hz q;cases U;let#[u,rfl,S]:=W.one;refine yA2 (I.lstM O) λz=>yF2 λJ n=>yB3 λr hl e=>?_;refine call_meets F.slot_list_append #[_,e,rfl] F.entry_list_append (F.args_list_append_2 _ _) (PySem.list_append l J.toArray n u (by rw[xU];lia)) #[e,?_];refine yI2 .non _ #[I.lset (its':=J++[u]) O e '~' (r.append (.cons S .nil)) ?_,rfl,q];rw[jn,Jj];lia
def lJ:V->LM->Hp->VK->Prop:=λx vs H Q=>∃l b xs zs,x = .ref l/\vs=[.ref b]/\H l=Sm (.lst xs)/\H b=Sm (.lst zs)/\xs.length+zs.length<=L_/\Q .non (upd H l (.lst (xs++zs)))
theorem zz:Ju X "list.extend" lJ:=by
 intro pins s σ H x vs v us Q I Y rv h;revert h;refine yF4 λl b xs zs=>yB6 ?_;rintro rfl rfl U W hz q;cases Y;let#[u,rfl,ru]:=rv.one;cases ru;refine yA2 (I.lstM U) λz=>yF2 λO n=>yB3 λr hl e=>?_;refine yA2 (I.lstM W) λz2=>yF2 λJ n2=>yB3 λZ ab e2=>?_;have hsz:O.toArray.size+J.toArray.size<=L_:=by rw[xU,xU];lia
 have S:¬ (!O.toArray.isEmpty&&Ou (O.toArray.size+J.toArray.size))=true:=by
  rw[Cy hsz,Bool.and_false];exact xO
 refine call_meets F.slot_list_extend #[_,e,rfl] F.entry_list_extend (F.args_list_extend_2 _ _)
  (AutoSeq1.list_extend_list_list_0 l O.toArray n b J.toArray n2 S (by rw[xU];lia) ()) #[e,e2,?_]
 refine yI2 .non _ #[I.lset (its':=O++J) U e '~' (r.append Z) ?_,rfl,q];rw[jn];lia
def Ck:V->LM->Hp->VK->Prop:=λx vs H Q=>∃l xs y,x = .ref l/\vs=[]/\H l=Sm (.lst xs)/\xs[xs.length-1]?=Sm y/\Q y (upd H l (.lst xs.dropLast))
theorem IW:Ju X "list.pop" Ck:=by
 intro pins s σ H x vs v us Q I rx rv h;revert h;refine yF3 λl xs y=>yB5 ?_;rintro rfl rfl U W q;cases rx;have S:=rv.zero;subst S;refine yA2 (I.lstM U) λz=>yF2 λJ n=>yB3 λr hl e=>?_;let#[u,Z,Y]:=r.get W;have O:J.toArray[J.toArray.size-1]?=Sm u:=by
  show J.toArray[J.length-1]?=Sm u;rw[<-Ip,<-hl];exact Z
 refine call_meets F.slot_list_pop #[_,e,rfl] F.entry_list_pop (F.args_list_pop_1 _) (MeetsSeq.list_pop_last l J.toArray n u O (by rw[xU];lia)) #[e,?_];refine yI2 y _ #[I.lset (its':=J.dropLast) U e ?_ r.dropLast ?_,Y,q]
 .show J.toArray.eraseIdxIfInBounds (J.toArray.size-1)=J.dropLast.toArray;rw[xU,List.eraseIdxIfInBounds_toArray,y3]
 .rw[List.length_dropLast];lia
def OE:R2:=λx y H Q=>∃l b xs zs,x = .ref l/\y = .ref b/\H l=Sm (.lst xs)/\H b=Sm (.lst zs)/\xs.length+zs.length<=L_/\∀p,H p=Nn->Q (.ref p) (upd H p (.lst (xs++zs)))
theorem IM:Ge X (binaryOp .Add) OE:=by
 intro pins s σ H x y v u Q I U Y h;revert h;refine yF4 λl b xs zs=>yB6 ?_;rintro rfl rfl O S hz q;cases U;cases Y;refine yA2 (I.lstM O) λz=>yF2 λJ n=>yB3 λr hl e=>?_;refine yA2 (I.lstM S) λz2=>yF2 λF n2=>yB3 λW Z e2=>?_;refine P.add_list e e2 ?_ (by rw[xU,xU];lia);have ea:J.toArray++F.toArray=(J++F).toArray:='~';rw[ea];exact yI2 (.ref _) _ #[I.lnew (t':=s.toks) (r.append W) (by rw[jn];lia),rfl,q _ I.fresh]
end
section
variable{κ:Type}[DecidableEq κ]
noncomputable def bU(kvs:List (κ×V))(k:κ):LR:=(kvs.find? λkv=>decide (kv.1=k)).map (·.2)
noncomputable def dk(kvs:List (κ×V))(k:κ)(v:V):List (κ×V):=
 if (kvs.any λkv=>decide (kv.1=k))=true then kvs.map (λkv=>if kv.1=k then (kv.1,v) else kv) else kvs++[(k,v)]
theorem dA{p:κ×V}{r:List (κ×V)}{k:κ}(e:p.1=k):bU (p::r) k=Sm p.2:=by simp[bU,zaM,e]
theorem dB{p:κ×V}{r:List (κ×V)}{k:κ}(e:¬ p.1=k):bU (p::r) k=bU r k:=by simp[bU,zaM,e]
theorem i9(k:κ):∀kvs:List (κ×V),(kvs.any λkv=>decide (kv.1=k))=(bU kvs k).isSome
 | []=>rfl
 | p::r=>by
  rw[za0];by_cases e:p.1=k
  .simp only[dA e,decide_eq_true e,Bool.true_or,Option.isSome_some]
  .rw[dB e,decide_eq_false e,Bool.false_or];exact i9 k r
theorem tD(k j:κ)(y:V):∀kvs:List (κ×V),bU (kvs.map λkv=>if kv.1=k then (kv.1,y) else kv) j=(bU kvs j).map λx=>if j=k then y else x
 | []=>rfl
 | p::r=>by
  have ih:=tD k j y r;rw[yX];by_cases h:p.1=k
  .rw[KZ h];by_cases e:p.1=j
   .rw[dA (p:=(p.1,y)) e,dA e,Option.map_some,KZ (e.symm.trans h)]
   .rw[dB (p:=(p.1,y)) e,dB e,ih]
  .rw[KQ h];by_cases e:p.1=j
   .rw[dA (p:=p) e,dA e,Option.map_some,KQ (λz=>h (e.trans z))]
   .rw[dB (p:=p) e,dB e,ih]
theorem pY(k j:κ)(y:V):∀kvs:List (κ×V),bU kvs k=Nn->bU (kvs++[(k,y)]) j=if j=k then Sm y else bU kvs j
 | [],_=>by
  by_cases e:k=j
  .rw[KZ e.symm];exact dA (p:=(k,y)) e
  .rw[KQ (λz=>e z.symm)];exact dB (p:=(k,y)) e
 | p::r,hn=>by
  rw[ir];have F:¬ p.1=k:=λz=>by rw[dA z]at hn;cases hn
  rw[dB F]at hn;have ih:=pY k j y r hn;by_cases e:p.1=j
  .rw[dA e,dA e,KQ (λz=>F (e.trans z))]
  .rw[dB e,dB e,ih]
theorem mn(kvs:List (κ×V))(k j:κ)(y:V):bU (dk kvs k y) j=if j=k then Sm y else bU kvs j:=by
 unfold dk;by_cases a:(kvs.any λkv=>decide (kv.1=k))=true
 .rw[KZ a,tD];rw[i9]at a;by_cases e:j=k
  .let#[x,hx]:=Option.isSome_iff_exists.mp a;rw[KZ e,e,hx,Option.map_some,KZ rfl]
  .rw[KQ e];cases bU kvs j with
   | none=>rfl
   | some x=>rw[Option.map_some,KQ e]
 .rw[KQ a];refine pY k j y kvs ?_;rw[i9]at a;cases q:bU kvs k with
  | none=>rfl
  | some x=>rw[q]at a;exact(a rfl).elim
theorem lN(kvs:List (κ×V))(k:κ)(v:V):(dk kvs k v).length<=kvs.length+1:=by
 unfold dk;split
 .rw[ze];lia
 .rw[jn,ye,yU];lia
theorem tZ{kvs:List (κ×V)}{k:κ}(v:V)(h:bU kvs k=Nn):dk kvs k v=kvs++[(k,v)]:=by
 unfold dk;rw[i9,h];exact KQ ∅
theorem GQ.isSome_eq{o:LR}{u:LO}(r:GQ o u):o.isSome=u.isSome:=by
 cases o with
 | none=>cases u with
  | none=>rfl
  | some _=>exact(show False from r).elim
 | some _=>cases u with
  | none=>exact(show False from r).elim
  | some _=>rfl
theorem GQ.getD{o:LR}{u:LO}{d:V}{d':KE}(r:GQ o u)(F:RelV d d'):RelV (o.getD d) (u.getD d'):=by
 cases o with
 | none=>cases u with
  | none=>exact F
  | some _=>exact(show False from r).elim
 | some _=>cases u with
  | none=>exact(show False from r).elim
  | some _=>exact r
theorem KV.val{kvs:List (κ×V)}{vs:List (κ×KE)}(r:KV kvs vs)(k:κ):GQ (bU kvs k) (valueAt vs k):=by
 unfold KV at r
 induction r with
 | nil=>exact True.intro
 | @cons p q ps qs h t ih=>
  let#[h1,h2]:=h;by_cases e:p.1=k
  .have F:q.1=k:=h1.symm.trans e;have b:valueAt (q::qs) k=Sm q.2:=by simp[valueAt,zaM,F]
   rw[dA e,b];exact h2
  .have F:¬ q.1=k:=λz=>e (h1.trans z);have b:valueAt (q::qs) k=valueAt qs k:=by simp[valueAt,zaM,F]
   rw[dB e,b];exact ih
theorem KV.any{kvs:List (κ×V)}{vs:List (κ×KE)}(r:KV kvs vs)(k:κ):(kvs.any λkv=>decide (kv.1=k))=vs.any λkv=>decide (kv.1=k):=by
 unfold KV at r
 induction r with
 | nil=>rfl
 | cons h t ih=>rw[za0,za0,ih,h.1]
theorem KV.repl{kvs:List (κ×V)}{vs:List (κ×KE)}(r:KV kvs vs)(k:κ){y:V}{u:KE}(F:RelV y u) :
  KV (kvs.map λkv=>if kv.1=k then (kv.1,y) else kv) (vs.map λkv=>if kv.1=k then (kv.1,u) else kv):=by
 unfold KV at r |-
 induction r with
 | nil=>exact .nil
 | @cons p q ps qs h t ih=>
  rw[yX,yX];refine .cons ?_ ih;let#[h1,h2]:=h;by_cases e:p.1=k
  .rw[KZ e,KZ (h1.symm.trans e)];exact#[h1,F]
  .rw[KQ e,KQ (λz=>e (h1.trans z))];exact#[h1,h2]
theorem KV.put{kvs:List (κ×V)}{vs:List (κ×KE)}(r:KV kvs vs)(k:κ){y:V}{u:KE}(F:RelV y u):KV (dk kvs k y) (stored vs k u):=by
 unfold dk stored;rw[r.any k];by_cases e:(vs.any λkv=>decide (kv.1=k))=true
 .rw[KZ e,KZ e];exact r.repl k F
 .rw[KQ e,KQ e];exact LG.snoc r #[rfl,F]
theorem KV.length{kvs:List (κ×V)}{vs:List (κ×KE)}(r:KV kvs vs):kvs.length=vs.length:=zaJ r
end
theorem qN{P:Lw}{w:Lu}{k:aT}{u:KE}(r:RelV (kV k) u):(df P w).is k u=true:=by
 cases k with
 | inl i=>let#[t,e]:=(show ∃t,u=NA i t from r);subst e;exact vb P w i t
 | inr x=>let#[t,e]:=(show ∃t,u=M1 x t from r);subst e;exact vf P w x t
theorem pX{P:Lw}{w:Lu}:∀ {ks:List aT} {F:LN},Br (ks.map kV) F->ItemsAre (df P w) ks F
 | [],_,r=>by rw[IT]at r;cases r;exact .nil
 | k::ks,_,r=>by
  rw[yX]at r;cases r with
  | cons h t=>exact .cons (qN h) (pX t)
abbrev KT (H:Hp):List (List aT×V)->List (List aT×so×KE)->Prop:=LG λp q=>p.1=q.1/\H q.2.1=Sm (.tup (p.1.map kV))/\RelV p.2 q.2.2
theorem KT.val{H:Hp}{kvs:List (List aT×V)}{xs:List (List aT×so×KE)}(r:KT H kvs xs)(k:List aT):GQ (bU kvs k) ((atKey xs k).map (·.2)):=by
 induction r with
 | nil=>exact True.intro
 | @cons p q ps qs h t ih=>
  let#[h1,_,h2]:=h;by_cases e:p.1=k
  .have F:q.1=k:=h1.symm.trans e;have b:atKey (q::qs) k=Sm q.2:=by simp[atKey,zaM,F]
   rw[dA e,b];exact h2
  .have F:¬ q.1=k:=λz=>e (h1.trans z);have b:atKey (q::qs) k=atKey qs k:=by simp[atKey,zaM,F]
   rw[dB e,b];exact ih
theorem KT.repl{H:Hp}{kvs:List (List aT×V)}{xs:List (List aT×so×KE)}(r:KT H kvs xs)(k:List aT){y:V}{u:KE}(J:RelV y u) :
  KT H (kvs.map λkv=>if kv.1=k then (kv.1,y) else kv) (xs.map (putAt k u)):=by
 induction r with
 | nil=>exact .nil
 | @cons p q ps qs h t ih=>
  rw[yX,yX];refine .cons ?_ ih;let#[h1,h2,F]:=h;unfold putAt;by_cases e:p.1=k
  .rw[KZ e,KZ (h1.symm.trans e)];exact#[h1,h2,J]
  .rw[KQ e,KQ (λz=>e (h1.trans z))];exact#[h1,h2,F]
theorem KT.put{kvs:List (List aT×V)}{xs:List (List aT×so×KE)}(r:KT H kvs xs)(k:List aT){b:so}{y:V}{u:KE}(J:H b=Sm (.tup (k.map kV)))(F:RelV y u) :
  KT H (dk kvs k y) (storedH xs k b u):=by
 have e:(kvs.any λkv=>decide (kv.1=k))=(atKey xs k).isSome:=by
  rw[i9,(r.val k).isSome_eq,Option.isSome_map]
 unfold dk storedH;rw[e];by_cases q:(atKey xs k).isSome=true
 .rw[KZ q,KZ q];exact r.repl k F
 .rw[KQ q,KQ q];exact LG.snoc r #[rfl,J,F]
theorem KT.keeps{H':Hp}{kvs:List (List aT×V)}{xs:List (List aT×so×KE)}(r:KT H kvs xs)(F:∀b ys,H b=Sm (.tup ys)->H' b=Sm (.tup ys)):KT H' kvs xs:=
 LG.mapP r λ_ _ z=>#[z.1,F _ _ z.2.1,z.2.2]
section
variable{P:Lw}{w:Lu}{H:Hp}{h:Lv}{a:so}
theorem Ew{u:HO}(ok:GN P w H h)(e:Rd H a u):BD P w H h a u:=e.ok ok
theorem qR{kvs:List (aT×V)}(ok:GN P w H h)(e:Rd H a (.dK kvs)):kvs.length<=L_/\(a==sysModules)=false/\∃vs,KV kvs vs/\h.DictOf (df P w) a vs:=
 show BD P w H h a (.dK kvs) from Ew ok e
theorem Kf{kvs:List (aT×V)}(ok:GN P w H h)(e:H a=Sm (.dK kvs)):kvs.length<=L_/\(a==sysModules)=false/\∃vs,KV kvs vs/\h.DictOf (df P w) a vs:=qR ok (.inl e)
theorem rm{ks:List aT}(ok:GN P w H h)(e:H a=Sm (.tup (ks.map kV))):(tupleKind (df P w)).is h ks a:=by
 refine yA2 (show BD P w H h a (.tup (ks.map kV)) from ok a _ e) λ_=>yF1 λF=>yB2 λr=>yF1 λo=>yB4 λh1 h2 _=>yF1 λn J=>?_;exact yI3 o F.toArray n #[h1,h2,J,by simpa using pX r]
theorem Eu{kvs:List (List aT×V)}(ok:GN P w H h)(e:Rd H a (.dT kvs)):kvs.length<=L_/\(a==sysModules)=false/\
  ∃xs,KT H kvs xs/\h.DictOfH (tupleKind (df P w)) a xs:=by
 refine yA3 (show BD P w H h a (.dT kvs) from Ew ok e) λz y=>yF1 λxs=>yB2 λr=>yF3 λo es ep=>yB5 λh1 h2 F J O=>?_;refine#[z,y,xs,r,yI3 o es ep #[h1,h2,F,J,λx hx=>?_,O]];have all:∀ {l:List (List aT×V)} {m:List (List aT×so×KE)},KT H l m->∀x∈m,(tupleKind (df P w)).is h x.1 x.2.1:=by
  intro l m q
  induction q with
  | nil=>intro x hx;exact nomatch hx
  | @cons p q ps qs hq t ih=>
   intro x hx;rcases K7.mp hx with e | hx
   .subst e;exact rm ok (by rw[<-hq.1];exact hq.2.1)
   .exact ih x hx
 exact all r x hx
theorem Ku{kvs:List (List aT×V)}(ok:GN P w H h)(e:H a=Sm (.dT kvs)):kvs.length<=L_/\(a==sysModules)=false/\
  ∃xs,KT H kvs xs/\h.DictOfH (tupleKind (df P w)) a xs:=Eu ok (.inl e)
end
def Jg(H:Hp)(a:so)(y:V)(r:LR):Prop:=
 (∃kvs k,Rd H a (.dK kvs)/\y=kV k/\r=bU kvs k)\/∃kvs k b,Rd H a (.dT kvs)/\y = .ref b/\H b=Sm (.tup (k.map kV))/\r=bU kvs k
def Hv(H:Hp)(a:so)(y v:V)(H':Hp):Prop:=
 (∃kvs k,H a=Sm (.dK kvs)/\y=kV k/\kvs.length<L_/\H'=upd H a (.dK (dk kvs k v)))\/
 ∃kvs k b,H a=Sm (.dT kvs)/\y = .ref b/\H b=Sm (.tup (k.map kV))/\kvs.length<L_/\H'=upd H a (.dT (dk kvs k v))
theorem Jg.t{a b:so}{kvs:List (List aT×V)}{k:List aT}(e:H a=Sm (.dT kvs))(F:H b=Sm (.tup (k.map kV))):Jg H a (.ref b) (bU kvs k):=.inr (yI3 kvs k b #[.inl e,rfl,F,rfl])
theorem Hv.k{a:so}{kvs:List (aT×V)}{k:aT}{v:V}(e:H a=Sm (.dK kvs))(hl:kvs.length<L_):Hv H a (kV k) v (upd H a (.dK (dk kvs k v))):=.inl (yI2 kvs k #[e,rfl,hl,rfl])
theorem Hv.t{a b:so}{kvs:List (List aT×V)}{k:List aT}{v:V}(e:H a=Sm (.dT kvs))(F:H b=Sm (.tup (k.map kV)))(hl:kvs.length<L_) :
  Hv H a (.ref b) v (upd H a (.dT (dk kvs k v))):=.inr (yI3 kvs k b #[e,rfl,F,hl,rfl])
section
variable{X:Cx}{pins:List (so×Obj)}{σ:St}{H:Hp}{s:F_}{a:so}{y v:V}{u r:KE}{o:LR}{A:Mc}{E:LH}
theorem Inv.big(I:Inv X pins σ H s):sysModules<s.heap.objs.size:=by
 have h:Mn<s.heap.objs.size:=(I.mod.glob.keeps I.bk).lt;exact Nat.lt_trans ∅ h
theorem Fc{Q:LH}(U:A.units+1<cLine)(I:Inv X pins σ H s)(g:Jg H a y o)(O:RelV y u)(h:∀s',Inv X pins σ H s'->Q (.bool (!o.isSome)) s') :
  G_ (model X.prog X.w) A (Mq .NotIn u (.ref a)) Q E s:=by
 rcases g with ⟨kvs,k,e,J,l⟩ | ⟨kvs,k,b,e,J,S,l⟩
 .subst J;refine yA3 (qR I.hok e) λz hd=>yF1 λvs=>yB2 λF dd=>?_;refine wpAny_notIn_of (qN O) hd dd.mapOf ?_;rw[<- (F.val k).isSome_eq,<-l];exact h _ (I.tok _)
 .subst J;cases (show u=Ma b from O);refine yA3 (Eu I.hok e) λz hd=>yF1 λxs=>yB2 λF dd=>?_;refine wpAny_notIn_heap (tupleKind_room_in1 U) (rm I.hok S) hd dd ?_;have q:=(F.val k).isSome_eq;rw[Option.isSome_map]at q;rw[<-q,<-l];exact h _ (I.tok _)
theorem vN{h':Lv}{t':Nat}{F:HO}(I:Inv X pins σ H s)(J:zE (H a))(S:MH a s.heap h')(U:∃q,h'.get? a=Sm q)(new:BD X.prog X.w (upd H a F) h' a F) :
  Inv X pins σ (upd H a F) {s with heap:=h',toks:=t'}:=
 I.write (x:=a) (e:=a) J (.inl rfl) (λb q O z=>(S.2 b O).trans z) U new
theorem Gn{P:Lw}{w:Lu}{H':Hp}{h':Lv}{kvs:List (aT×V)}{vs:List (aT×KE)}(z:kvs.length<=L_)(hd:(a==sysModules)=false)(F:KV kvs vs)(dd:h'.DictOf (df P w) a vs) :
  BD P w H' h' a (.dK kvs):=#[z,hd,vs,F,dd]
theorem p7{H':Hp}{Q:Unit->F_->Prop}(hu:A.units+1<cLine)(I:Inv X pins σ H s)(g:Hv H a y v H')(ry:RelV y u)(rv:RelV v r)(h:∀s',Inv X pins σ H' s'->Q Unit.unit s') :
  G_ (model X.prog X.w) A (setItem (.ref a) u r) Q E s:=by
 rcases g with ⟨kvs,k,e,U,l,W⟩ | ⟨kvs,k,b,e,U,Y,l,W⟩
 .subst U W;refine yA3 (Kf I.hok e) λz hd=>yF1 λvs=>yB2 λF dd=>?_;have hz:vs.length<=L_:=by rw[<-F.length];exact z
  have hl:(dk kvs k v).length<=L_:=by have:=lN kvs k v;lia
  refine wpAny_setItem_pairs (hsz:=hz) (qN ry) dd λh' J S=>h _ ?_;have he:∃q,h'.get? a=Sm q:=let ⟨q,_,_,O,_⟩:=J;#[q,O];exact vN I (by rw[e];exact True.intro) S he (Gn hl hd (F.put k rv) J)
 .subst U W;cases (show u=Ma b from ry);refine yA3 (Ku I.hok e) λz hd=>yF1 λxs=>yB2 λF dd=>?_;have hz:xs.length<=L_:=by rw[<-zaJ F];exact z
  have hl:(dk kvs k v).length<=L_:=by have:=lN kvs k v;lia
  refine wpAny_setItem_heap (hsz:=hz) (tupleKind_room_in1 hu) (rm I.hok Y) dd λh' J S=>h _ ?_;revert J;refine yF3 λq es ep=>yB6 λO h2 h3 h4 _ h5=>?_;refine vN I (by rw[e];exact True.intro) S #[q,O] #[hl,hd,_,(F.put k Y rv).keeps λc ys Z=>?_,yI3 q es ep #[O,h2,h3,h4,h5]];rw[aw (dh Z e (λz=>nomatch z))];exact Z
end
theorem BG{P:Lw}{w:Lu}(h:Lv)(F:sysModules<h.objs.size):BD P w H (h.push {cls:=.type "dict",data:=.dict #[]}) h.objs.size (.dK []):=
 #[gV _,beq_eq_false_iff_ne.mpr (uW (xg F)),[],.nil,Lv.DictOf.new h]
theorem Cd{P:Lw}{w:Lu}(h:Lv)(F:sysModules<h.objs.size):BD P w H (h.push {cls:=.type "dict",data:=.dict #[]}) h.objs.size (.dT []):=
 #[gV _,beq_eq_false_iff_ne.mpr (uW (xg F)),[],.nil,yI3 _ #[] 0 #[xb _ rfl,#[rfl,rfl,rfl],rfl,rfl,Ih]]
def Hf:TE:=λ_ H Q=>∀p,H p=Nn->Q (.ref p) (upd H p (.dK []))
def Jq:TE:=λ_ H Q=>∀p,H p=Nn->Q (.ref p) (upd H p (.dT []))
section
variable{X:Cx}{pos:Pos}
theorem rZ:PE X (.Dict [] [] pos) Hf:=λpins s σ H Q I h=>
 wpAny_Dict_empty (yI2 (.ref s.heap.objs.size) _ #[I.laid (a:=s.heap.objs.size) (o:=.dK []) (t':=s.toks) (λ_ _ q=>yK _ q) (zu _) (BG s.heap I.big),rfl,h _ (I.hok.fresh (zu _))])
theorem uh:PE X (.Dict [] [] pos) Jq:=λpins s σ H Q I h=>
 wpAny_Dict_empty (yI2 (.ref s.heap.objs.size) _ #[I.laid (a:=s.heap.objs.size) (o:=.dT []) (t':=s.toks) (λ_ _ q=>yK _ q) (zu _) (Cd s.heap I.big),rfl,h _ (I.hok.fresh (zu _))])
end
def kE:List (TE×TE)->St->Hp->(List (V×V)->Hp->Prop)->Prop
 | [],_,H,Q=>Q [] H
 | (tk,tv)::r,σ,H,Q=>tk σ H λx H1=>tv σ H1 λy H2=>kE r σ H2 λps H3=>Q ((x,y)::ps) H3
abbrev VV:List (V×V)->List (KE×KE)->Prop:=LG λp q=>RelV p.1 q.1/\RelV p.2 q.2
def PPs(X:Cx)(pos:Pos)(keys:List (Option Expr))(values:LX)(trs:List (TE×TE)):Prop:=
 ∀(pins:List (so×Obj)) (s:F_) (σ : St) (H:Hp) (Q:List (V×V)->Hp->Prop),Inv X pins σ H s->kE trs σ H Q->
  G_ (model X.prog X.w) X.A (evalPairs (pairTrees keys values X.env pos)) (λvs s'=>∃ps H',Inv X pins σ H' s'/\VV ps vs/\Q ps H') X.xe s
end L2
namespace Att
open PySem PySem.W PySem.Calls PyProof.Rows
theorem nC{P:Params}{h:Lv}:∀(ns:LS) (vs:LN),WellAll P h vs (ns.map WData.int)->M7 vs ns:=by
 intro ns
 induction ns with
 | nil=>
  intro vs w;rw[List.map_nil]at w;cases w;exact .nil
 | cons n ns ih=>
  intro vs w;rw[List.map_cons]at w;cases w with
  | cons a b=>
   cases a;exact .cons _ _ (ih _ b)
theorem Ak{l:OpenLaw}{n:Nat}(hn:l.most=Sm n){P:Params}{h:Lv}{args:List WData}{F:LN}
  (J:l.row.toRowW.claim.pre args=true) (W:WellAll P h F args) :
  ∃a vs ns,F=[Ma a]/\args=[WData.list (ns.map WData.int)]/\h.get? a=Sm {cls:=.type "list",data:=.seq vs.toArray}/\M7 vs ns/\ns.length<=n:=by
 have Y:WShape.hasAll [] args [.list .int]=true:=(pre_splitW J).1;have Z:l.pre.holds [] {args:=args}=true:=(pre_splitW J).2;refine yE2 (hasAllW_cons Y) λd r=>yB3 ?_;rintro rfl h1 h2;obtain rfl:=hasAllW_nil h2;let#[xs,rfl,h3]:=hasW_list h1;let#[ns,rfl]:=items_int h3;have O:ns.length<=n:=by
  unfold OpenLaw.pre at Z;have U:(WTm.not (.lt (.lit (.int (n:Int))) (.len (.arg 0)))).holds [] {args:=[.list (ns.map .int)]}=true:=by
   have U:=(holds_andW Z).1;rw[hn]at U;exact U
  have S:=condW_of U (w_not (w_lt w_lit (w_len_list (w_arg rfl))));rw[List.length_map]at S;refine Nat.le_of_not_lt λq=>?_;have q':(n:Int)<((ns.length:Nat):Int):=()
  first
   | (rw[decide_eq_true q']at S;exact absurd S ∅)
   | (simp at S;lia)
 cases W with
 | cons w1 w2=>
  cases w2;cases w1 with
  | list ho hall=>exact yI3 _ _ ns #[rfl,rfl,ho,nC ns _ hall,O]
theorem zx(l:OpenLaw)(args:List WData):l.row.toRowW.claim.post args (.bool true) args=true:=
 postW_of (r:=l.row.toRowW) (X:=(true==true))
  (show WShape.has [] (.bool true) .bool=true by first | rfl | decide | simp[WShape.has,WShape.arms,WShape.armsAll])
  (show (WTm.eq .res (.lit (.bool true))).value [] {args:=args,res:=Sm (.bool true),after:=args}=Sm (.bool (true==true)) from w_eq_bool (w_res rfl) w_lit) rfl
theorem attach_call{l:OpenLaw}{n:Nat}{q:Lw}{loose:LI}{XP:(Str->LO)->Lv->Prop}{YP:Lu->Lv->Prop}{d:DefRec}
  (hn:l.most=Sm n) (ag:d.params.defaults=[])
  (call:∀(w:Lu) (s₀ F:F_) (mg mb:Str->LO) (fa:so) (o:Obj) (pm Z O:KE) (a:so) (vs:LN) (ns:LS),
   Ground q loose [] XP w s₀ mg mb F.heap->YP w F.heap->
   F.heap.get? fa=Sm o->o.data = .func (docDef d.name d.params d.body d.scope pm Z O)->F.heap.CodeRec Z d.name->mg d.name=Sm (.ref fa)->
   F.heap.get? a=Sm {cls:=.type "list",data:=.seq vs.toArray}->M7 vs ns->ns.length<=n->F.gens = #[]->
   codeAny (model l.prog w) callerA (.call (.ref fa) ⟨[.ref a],[]⟩) (λr s'=>r = .ok (.ret (.bool true))/\OldK F.heap s'.heap/\s'.os=F.os/\Nj s'.gens) F) :
  WalkO q loose XP YP l.row.toRowW d [] (λf vs=>PySem.call f vs):=by
 intro w s₀ F mg mb G Y fa o pm Z O dV kV ho hd ad hD ac hg args a3 as W al a4 ab a5;obtain rfl:dV = .none:=Dflts.none hD ag;obtain rfl:kV = .none:=Dflts.noKw hD;refine yE3 (Ak hn W ab) λa vs ns=>yB5 ?_;rintro rfl rfl S J U;refine enter_call (NL (call w s₀ F mg mb fa o pm Z O a vs ns G Y ho (fd_plain hd) ad ac S J U hg) λr s' hq=>?_);revert hq;refine yB4 ?_;rintro rfl h2 h3 h4;exact#[.inl (yI3 (.bool true) (.bool true) ([]) #[rfl,λ_=>rfl,.bool true,zx l _,λ_=>#[List.Pairwise.nil,λ_ hm=>(nomatch hm)]]),h2,h3,h4]
end Att
namespace L2
open PySem PySem.Spec PyProof.Rows
theorem kQ:∀ {vs:LN} {ns:LS},M7 vs ns->Br (ns.map V.int) vs
 | _,_,.nil=>.nil
 | _,_,.cons n t h=>.cons #[t,rfl] (kQ h)
def CG(H:Hp):Prop:=∀b,H b=Nn\/∃o xs,H b=Sm (.frz o (.lst xs))
theorem C3{P:Lw}{w:Lu}{K:K_}{mg mb:Str->LO}{CX:jL}{k:Nat}{fa a:so}{fd:MV}{x:Str}{sp:Sp}{J:F_}{vs:LN}{ns:LS}
  (KX:K.In J.heap) (Z:J.heap.Ns Mn mg) (S:J.heap.Ns builtinsNs mb) (as:∀x:Str,x ≠ "__name__" -> mb x=Mz x) (ag:J.heap.NoLimit) (hg:J.gens = #[])
  (ha:J.heap.get? a=Sm {cls:=.type "list",data:=.seq vs.toArray}) (hi:M7 vs ns) (hl:ns.length<=L_) (hr:Cm k callerA)
  (F:∀base:Lv,K.In base->base.Ns Mn mg->GG P w K mg base CX k fa fd [x] sp) (hbind:∀(s:F_) (u:KE),BindsTo s fd #[[u],[]] [(x,u)])
  (hsp:∀H:Hp,CG H->ud K H a (ns.map V.int)->sp [.ref a] H (λv _=>v = .bl true) λ_ _ _=>False)
  (hCX:∀H e s',CX [] H J (λ_ _ _=>False) e s'->False) :
  codeAny (model P w) callerA (.call (.ref fa) #[[.ref a],[]]) (λr s'=>r = .ok (.ret (.bool true))/\OldK J.heap s'.heap/\s'.os=J.os/\Nj s'.gens) J:=by
 have rv:=kQ hi;have ab:=hi.length;have Y:∀H:Hp,CG H->ud K H a (ns.map V.int)->GN P w H J.heap->(∀b,H b≠Nn->b=a)->(H a≠Nn->K.lookup a=Nn)->
   codeAny (model P w) callerA (.call (.ref fa) #[[.ref a],[]]) (λr s'=>r = .ok (.ret (.bool true))/\OldK J.heap s'.heap/\s'.os=J.os/\Nj s'.gens) J:=by
  intro H hO hS hok hA hK;have O:∀ {b:so} {o:Obj},J.heap.get? b=Sm o->H b=Nn->(jR J.heap H).get? b=Sm o:=λe n=>Bq e n;have al:∀ {b:so} {o:Obj} {es:Array Nf} {ep:Nat},J.heap.get? b=Sm o->o.data = .dict es ep->H b=Nn:=λ{b o es ep} e d=>by
   cases q:H b with
   | none=>rfl
   | some u=>
    have e':b=a:=hA b (by rw[q];simp);subst e';rw[ha]at e;cases e;have d':Data.seq vs.toArray _=Data.dict es ep:=d;cases d'
  have U:∀ {b:so} {m:Str->LO},J.heap.Ns b m->(jR J.heap H).Ns b m:=λ{b m} ⟨o,es,ep,e,d,r⟩=>yI3 o es ep #[O e (al e d),d,r];have ac:K.In (jR J.heap H):=λb o e=>O (KX b o e) (by
   cases q:H b with
   | none=>rfl
   | some u=>
    have e':b=a:=hA b (by rw[q];simp);subst e';rw[hK (by rw[q];simp)]at e;cases e)
  have hM:Mod K mg (jR J.heap H):=#[ac,U Z,#[mb,U S,as],let ⟨mc,h1,h2⟩:=ag;#[mc,U h1,h2]];have e0:Hu P w K mg (jR J.heap H) callerA [] J H:=#[rfl,hM,λb o e=>EL e,Nat.le_of_eq (AV _ _),trivial,λb S=>absurd (show b∈([]:LL) from S) '~',hok,.of_eq hg];refine NL ((F _ ac (U Z)).run callerA [] J H #[[.ref a],[]] [.ref a] [.ref a] _ _ hr e0 (hbind J (.ref a)) (.cons rfl .nil) (hsp H hO hS)) λr s' h=>?_;cases r with
  | error e=>exact(hCX H e s' h).elim
  | ok fl=>
   cases fl with
   | next=>exact False.elim h
   | brk=>exact False.elim h
   | cont=>exact False.elim h
   | ret u=>
    revert h;refine yF2 λv H'=>yB6 λos bare un ad r' q=>?_;have q':v = .bl true:=q;subst q';obtain rfl:u=KE.bool true:=r';refine#[rfl,OldK.of_keep λb o e=>?_,os,bare];cases q:H b with
    | none=>exact un.keep b o e q (by intro z;exact absurd (show b∈([]:LL) from z) '~') '~'
    | some u=>
     rcases hO b with z | ⟨ob,xs,z⟩
     .rw[q]at z;cases z
     .have z2:=un.frzs b ob _ z;let#[e1,_]:=hok b _ z;let#[e2,_]:=ad b _ z2;rw[e]at e1;cases e1;exact e2
 cases hk:K.lookup a with
 | some o=>
  have e:=KX a o hk;rw[ha]at e;cases e;refine Y (λ_=>Nn) (λ_=>.inl rfl) (.inr (yI3 _ vs.toArray _ #[hk,rfl,rfl,rfl,by rw[xU,ab];exact hl,by simpa using rv])) (λb u z=>by have z':(Nn:Option HO)=Sm u:=z;cases z') (λb z=>absurd rfl z) λz=>absurd rfl z
 | none=>
  refine Y (λb=>if b=a then Sm (.frz {cls:=.type "list",data:=.seq vs.toArray} (.lst (ns.map V.int))) else Nn) (λb=>?_) (.inl (.inr #[{cls:=.type "list",data:=.seq vs.toArray},KZ rfl])) (λb u z=>?_) (λb z=>?_) λ_=>hk
  .by_cases S:b=a
   .exact .inr (yI2 _ _ (KZ S))
   .exact .inl (KQ S)
  .by_cases S:b=a
   .have z':=(KZ S).symm.trans z;cases z';subst S;exact#[ha,by rw[ze];exact hl,yI2 vs _ #[rv,ha]]
   .have z':=(KQ S).symm.trans z;cases z'
  .by_cases S:b=a
   .exact S
   .exact absurd (KQ S) z
noncomputable abbrev KOf {K:K_} {h:Lv} (_:K.In h):K_:=K
theorem Hx{l:W.OpenLaw}{n k:Nat}{q:Lw}{loose:LI}{XP:(Str->LO)->Lv->Prop}{YP:Lu->Lv->Prop}{d:DefRec}{K:Params->K_}{CX:Lu->jL}{sp:Lu->Sp}{x:Str}
  (hn:l.most=Sm n) (U:n<=L_) (ab:d.params.defaults=[]) (hr:Cm k callerA)
  (hY:∀(w:Lu) (h:Lv),YP w h->(K w.params).In h)
  (F:∀(w:Lu) (mg:Str->LO) (fa:so) (h:Lv),(K w.params).In h->h.Ns Mn mg->mg d.name=Sm (.ref fa)->
   ∃fd:MV,(∀(s:F_) (u:KE),BindsTo s fd #[[u],[]] [(x,u)])/\
    ∀base:Lv,(K w.params).In base->base.Ns Mn mg->GG l.prog w (K w.params) mg base (CX w) k fa fd [x] (sp w))
  (ad:∀(w:Lu) (H:Hp) (a:so) (ns:LS),ns.length<=n->CG H->ud (K w.params) H a (ns.map V.int)->sp w [.ref a] H (λv _=>v = .bl true) λ_ _ _=>False)
  (ac:∀(w:Lu) (H:Hp) (s:F_) (e:KE) (s':F_),CX w [] H s (λ_ _ _=>False) e s'->False) :
  W.WalkO q loose XP YP l.row.toRowW d [] (λf vs=>PySem.call f vs):=by
 refine Att.attach_call hn ab λw s₀ s₁ mg mb fa o pm cd al a vs ns G Y ho hd ag Z S O J hg=>?_;have KX:=hY w _ Y;let#[fd,hb,hF]:=F w mg fa _ KX G.T.g Z;exact C3 KX G.T.g G.T.b G.T.builtins G.T.nolimit hg S O (xH J U) hr hF hb (λH hO hS=>ad w H a ns J hO hS) λH e s'=>ac w H s₁ e s'
end L2
namespace L2
open PySem PySem.Spec PyProof.Rows
variable{X:Cx}{x:Str}{st:L6}{ps:LI}{pos:Pos}{H:Hp}{i n:Nat}{g:TG}{D:so}{σ:St}{te:TE}{e:Expr}{es:LX}
abbrev kR:jL:=λ_ _ _ _ _ _=>False
abbrev E0:XK:=λ_ _ _=>False
theorem D5:mM kR X E0:=λ_ _ _ _ _ _ _ h=>h.elim
structure Jn (K:K_) (x qual:Str) (st:L6) (f:so) (fd:MV):Prop where
 ex:∃(oc:KE) (od:LZ) (kV doc pm:KE) (an:LZ) (cdv ct:KE) (osl:Array LO),
  fd=M3 x qual (Da st) (Cs st) (rd st) .none kV doc pm an cdv ct/\K.lookup f=Sm #[oc,od,.func fd,osl]/\W.codeIn K cdv qual=true
 kp:Nl K (.ref f)=true
section
variable{P:Lw}{w:Lu}{K:K_}{mg:Str->LO}{base:Lv}
theorem Jn.ok{J:Str}{f:so}{fd:MV}{N:LI}{k:Nat}{sp:Sp}(F:Jn K x J st f fd)(S:aE N ps (rd st))(len:∀vs H Q E,sp vs H Q E->vs.length=ps.length)
  (U:∀(O:KE) (A:Mc) (outer:List Env) (s:F_) (H:Hp) (vs:LM) (Q:VK) (E:XK),Cm k (A.deeper (envOfC J (rd st) s.heap.objs.size f O))->sp vs H Q E->
   ∃t,Hq (kH kR P w K mg base N J (rd st) f O A outer s H E).nox (Cs st) t/\t {nx:=λ_ H'=>Q .non H',rt:=Q} (start N vs) H):GG P w K mg base kR (k+1) f fd ps sp:=by
 refine yE9 F.ex λoc od kV ac pm an O ct ab=>yB3 ?_;rintro rfl Z W;refine Ka Z W S len λA outer s H vs Q E hr Y=>?_;let#[t,h,q]:=U O A outer s H vs Q E hr Y;exact#[t,h.nox,q]
theorem Jn.binds{J:Str}{f:so}{fd:MV}(F:Jn K x J st f fd)
  (h:∀(kV S Y:KE) (an:LZ) (O ct:KE) (U:LN),U.length=ps.length->bindArgs (M3 x J (Da st) (Cs st) (rd st) .none kV S Y an O ct) #[U,[]]=pure (ps.zip U)):Binds K fd ps []:=by
 refine yE9 F.ex λoc od kV S Y an O ct Z=>yB3 ?_;rintro rfl lk ab;exact .all (h kV S Y an O ct)
theorem tM{F:Str}{f:so}{Z:KE}{Y an:LZ}{S:Array LO}{kV O U J ct:KE}(l:K.lookup f=Sm #[Z,Y,.func (M3 x F (Da st) (Cs st) (rd st) .none kV O U an J ct),S])
  (c:W.codeIn K J F=true) (k:Nl K (.ref f)=true):Jn K x F st f (M3 x F (Da st) (Cs st) (rd st) .none kV O U an J ct):=#[yI9 Z Y kV O U an J ct S #[rfl,l,c],k]
end
section
variable{X:Cx}
theorem pv(i:Nat)(F:X.N[i]?=Sm x:=by rfl)(hv:ap X.env.scope x:=by first | exact vSs ⋯ | exact Or.inl rfl | exact cJ _ ⋯)(hd:(x==("__debug__" : Str))=false:=by decide)
  (hcd:(x==("__classdict__" : Str))=false:=by decide):PE X (.Name x pos) (j8 i):=JG F hv hd hcd
end
theorem aP{c A B:Prop}[Decidable c](h1:c->A)(h2:¬ c->B):if c then A else B:=by
 by_cases h:c
 .rw[KZ h];exact h1 h
 .rw[KQ h];exact h2 h
def sg(H H':Hp):Prop:=∀b o,H b=Sm o->H' b=Sm o
theorem sg.refl(H:Hp):sg H H:=λ_ _ h=>h
theorem sg.trans{H1 H2:Hp}(a:sg H H1)(b:sg H1 H2):sg H H2:=λc o h=>b c o (a c o h)
theorem sg.free{H H':Hp}(e:sg H H'){l:so}(h:H' l=Option.none):H l=Option.none:=by
 cases q:H l with
 | none=>rfl
 | some o=>
  rw[e l o q]at h;cases h
theorem sg.seq{K:K_}{H':Hp}{a:so}{xs:LM}(e:sg H H')(h:ud K H a xs):ud K H' a xs:=by
 rcases h with (h | ⟨o,h⟩) | h
 .exact .inl (.inl (e _ _ h))
 .exact .inl (.inr #[o,e _ _ h])
 .exact .inr h
noncomputable def eT(cells:List (Str×so)):List (Str×MI)->List (Str×so)->List (Str×so)
 | [],acc=>acc
 | (n,k)::r,acc=>eT cells r (if k == .free then (n,(cells.lookup n).getD 0)::acc else acc)
theorem uF{env:Env}{f:(Str×MI)->List (Str×so)->Sem (ForInStep (List (Str×so)))}
  (hf:∀n k cs,f (n,k) cs=if (k==MM)=true then (cellOf env n >>= λc=>pure (ForInStep.yield ((n,c)::cs))) else pure (ForInStep.yield cs)) :
  ∀(names:List (Str×MI)) (acc:List (Str×so)),(∀x∈names,x.2 = .free->∃c,env.cells.lookup x.1=Sm c)->
  forIn names acc f=(pure (eT env.cells names acc):Sem _)
 | [],acc,_=>rfl
 | (n,k)::r,acc,h=>by
  rw[List.forIn_cons,hf];have ih:=λacc=>uF hf r acc λx hx=>h x (yS _ hx);by_cases hk:(k==MM)=true
  .rw[KZ hk];let#[c,F]:=h (n,k) yy (by simpa using hk);have e:cellOf env n=pure c:=by unfold cellOf;rw[F]
   rw[e,pure_bind,pure_bind];show forIn r ((n,c)::acc) f=_;rw[ih];show _=pure (eT env.cells r (if (k==MM)=true then (n,(env.cells.lookup n).getD 0)::acc else acc));rw[KZ hk,F];rfl
  .rw[KQ hk,pure_bind];show forIn r acc f=_;rw[ih];show _=pure (eT env.cells r (if (k==MM)=true then (n,(env.cells.lookup n).getD 0)::acc else acc));rw[KQ hk]
theorem j_{env:Env}{scope:Scope}(h:∀x∈scope.names,x.2 = .free->∃c,env.cells.lookup x.1=Sm c):closureFor scope env=pure (eT env.cells scope.names []):=by
 unfold closureFor;show (forIn scope.names ([]:List (Str×so)) _ >>= λcs=>pure cs)=_;rw[uF (env:=env) (λn k cs=>?_) _ _ h]
 .rfl
 .rfl
theorem lP{cells:List (Str×so)}:∀ {names:List (Str×MI)} {acc:List (Str×so)} {x:Str} {c:so},(∀y∈names,y.2 = .free->∃c,cells.lookup y.1=Sm c)->
  (∀y c,acc.lookup y=Sm c->cells.lookup y=Sm c)->(eT cells names acc).lookup x=Sm c->cells.lookup x=Sm c
 | [],acc,x,c,_,ha,h=>ha x c h
 | (n,k)::r,acc,x,c,hn,ha,h=>by
  refine lP (names:=r) (λy F=>hn y (yS _ F)) ?_ h;intro y d F;by_cases hk:(k==MM)=true
  .rw[KZ hk]at F;let#[e,S]:=hn (n,k) yy (by simpa using hk);have O:cells.lookup n=Sm e:=S;rw[JO]at F;by_cases hyn:(y==n)=true
   .rw[hyn]at F;have J:(cells.lookup n).getD 0=d:=Option.some.inj F;rw[O]at J;have U:y=n:=by simpa using hyn
    rw[U,O,<-J];rfl
   .have hf:(y==n)=false:=by simpa using hyn
    rw[hf]at F;exact ha y d F
  .rw[KQ hk]at F;exact ha y d F
theorem mL{cells:List (Str×so)}:∀ {names:List (Str×MI)} {acc:List (Str×so)} {x:Str},(∃c,acc.lookup x=Sm c)->∃c,(eT cells names acc).lookup x=Sm c
 | [],_,_,h=>h
 | (n,k)::r,acc,x,h=>by
  refine mL (names:=r) ?_;by_cases hk:(k==MM)=true
  .rw[KZ hk,JO];cases hx:(x==n) with
   | true=>exact#[_,rfl]
   | false=>exact h
  .rw[KQ hk];exact h
theorem jU{cells:List (Str×so)}:∀ {names:List (Str×MI)} {acc:List (Str×so)} {x:Str},(x,MM)∈names->∃c,(eT cells names acc).lookup x=Sm c
 | (n,k)::r,acc,x,h=>by
  rcases K7.mp h with e | h
  .have F:x=n:=congrArg (·.1) e;have J:MM=k:=congrArg (·.2) e;subst F J;refine mL (names:=r) ?_;rw[KZ (by rfl),JO];rw[beq_self_eq_true];exact#[_,rfl]
  .exact jU (names:=r) h
theorem fg{env:Env}:∀ {names:List (Str×MI)} {x:Str} {k:MI},(∀y∈names,y.2 ≠ .cell)->
  (names.map λ(n,k)=>if (k==MM&&env.scope.kind == .function&&env.kindOf n==Sm .cell) then (n,MI.cell) else (n,k)).lookup x=Sm k->(k = .cell\/k = .free)->(x,MM)∈names
 | [],_,_,_,h,_=>by simp at h
 | (n,k0)::r,x,k,hc,h,hk=>by
  have ih:=@fg env r x k (λy J=>hc y (yS _ J));rw[yX]at h;by_cases hf:(k0==MM&&env.scope.kind == .function&&env.kindOf n==Sm .cell)=true
  .have F:k0 = .free:=by
    have:(k0==MM)=true:=by
     rw[KI,KI]at hf;exact hf.1.1
    simpa using this
   dsimp only at h;rw[KZ hf,JO]at h;cases hx:(x==n) with
   | true=>
    have:x=n:=by simpa using hx
    rw[this,F];exact yy
   | false=>rw[hx]at h;exact yS _ (ih h hk)
  .dsimp only at h;rw[KQ hf,JO]at h;cases hx:(x==n) with
   | true=>
    rw[hx]at h;have e:k0=k:=Option.some.inj h;have:x=n:=by simpa using hx
    rcases hk with z | z
    .exact absurd (e.trans z) (hc (n,k0) yy)
    .rw[this,e,z];exact yy
   | false=>rw[hx]at h;exact yS _ (ih h hk)
noncomputable def b_(X:Cx)(N0 T:LI)(scope:Scope)(C:so)(fp:LL)(s:F_)(H:Hp):Cx:=
 {X with N:=N0++T,s₀:=s,H₀:=H,env:=compEnvC scope (eT X.env.cells scope.names []) C X.env,outer:=X.stack,stack:=X.stack,ex:=fp,fn:=λ_=>false,pn:=[],xe:=λ_ _=>False}
structure jf (X:Cx) (N0 T:LI) (scope:Scope):Prop where
 kind:scope.kind = .function
 nocell:∀y∈scope.names,y.2 ≠ .cell
 names:∀y∈scope.names,y.2 = .local->scope.names.lookup y.1=Sm .local
 free:∀y∈scope.names,y.2 = .free->X.env.kindOf y.1=Sm .cell\/X.env.kindOf y.1=Sm .free
 apart:∀y∈scope.names,y.2 = .local->y.1∉N0
 len0:N0.length=X.N.length
 same:∀(i:Nat) (x:Str) (k:MI),N0[i]?=Sm x->(x,k)∈scope.names->X.N[i]?=Sm x
theorem kh{prog:Lw}{w:Lu}{A:Mc}{R:M6->F_->Prop}{s:F_}{elt F iter:Expr}{ifs:LX}{scope:Scope}{pos:Pos}{it acc:KE}{env:Env}(I:Nat->F_->Prop)
  (J:∀n s,I n s->G_ (model prog w) A (pyNext it) (λr O=>match r with
   | none=>R (.ok .next) O
   | some v=>G_ (model prog w) A (letOwnedTupleGo F it v) (λ_ s₀=>G_ (model prog w) A (assign F env v) (λ_ s₂=>
     G_ (model prog w) A (forIn ifs true λc r=>if r=true then do let ok <-isTrue c env (eval c env);pure (ForInStep.yield ok) else pure (ForInStep.yield r)) (λok S=>
      if ok=true then G_ (model prog w) A (eval elt env) (λx W=>
       G_ (model prog w) A (call (.builtin "list.append") [acc,x]) (λ_ U=>∃m,m<n/\I m U) (λ_ _=>False) W) (λ_ _=>False) S
      else ∃m,m<n/\I m S) (λ_ _=>False) s₂) (λ_ _=>False) s₀) (λ_ _=>False) O) (λ_ _=>False) s)
  (n:Nat) (h:I n s) :
  codeAny (model prog w) A (.compLoop (.ListComp elt [#[F,iter,ifs,0]] scope pos) 0 it acc env) R s:=by
 refine codeAny_loop rfl I (λn s hI=>?_) n h;show G_ _ A ((compTurn (.ListComp elt [#[F,iter,ifs,0]] scope pos) 0 it acc env).onRaise (λx=>do noteFrame x env;theTreesLotGoes x)) _ _ s;refine wpAny_noted ?_;rw[compTurn_list];refine KL (wpAny_standAt (KL (MQ (J n s hI) (λr O Y=>?_) λ_ _ h'=>h'.elim)));cases r with
 | none=>exact KP Y
 | some v=>
  refine KL (MQ Y (λ_ s₀ h₀=>?_) λ_ _ h'=>h'.elim);refine KL (MQ h₀ (λ_ s₂ h₂=>KL (MQ h₂ (λok S Z=>?_) λ_ _ h'=>h'.elim)) λ_ _ h'=>h'.elim);cases ok with
  | false=>exact KP #[rfl,Z]
  | true=>
   exact KL (KL (MQ Z (λx W h₄=>KL (MQ h₄ (λ_ U h₅=>KP (KP #[rfl,h₅])) λ_ _ h'=>h'.elim)) λ_ _ h'=>h'.elim))
def Ib(X:Cx)(ifs:LX)(tc:TT):Prop:=
 ∀(pins:List (so×Obj)) (s:F_) (σ : St) (H:Hp) (Q:Bool->Hp->Prop),Inv X pins σ H s->tc σ H Q->
  G_ (model X.prog X.w) X.A (forIn ifs true λc r=>if r=true then do let ok <-isTrue c X.env (eval c X.env);pure (ForInStep.yield ok) else pure (ForInStep.yield r)) (TP X pins σ Q) X.xe s
def oM:TT:=λ_ H Q=>Q true H
theorem eJ:Ib X [] oM:=λ_ _ _ H _ I h=>wpAny_tests_nil #[H,I,h]
theorem iR{c:Expr}{tc:TT}(F:PT X c tc):Ib X [c] tc:=λpins s σ H Q I h=>wpAny_tests_one (F pins s σ H Q I h)
def wu(g:TG)(n:Nat):Prop:=∀x σ H Q,g x σ H Q->g x σ H λσ' H'=>Q σ' H'/\σ'.length=σ.length/\∀k,k<n->σ'[k]? = σ[k]?
def xM(g:gL)(n:Nat):Prop:=∀x σ H Q,g x σ H Q->g x σ H λσ' H'=>Q σ' H'/\σ'.length=σ.length/\∀k,k<n->σ'[k]? = σ[k]?
theorem cN(h:n<=i):wu (iB i) n:=λx σ H Q q=>#[q,'~',λk F=>by rw[za8 ()]]
theorem Di:xM x_ n:=λx σ H Q q=>#[q.1,q.2,rfl,λ_ _=>rfl]
def xj(g:TG):Prop:=∀x σ H Q Q',(∀σ' H',Q σ' H'->Q' σ' H')->g x σ H Q->g x σ H Q'
def nJ(g:gL):Prop:=∀x σ H Q Q',(∀σ' H',Q σ' H'->Q' σ' H')->g x σ H Q->g x σ H Q'
theorem oj:xj (iB i):=λx σ H Q F h q=>h _ _ q
theorem vy:nJ x_:=λx σ H Q F h q=>#[q.1,h _ _ q.2]
theorem Cc{t:TG}{u:gL}(h1:xj t)(h2:nJ u):nJ (qQ t u):=λx σ H Q F h ⟨v,r,e,q⟩=>yI2 v r #[e,h1 _ _ _ _ _ (λJ H' z=>h2 _ _ _ _ _ h z) q]
theorem pH{t:TG}{u:gL}(h1:wu t n)(O:xj t)(h2:xM u n)(S:nJ u):xM (qQ t u) n:=λx σ H Q ⟨v,r,e,q⟩=>by
 refine yI2 v r #[e,?_];refine O _ _ _ _ _ (λW H' z=>?_) (h1 _ _ _ _ q);let#[z,J,k1]:=z;exact S _ _ _ _ _ (λU H2 y=>#[y.1,y.2.1.trans J,λk F=>(y.2.2 k F).trans (k1 k F)]) (h2 _ _ _ _ z)
theorem Fx{K:K_}{m:Nat}{t:gL}(h:xM t n):wu (xS K m t) n:=λx σ H Q ⟨a,xs,e,q,l,z⟩=>yI2 a xs #[e,q,l,h _ _ _ _ z]
def gG(J:It)(g:TG)(tc:TT)(te:TE)(nT:Nat)(σ : St)(D:so)(Q:VK)(H:Hp):Prop:=
 ∃W:Nat->Nat->LM->Hp->Prop,(∃m,W 0 m [] H)/\∀i m ys H2,W i m ys H2->
  (J.stop i H2/\Q (.ref D) H2)\/(J.go i H2/\∀x H',J.yld i H2 x H'->g x (σ++List.replicate nT Nn) H' λσ2 H3=>tc σ2 H3 λb H4=>
   if b=true then te σ2 H4 λy H5=>H5 D=Sm (.lst ys)/\ys.length<L_/\∃m',m'<m/\W (i+1) m' (ys++[y]) (upd H5 D (.lst (ys++[y]))) else ∃m',m'<m/\W (i+1) m' ys H4)
def xk(wi:TI)(g:TG)(tc:TT)(te:TE)(nT:Nat):TE:=λσ H Q=>wi σ H λJ H1=>∀D,H1 D=Nn->gG J g tc te nT σ D Q (upd H1 D (.lst []))
theorem GN.sameBut{P:Lw}{w:Lu}{h h':Lv}{C:so}(x:GN P w H h)(J:MH C h h')(F:H C=Nn):GN P w H h':=λa o e=>
 (x a o e).stay (λb u O q=>(J.2 b (by
  rintro rfl;rcases O with z | z
  .rw[z]at F;rw[F]at e;cases e
  .rw[F]at z;cases z)).trans q) (λ_ q=>q) λ_ _ q=>q
section
variable{X:Cx}{N0 T:LI}{scope:Scope}{tg elt iter:Expr}{ifs:LX}{pos:Pos}{wi:TI}{g:TG}{tc:TT}{te:TE}
theorem qb{pins:List (so×Obj)}{σ:St}{H:Hp}{s:F_}{E:LH}{it:so}{fp:LL}{tn:Nat->Lv->Prop}{J:It}{Q:VK}{RR:KE->so->M6->F_->Prop}
  (S:jf X N0 T scope) (hc:X.calm=true)
  (hg:∀C fp s H,PG (b_ X N0 T scope C fp s H) tg g) (cv:wu g X.N.length) (hi:∀C fp s H,Ib (b_ X N0 T scope C fp s H) ifs tc) (he:∀C fp s H,PE (b_ X N0 T scope C fp s H) elt te)
  (I:Inv X pins σ H s) (Tn:k7 X.prog X.w X.K tg J fp it tn) (st:tn 0 s.heap) (hf:∀b∈fp,iZ X pins H b)
  (h:∀D,H D=Nn->gG J g tc te T.length σ D Q (upd H D (.lst [])))
  (b2:∀D C s' H' m,s'.heap.Ns C m->H' C=Nn->C≠X.env.locals->(∀x c,X.env.cells.lookup x=Sm c->c≠C)->(∀p∈X.pn++pins,p.1≠C)->X.s₀.heap.objs.size<=C->Inv X pins σ H' s'->
   (∀h',MH C s'.heap h'->Inv X pins σ H' {s' with heap:=h'})->Q (.ref D) H'->RR (.ref D) C (.ok .next) s') :
  G_ (model X.prog X.w) X.A (newList []) (λacc s₃=>G_ (model X.prog X.w) X.A (newFunctionEnv scope X.env.globals (eT X.env.cells scope.names []) [] X.env.qual Nn .none (Sm X.env)) (λa3 s₄=>
   codeAny (model X.prog X.w) X.A (.compStart (.ListComp elt [⟨tg,iter,ifs,0⟩] scope pos) 0 (.ref it) acc {a3 with scope:=relabel scope X.env}) (RR acc a3.locals) s₄) E s₃) E s:=by
 refine MA (wpAny_newFunctionEnv S.nocell (by intro y hy;simp at hy) (λh₁ Z O=>?_) S.kind);dsimp only at Z O |-
 generalize hH2:s.heap.push {cls:=.type "list",dict:=Nn,data:=.seq ([]:LN).toArray}=P2 at Z O |-;have hC:P2.objs.size=s.heap.objs.size+1:=by rw[<-hH2,tV]
 obtain⟨D,hD⟩ : ∃D:Nat,D=s.heap.objs.size:=⟨_,rfl⟩
 obtain⟨C,cb⟩ : ∃C:Nat,C=P2.objs.size:=⟨_,rfl⟩
 rw[<-cb]at Z O hC |-
 rw[<-hD]at hC |-
 have bc:D≠C:=()
 have ac:D<C:=()
 have a9:∀b o,s.heap.get? b=Sm o->b≠D:=λb o e=>hD ▸ xg (yo e);have Y:∀b o,s.heap.get? b=Sm o->b≠C:=λb o e=>xg (Nat.lt_trans (hD ▸ yo e) ac);have ab:∀b o,s.heap.get? b=Sm o->h₁.get? b=Sm o:=λb o e=>O.extBut b o (Y b o e) (yK _ (hH2 ▸ yK _ e));have bp:H D=Nn:=I.hok.fresh ();have cq:H C=Nn:=I.hok.fresh ();have dat:h₁.get? D=Sm {cls:=.type "list",data:=.seq ([]:LN).toArray 0}:=by
  refine O.extBut _ _ bc (yK _ ?_);rw[<-hH2,hD];exact xb _ rfl
 have U:∀x c,(eT X.env.cells scope.names []).lookup x=Sm c->X.env.cells.lookup x=Sm c:=λx c e=>
  lP (λy hy hk=>I.ok.has y.1 (S.free y hy hk)) (λy c z=>by simp at z) e
 have ad:(b_ X N0 T scope C fp s H).Ok:=by
  refine⟨I.ok.mod,?_,I.ok.glob,I.ok.blt,?_,λx y c e1 e2=>I.ok.inj x y c (U x c e1) (U y c e2),λx hx=>?_,λx c z _=>(by cases z),I.ok.hd,I.ok.frames,.inl rfl,λb F=>⟨?_,λx c e=>(hf b F).2.2.2.2.1 x c (U x c e)⟩,
   I.bs,?_,λb o e F=>?_,λb F z=>?_,I.stack,I.stkFree⟩
  .show (relabel scope X.env).kind = .function;exact S.kind
  .show s.heap.objs.size<=C;lia
  .have ca:(relabel scope X.env).names.lookup x=Sm .cell\/(relabel scope X.env).names.lookup x=Sm .free:=hx;have m:(x,MM)∈scope.names:=by
    rcases ca with z | z
    .exact fg S.nocell z (.inl rfl)
    .exact fg S.nocell z (.inr rfl)
   exact jU m
  .show b≠C;let#[o,e,_]:=Tn.obj 0 _ st b F;exact Y b o e
  .exact xH I.ok.bsz I.sz
  .refine yA5 (hf b F) λ_ _ _ z _=>?_;rcases z with z | z
   .exact I.ok.noex b o e z
   .exact absurd (oG (oG (yo e) I.ok.bsz) z) (Jw _)
  .refine yA4 (hf b F) λ_ z1 z2 _=>?_;rcases K7.mp (I.stkSub b z) with q | q
   .exact z1 q
   .exact z2 q
 have I1:Inv (b_ X N0 T scope C fp s H) [] (σ++List.replicate T.length Nn) (upd H D (.lst [])) {s with heap:=h₁,toks:=s.toks+([]:List (Str×KE)).length}:=by
  refine#[ad,rfl,I.bare,Un.laid (h:=s.heap) ab () bp,#[_,Z,λi x v e1 e2 e3=>?_],λx c e=>?_,?_,λx c e=>?_,λp hp=>(by simp[b_]at hp),I.hok.laid ab () ?_,?_]
  .have a6:(N0++T)[i]?=Sm x:=e1;have hl:=I.len;have cz:=S.len0;have hi:i<σ.length:=by
    rcases HU i σ.length with z | z
    .exact z
    .rw[uC z]at e2;rw[zaY]at e2;split at e2<;>cases e2
   rw[xR hi]at e2;rw[xR ()]at a6;have cd:x∈N0:=me a6;have b0:(relabel scope X.env).names.lookup x=Sm .local\/(relabel scope X.env).names.lookup x=Sm .cell\/(relabel scope X.env).names.lookup x=Sm .free:=e3;have fr:(relabel scope X.env).names.lookup x=Sm .cell\/(relabel scope X.env).names.lookup x=Sm .free:=by
    rcases b0 with z | z | z
    .exfalso;have b4:∀(names:List (Str×MI)),(names.map λ(n,k)=>if (k==MM&&X.env.scope.kind == .function&&X.env.kindOf n==Sm .cell) then (n,MI.cell) else (n,k)).lookup x=Sm .local->(x,MI.local)∈names:=by
      intro names
      induction names with
      | nil=>intro z;simp at z
      | cons y r ih=>
       let#[n,k]:=y;intro z;rw[yX]at z;dsimp only at z;by_cases hfk:(k==MM&&X.env.scope.kind == .function&&X.env.kindOf n==Sm .cell)=true
       .rw[KZ hfk,JO]at z;cases hx:(x==n) with
        | true=>rw[hx]at z;cases z
        | false=>rw[hx]at z;exact yS _ (ih z)
       .rw[KQ hfk,JO]at z;cases hx:(x==n) with
        | true=>
         rw[hx]at z;have ek:k = .local:=Option.some.inj z;have en:x=n:=by simpa using hx
         rw[ek,en];exact yy
        | false=>rw[hx]at z;exact yS _ (ih z)
     exact S.apart (x,.local) (b4 _ z) rfl cd
    .exact .inl z
    .exact .inr z
   have m:(x,MM)∈scope.names:=by
    rcases fr with z | z
    .exact fg S.nocell z (.inl rfl)
    .exact fg S.nocell z (.inr rfl)
   have kX:=S.free _ m rfl;let#[mm,hn,cm]:=I.loc;let#[u,r,lk]:=cm i x v (S.same i x _ a6 m) e2 (.inr kX);refine#[u,r,.inr #[fr,?_]];rcases lk with ⟨z,_⟩ | ⟨_,c,ec,cc⟩
   .rcases kX with q | q
    .rw[q]at z;cases z
    .rw[q]at z;cases z
   .let#[c',a7]:=jU (cells:=X.env.cells) (acc:=[]) m;have:=U x c' a7;rw[ec]at this;cases this;exact#[c,a7,cc.keeps ab]
  .let#[v,z]:=I.cell x c (U x c e);exact#[v,z.keeps ab]
  .show upd H D (.lst []) C=Nn;rw[aw (uW bc)];exact cq
  .have q:=I.freeC x c (U x c e);refine yE2 (I.cell x c (U x c e)) λv o=>yB2 λz _=>?_;rw[aw (a9 c o z)];exact q
  .exact#[gV _,yI2 ([]) 0 #[.nil,dat]]
  .show (σ++List.replicate T.length Nn).length=(N0++T).length;rw[jn,jn,zaL,I.len,S.len0]
 have be:tn 0 h₁:=Tn.keep _ _ _ st λb _ o e=>ab b o e;have a4:∀ {H':Hp},(∀b∈fp,H' b=Nn)->∀b∈fp,iZ (b_ X N0 T scope C fp s H) [] H' b:=λhn b F=>
  #[hn b F,(ad.exf b F).1,ad.exfs b F,.inl F,(ad.exf b F).2,λp hp=>(by simp[b_]at hp)]
 have b3:∀b∈fp,upd H D (.lst []) b=Nn:=λb F=>by
  let#[o,e,_]:=Tn.obj 0 _ st b F;rw[aw (a9 b o e)];exact(hf b F).1
 let#[W,#[m0,w0],a8]:=h D bp;have as:∀s₃ : F_,s₃={s with heap:=h₁,toks:=s.toks+([]:List (Str×KE)).length}->
   codeAny (model X.prog X.w) X.A (.compLoop (.ListComp elt [#[tg,iter,ifs,0]] scope pos) 0 (.ref it) (.ref D) (compEnvC scope (eT X.env.cells scope.names []) C X.env)) (RR (.ref D) C) s₃:=by
  rintro s₃ rfl;refine kh (λn s'=>∃i H' ys,Inv (b_ X N0 T scope C fp s H) [] (σ++List.replicate T.length Nn) H' s'/\tn i s'.heap/\(∀b∈fp,H' b=Nn)/\W i n ys H') ?_ m0 (yI3 0 _ ([]) #[I1,be,b3,w0]);intro n s3;refine yF3 λi H3 ys=>yB4 λI3 bh bt w3=>?_;rcases a8 i n ys H3 w3 with ⟨stop,qn⟩ | ⟨go,step⟩
  .refine bD (Tn.done (b_ X N0 T scope C fp s H) rfl rfl rfl hc i [] s3 _ H3 (λ_ _=>False) I3 (a4 bt) bh stop) λr s4 ⟨hr,I4⟩=>?_;subst hr;let#[m,hm,_]:=I4.loc;have bg:∀b∈fp,(b∈X.ex\/X.s₀.heap.objs.size<=b)/\b≠X.env.locals/\(∀x c,X.env.cells.lookup x=Sm c->c≠b)/\∀p∈X.pn++pins,p.1≠b:=λb F=>
    #[(hf b F).2.2.2.1,(hf b F).2.1,(hf b F).2.2.2.2.1,(hf b F).2.2.2.2.2]
   have u4:Un (kf X.stack) fp H H3 s.heap s4.heap:=I4.base;refine b2 D C s4 H3 m hm I4.free (uW (xg (Nat.lt_trans (hD ▸ I.lt) ac))) (λx c e=>?_) (λp hp=>?_) (xH (hD ▸ I.sz) (xE ac)) (I.call' (ch:=fp) I4.os u4 I4.hok I4.bare bg) (λh' ag=>?_) qn
   .refine yE2 (I.cell x c e) λv o=>yB2 λq _=>?_;exact Y c o q
   .exact Y _ _ (I.pin p hp).1
   .refine I.call' (ch:=fp) (s':={s4 with heap:=h'}) I4.os #[λb o q n' F hx=>(ag.2 b (Y b o q)).trans (u4.keep b o q n' F hx),λb o q n' F hx=>?_,u4.free,λb o q hx=>?_,u4.tups,u4.frzs,u4.tbls] (I4.hok.sameBut ag I4.free) I4.bare bg
    .let#[sl,e]:=u4.slot b o q n' F hx;exact#[sl,(ag.2 b (Y b o q)).trans e]
    .let#[o',e]:=u4.there b o q hx;exact#[o',(ag.2 b (Y b o q)).trans e]
  .refine bD (Tn.item (b_ X N0 T scope C fp s H) rfl rfl rfl hc i [] s3 _ H3 (λ_ _=>False) I3 (a4 bt) bh go) λr s4 ⟨u,hr,h4⟩=>?_;subst hr;refine bD h4 λ_ s5 ⟨x,H5,I5,r5,y5,a5,ce⟩=>?_;have cn:=I5.pinned (a4 ce) (Tn.obj _ _ a5);refine bD (hg C fp s H _ s5 _ H5 x u _ cn r5 (cv _ _ _ _ (step x H5 y5))) λ_ s6 ⟨σ6,H6,I6,q6,l6,k6⟩=>?_;have al:∀ {H7:Hp} {s7:F_},Inv (b_ X N0 T scope C fp s H) ([]++lb fp s5.heap) σ6 H7 s7->(∀ {m':Nat} {zs:LM},m'<n->W (i+1) m' zs H7->∃m,m<n/\∃i H' ys,Inv (b_ X N0 T scope C fp s H) [] (σ++List.replicate T.length Nn) H' s7/\tn i s7.heap/\(∀b∈fp,H' b=Nn)/\W i m ys H'):=λ{H7 s7} I7 {m' zs} hm w7=>by
    refine#[m',hm,yI3 (i+1) H7 zs #[I7.unpinned.weak (by rw[l6]) (λj v e=>?_),Tn.keep _ _ _ a5 λb F o e=>(I7.pin (b,o) (nS _ (nS _ (iz F e)))).1,λb F=>?_,w7]]
    .have hj:j<σ.length:=by
      rcases HU j σ.length with z | z
      .exact z
      .rw[uC z,zaY]at e;split at e<;>cases e
     rw[k6 j (by rw[<-I.len];exact hj)];exact e
    .let#[o,e,d]:=Tn.obj _ _ a5 b F;exact(I7.pin (b,o) (nS _ (nS _ (iz F e)))).2.1
   refine bD (hi C fp s H _ s6 σ6 H6 _ I6 q6) λb s7 ⟨H7,I7,q7⟩=>?_;cases b with
   | false=>
    let#[m',hm,w7]:=(show ∃m',m'<n/\W (i+1) m' ys H7 from by simpa using q7)
    exact al I7 hm w7
   | true=>
    rw[KZ rfl]at q7;refine bD (he C fp s H _ s7 σ6 H7 _ I7 q7) λv s8 ⟨y,H8,I8,r8,b1,hz,m',hm,w8⟩=>?_;refine bD (pB (X:=b_ X N0 T scope C fp s H) _ s8 σ6 H8 (.ref D) [y] (.ref D) [v] (λ_ H9=>H9=upd H8 D (.lst (ys++[y]))) I8 rfl (.cons r8 .nil) (yI3 D ys y #[rfl,rfl,b1,hz,rfl])) λv9 s9 ⟨y9,H9,I9,_,e9⟩=>?_;subst e9;exact al I9 hm w8
 exact codeAny_compStart_list (as _ rfl) (Tn.self X.A 0 _ _ _ be (as _ rfl))
theorem eV(S:jf X N0 T scope)(hc:X.calm=true)(hI:PI X tg iter wi)
  (hg:∀C fp s H,PG (b_ X N0 T scope C fp s H) tg g) (Y:wu g X.N.length) (hi:∀C fp s H,Ib (b_ X N0 T scope C fp s H) ifs tc) (he:∀C fp s H,PE (b_ X N0 T scope C fp s H) elt te)
  (hs:∀x,foldedSetIterable iter X.env x=pure x:=by intro _;rfl):PE X (.ListComp elt [#[tg,iter,ifs,0]] scope pos) (xk wi g tc te T.length):=by
 intro pins s σ H Q I h;rw[eval_ListComp];refine wpAny_comprehension_free (use:=Nn) rfl hs (j_ λx hx hk=>I.ok.has x.1 (S.free x hx hk)) S.kind S.names (bD (hI pins s σ H _ I h) λv s1 h1=>bD h1 λac s2 h2=>?_);revert h2;refine yF5 λit fp tn J H2=>yB6 λe I2 Tn U f2 q2=>?_;subst e;refine qb (RR:=λacc C=>compPost (model X.prog X.w) X.A X.xe Nn (EP X pins σ Q) acc C) S hc hg Y hi he I2 Tn U f2 q2 ?_;intro D C s' H' m hn hC hL F W O I' Z q;exact#[m,hn,λh' ab=>yI2 (.ref D) H' #[Z h' ab,rfl,q]]
theorem iA{pos' U:Pos}(S:jf X N0 T scope)(hc:X.calm=true)(hN:X.N.Nodup)(ac:X.N[i]?=Sm x)(hx:X.env.scope.names.lookup x=Sm .local)(hI:PI X tg iter wi)
  (hg:∀C fp s H,PG (b_ X N0 T scope C fp s H) tg g) (al:wu g X.N.length) (hi:∀C fp s H,Ib (b_ X N0 T scope C fp s H) ifs tc) (he:∀C fp s H,PE (b_ X N0 T scope C fp s H) elt te)
  (ad:swapsWith (.ListComp elt [#[tg,iter,ifs,0]] scope pos) (Sm (.Name x pos')) U.line X.env=pure true:=by rfl)
  (hs:∀x,foldedSetIterable iter X.env x=pure x:=by intro _;rfl):PS X (.Assign [.Name x pos'] (.ListComp elt [#[tg,iter,ifs,0]] scope pos) U) (oT (xk wi g tc te T.length) (iB i)):=by
 intro pins s σ H D I h;rw[exec_Assign_Name_used _ _ _ _ ad];refine KL (wpAny_standAt (KL ?_));show G_ _ X.A (do let _ <-comprehension (.ListComp elt [#[tg,iter,ifs,0]] scope pos) scope X.env _ (newList []) false (eval iter X.env) (Sm (assign (.Name x pos') X.env))) _ _ s;refine KL (MQ (wpAny_comprehension_free (use:=Sm (assign (.Name x pos') X.env)) (Q:=λ_ s'=>SP X pins D .next s') rfl hs (j_ λx hx hk=>I.ok.has x.1 (S.free x hx hk)) S.kind S.names
  (bD (hI pins s σ H _ I h) λv s1 h1=>bD h1 λa4 s2 h2=>?_)) (λ_ s' hq=>KP (KP hq)) λ_ _ e=>e)
 revert h2;refine yF5 λit fp tn J H2=>yB6 λe I2 Tn ab f2 q2=>?_;subst e;refine qb (RR:=λacc C=>compPost (model X.prog X.w) X.A X.xe (Sm (assign (.Name x pos') X.env)) (λ_ s'=>SP X pins D .next s') acc C) S hc hg al hi he I2 Tn ab f2 q2 ?_;intro L C s' H' m hn hC hL F W O I' a5 q;show G_ _ X.A (assign (.Name x pos') X.env (.ref L)) _ _ _;refine wpAny_assign_Name (pP (v:=.ref L) I' hN ac (.inl hx) rfl (λZ ag ⟨a,a3,ha⟩=>?_) (.inr hx));have Y:C≠a:=by
  rintro rfl;rcases ha with z | z
  .exact hL z
  .exact F x C z rfl
 refine#[m,hn.sameBut a3 Y,λh' as=>?_];exact yI2 (σ.set i (Sm (.ref L))) H' #[ag.turned (t':=Z.toks) (λb o hb e=>(as.2 b hb).trans e) hC hL (.inr O) F W,q]
end
theorem Br.of:∀ {xs:LM} {F:LN} {i:Nat} {u:KE},Br xs F->F[i]?=Sm u->∃x,xs[i]?=Sm x/\RelV x u
 | _,_,0,u,.cons r _,e=>#[_,rfl,by simp at e;subst e;exact r]
 | _,_,i+1,u,.cons _ rr,e=>by
  let#[x,hx,r]:=Br.of (i:=i) rr (by simpa using e);exact#[x,by simpa using hx,r]
theorem lc:∀ {F:LI} {J:LN},Br (F.map V.str) J->StrsAre J F
 | [],_,.nil=>.nil
 | s::F,_,.cons r rr=>by
  let#[t,rfl]:=r;exact .cons s t (lc rr)
theorem qj:∀ {F:LN} {J:LI},StrsAre F J->Br (J.map V.str) F
 | _,_,.nil=>.nil
 | _,_,.cons y t h=>.cons #[t,rfl] (qj h)
section
variable{X:Cx}
noncomputable def de(H:Hp):V->Option String
 | .non=>Sm "NoneType"
 | .bl _=>Sm "bool"
 | .int _=>Sm "int"
 | .str _=>Sm "str"
 | .ref a=>match H a with
  | some (.lst _)=>Sm "list"
  | some (.frz _ (.lst _))=>Sm "list"
  | some (.tup _)=>Sm "tuple"
  | some (.dK _)=>Sm "dict"
  | some (.dT _)=>Sm "dict"
  | _=>Nn
 | _=>Nn
theorem Bk{K:K_}{H:Hp}:∀ {x:V} {T:String},de H x=Sm T->gZ K H x (.type T)
 | .non,T,h=>by cases h;exact .non
 | .bl b,T,h=>by cases h;exact .bl b
 | .int i,T,h=>by cases h;exact .int i
 | .str y,T,h=>by cases h;exact .str y
 | .byt _,T,h=>by cases h
 | .flt _,T,h=>by cases h
 | .ty _,T,h=>by cases h
 | .ref a,T,h=>by
  cases e:H a with
  | none=>simp[de,e]at h
  | some o=>
   cases o with
   | lst xs=>simp[de,e]at h;subst h;exact .lst e
   | tup xs=>simp[de,e]at h;subst h;exact .tup e
   | dK xs=>simp[de,e]at h;subst h;exact .dK e
   | dT xs=>simp[de,e]at h;subst h;exact .dT e
   | frz ob u=>
    cases u with
    | lst xs=>simp[de,e]at h;subst h;exact .frz e
    | _=>simp[de,e]at h
   | _=>simp[de,e]at h
noncomputable def DR(T C:String):Bool:=T==C||(T == "bool" && C == "int")
theorem CH(K:K_){T C:String}(F:T∈["NoneType","bool","int","str","list","tuple","dict"]) (J:C∈["bool","int","str","list","tuple"]):W.kitOne K (.type T) (.type C)=Sm (DR T C):=by
 simp only[yk,oZ,or_false]at F J;rcases F with rfl | rfl | rfl | rfl | rfl | rfl | rfl<;>rcases J with rfl | rfl | rfl | rfl | rfl<;>(with_unfolding_all rfl)
theorem xu{H:Hp}{x:V}{T:String}(h:de H x=Sm T):T∈["NoneType","bool","int","str","list","tuple","dict"]:=by
 cases x with
 | ref a=>
  cases e:H a with
  | none=>simp[de,e]at h
  | some o=>
   cases o with
   | frz ob u=>cases u<;>simp[de,e]at h<;>subst h<;>decide
   | _=>simp[de,e]at h<;>subst h<;>decide
 | _=>first | (cases h;decide) | cases h
def He:LM->Hp->VK->Prop:=λxs H Q=>∃(x:V) (T C:String),xs=[x,.ty C]/\de H x=Sm T/\C∈["bool","int","str","list","tuple"]/\Q (.bl (DR T C)) H
theorem vV{Q:VK}(x:V)(C:String):He [x,.ty C] H Q=∃T,de H x=Sm T/\C∈["bool","int","str","list","tuple"]/\Q (.bl (DR T C)) H:=
 propext #[λ⟨_,T,_,e,q⟩=>by cases e;exact#[T,q],λ⟨T,q⟩=>yI3 x T C #[rfl,q]]
theorem mJ:B3 X (.builtin "isinstance") He:=by
 intro pins s σ H xs W Q I r h;revert h;refine yF3 λx T C=>yB4 ?_;rintro rfl J U q;refine yE2 (qJ r) λu Y=>yB3 ?_;rintro rfl S F;cases F;exact zm I S (Bk J) (CH X.K (xu J) U) λO=>yI2 (.bl (DR T C)) H #[I.tok O,rfl,q]
def y6(K:K_):V->LM->Hp->VK->Prop:=λx vs H Q=>∃(sep:Str) (p:so) (ss:LI),x = .str sep/\vs=[.ref p]/\ud K H p (ss.map V.str)/\(ss.map (·.length)).sum+ss.length*sep.length<=16777216/\Q (.str (Mj sep ss)) H
theorem FA:Hr X "str.join" (y6 X.K):=by
 intro pins s σ H x xs v Z Q I W r h;revert h;refine yF3 λF p S=>yB5 ?_;rintro rfl rfl J hz q;let#[t,rfl]:=W;let#[u,rfl,U]:=dv r;cases U;refine yE1 (I.list J) λO=>yB3 λY pl _=>?_;exact join_list pl.isList (by simpa using lc Y) hz λt' k=>yI2 (.str (Mj F S)) H #[I.tok k,#[t',rfl],q]
end
def kS(J:It)(g:TG)(tb:TS)(D:d0)(σ : St)(H:Hp):Prop:=∃W:Nat->Nat->St->Hp->Prop,(∃m,W 0 m σ H)/\∀i m σ H,W i m σ H->
 (J.stop i H/\D.nx σ H)\/(J.go i H/\∃N:St->Hp->Prop,(∀σ' H',N σ' H'->∃m',m'<m/\W (i+1) m' σ' H')/\∀x H',J.yld i H x H'->g x σ H' λσ2 H2=>tb {D with nx:=N,ct:=N,bk:=D.nx} σ2 H2)
theorem ww(wi:TI)(g:TG)(tb:TS)(D:d0)(σ : St)(H:Hp):Gf wi g tb D σ H=wi σ H λJ H1=>kS J g tb D σ H1:=rfl
theorem lj{J:It}{tb:TS}{D:d0}(n:Nat)(F:Nat->St->Hp->Prop)(W:F 0 σ H)(O:∀i σ H,i<n->F i σ H->J.go i H)(S:∀σ H,F n σ H->J.stop n H)
  (U:∀i σ H x H',i<n->F i σ H->J.yld i H x H'->g x σ H' λY H2=>tb {D with nx:=F (i+1),ct:=F (i+1),bk:=D.nx} Y H2) (hd:∀σ H,F n σ H->D.nx σ H):kS J g tb D σ H:=by
 refine#[λi m σ H=>m=n-i/\i<=n/\F i σ H,#[n,'~',gV _,W],?_];rintro i m σ H ⟨rfl,hi,p⟩;by_cases hlt:i<n
 .exact .inr #[O i σ H hlt p,F (i+1),λσ' H' Z=>#[n-(i+1),(),rfl,hlt,Z],λx H' y=>U i σ H x H' hlt p y]
 .have e:i=n:=()
  subst e;exact .inl #[S σ H p,hd σ H p]
theorem b6{K:K_}{a:so}{xs:LM}{tb:TS}{D:d0}(F:Nat->St->Hp->Prop)(J:F 0 σ H)(hl:∀i σ H,i<=xs.length->F i σ H->ud K H a xs)
  (S:∀i x σ H,xs[i]?=Sm x->F i σ H->g x σ H λO H2=>tb {D with nx:=F (i+1),ct:=F (i+1),bk:=D.nx} O H2) (hd:∀σ H,F xs.length σ H->D.nx σ H):kS (ny K a) g tb D σ H:=
 Dv F J hl S hd
theorem gu{lo:Int}{tb:TS}{D:d0}(F:Nat->St->Hp->Prop)(J:F 0 σ H)
  (S:∀i σ H,i<n->F i σ H->g (.int (lo+i)) σ H λO H2=>tb {D with nx:=F (i+1),ct:=F (i+1),bk:=D.nx} O H2) (hd:∀σ H,F n σ H->D.nx σ H):kS (mO lo n) g tb D σ H:=
 zD F J S hd
def jQ(n i:Nat)(Pv:Nat->LM->Hp->Prop)(D:so)(ys:LM)(y:V)(H:Hp):Prop:=
 H D=Sm (.lst ys)/\ys.length<L_/\∃m',m'<n-i/\(m'=n-(i+1)/\i+1<=n/\Pv (i+1) (ys++[y]) (upd H D (.lst (ys++[y]))))
theorem iD{F:Nat->LM->Hp->Prop}{ys:LM}{y:V}(hi:i<n)(J:ys.length=i)(hz:n<=L_)(h1:H D=Sm (.lst ys))(h2:F (i+1) (ys++[y]) (upd H D (.lst (ys++[y])))):jQ n i F D ys y H:=
 #[h1,(),n-(i+1),(),rfl,hi,h2]
def lm(n i:Nat)(Pv:Nat->LM->Hp->Prop)(D:so)(ys:LM)(te:TE)(σ : St)(H:Hp):Prop:=
 if true=true then te σ H (jQ n i Pv D ys) else ∃m',m'<n-i/\(m'=n-(i+1)/\i+1<=n/\Pv (i+1) ys H)
theorem qZ{F:Nat->LM->Hp->Prop}{ys:LM}:lm n i F D ys te σ H=te σ H (jQ n i F D ys):=by
 unfold lm;rw[KZ rfl]
theorem ma{J:It}{nT:Nat}{Q:VK}(n:Nat)(F:Nat->LM->Hp->Prop)(W:F 0 [] H)(O:∀i ys H,i<n->F i ys H->J.go i H)(S:∀ys H,F n ys H->J.stop n H)
  (U:∀i ys H x H',i<n->F i ys H->J.yld i H x H'->g x (σ++List.replicate nT Nn) H' (lm n i F D ys te))
  (hd:∀ys H,F n ys H->Q (.ref D) H):gG J g oM te nT σ D Q H:=by
 refine#[λi m ys H=>m=n-i/\i<=n/\F i ys H,#[n,'~',gV _,W],?_];rintro i m ys H ⟨rfl,hi,p⟩;by_cases hlt:i<n
 .exact .inr #[O i ys H hlt p,λx H' y=>U i ys H x H' hlt p y]
 .have e:i=n:=()
  subst e;exact .inl #[S ys H p,hd ys H p]
theorem iG{K:K_}{a:so}{xs:LM}{nT:Nat}{Q:VK}(F:Nat->LM->Hp->Prop)(J:F 0 [] H)(hl:∀i ys H,i<=xs.length->F i ys H->ud K H a xs)
  (S:∀i ys H x,xs[i]?=Sm x->i<xs.length->F i ys H->g x (σ++List.replicate nT Nn) H (lm xs.length i F D ys te))
  (hd:∀ys H,F xs.length ys H->Q (.ref D) H):gG (ny K a) g oM te nT σ D Q H:=by
 refine ma xs.length F J (λi ys H hi p=>yI2 xs (xs[i]) #[hl i ys H (xE hi) p,by simp[hi]]) (λys H p=>#[xs,hl _ ys H (zu _) p,zu _]) (λi ys H x H' hi p O=>?_) hd;let#[rfl,y]:=O;exact S i ys _ x (y xs (hl i ys _ (xE hi) p)) hi p
theorem l_{lo:Int}{nT:Nat}{Q:VK}(F:Nat->LM->Hp->Prop)(J:F 0 [] H)
  (S:∀i ys H,i<n->F i ys H->g (.int (lo+i)) (σ++List.replicate nT Nn) H (lm n i F D ys te))
  (hd:∀ys H,F n ys H->Q (.ref D) H):gG (mO lo n) g oM te nT σ D Q H:=by
 refine ma n F J (λi ys H hi p=>hi) (λys H p=>zu _) (λi ys H x H' hi p O=>?_) hd;let#[rfl,rfl]:=O;exact S i ys _ hi p
def ua(u:TS)(D:d0)(σ : St)(H:Hp):Prop:=u D σ H
section
variable{D:d0}{σ:St}{H:Hp}{Q:VK}{B:Bool->Hp->Prop}{L:LM->Hp->Prop}{R:It->Hp->Prop}{G:St->Hp->Prop}
theorem wZ(t u:TS):xv t u D σ H=t {D with nx:=ua u D} σ H:=rfl
theorem og(u:TS):ua u D σ H=u D σ H:=rfl
theorem ut:Ey D σ H=D.nx σ H:=rfl
theorem wv(c:TT)(t u:TS):IB c t u D σ H=c σ H λb H1=>if b=true then t D σ H1 else u D σ H1:=rfl
theorem wn(t:TE):Dx t D σ H=t σ H D.rt:=rfl
theorem rL(t:TE):Eg t D σ H=t σ H λ_ H1=>D.nx σ H1:=rfl
theorem v7(t:TE)(g:TG):oT t g D σ H=t σ H λx H1=>g x σ H1 D.nx:=rfl
theorem uM(i:Nat)(v:V):iB i v σ H G=G (σ.set i (Sm v)) H:=rfl
theorem w9(vs:LM):x_ vs σ H G=(vs=[]/\G σ H):=rfl
theorem sK(t:TG)(u:gL)(vs:LM):qQ t u vs σ H G=∃v r,vs=v::r/\t v σ H λF H'=>u r F H' G:=rfl
theorem vG(K:K_)(n:Nat)(t:gL)(v:V):xS K n t v σ H G=∃a xs,v = .ref a/\su K H a xs/\xs.length=n/\t xs σ H G:=rfl
theorem wK(to ti:TE)(t:nW)(v:V):HK to ti t v σ H G=to σ H λo H1=>ti σ H1 λi H2=>t o i v H2 λF=>G σ F:=rfl
theorem vB(i:Nat):j8 i σ H Q=∃v,σ[i]?=Sm (Sm v)/\Q v H:=rfl
theorem El(v:V):tC v σ H Q=Q v H:=rfl
theorem zA(r:R2)(ta tb:TE):uE r ta tb σ H Q=ta σ H λx H1=>tb σ H1 λy H2=>r x y H2 Q:=rfl
theorem A0(r:V->Hp->VK->Prop)(ta:TE):Gb r ta σ H Q=ta σ H λx H1=>r x H1 Q:=rfl
theorem tN(t:TE):yM t σ H B=t σ H λx H'=>∃k,x = .bl k/\B k H':=rfl
theorem EC(t:TE):tB t σ H B=t σ H λx H'=>∃k,x = .bl k/\B k H':=rfl
theorem wD(t u:TT):Gh t u σ H B=t σ H λc H1=>if c=true then u σ H1 B else B false H1:=rfl
theorem Bh(t u:TT):K0 t u σ H B=t σ H λc H1=>if c=true then B true H1 else u σ H1 B:=rfl
theorem vY(t:TT):IA t σ H B=t σ H λc H1=>B (!c) H1:=rfl
theorem Ba(t:TT)(ta tb:TE):F2 t ta tb σ H Q=t σ H λc H1=>if c=true then ta σ H1 Q else tb σ H1 Q:=rfl
theorem zv(r:LM->Hp->VK->Prop)(t:TA):A9 r t σ H Q=t σ H λvs H1=>r vs H1 Q:=rfl
theorem sy(ta:TE)(F:TA):ly ta F σ H L=ta σ H λx H1=>F σ H1 λxs H2=>L (x::xs) H2:=rfl
theorem wX:xD σ H L=L [] H:=rfl
theorem vU(t:TA):Bx t σ H Q=t σ H λxs H1=>xs.length<=L_/\∀p,H1 p=Nn->Q (.ref p) (upd H1 p (.tup xs)):=rfl
theorem wO(t:TA):Jb t σ H Q=t σ H λxs H1=>xs.length<=L_/\∀p,H1 p=Nn->Q (.ref p) (upd H1 p (.lst xs)):=rfl
theorem ux(sp:Sp)(dvs:LM)(E:XK)(t:TA):qK sp dvs E t σ H Q=t σ H λvs H1=>sp (vs++dvs) H1 Q E:=rfl
theorem Bj(K:K_)(T:String)(r:V->LM->Hp->VK->Prop)(to:TE)(t:TA):F5 K T r to t σ H Q=to σ H λx H1=>uA K T x H1/\t σ H1 λxs H2=>r x xs H2 Q:=rfl
theorem v3(K:K_)(T:String)(r:V->LM->Hp->VK->Prop)(to:TE):Dr K T r to σ H Q=to σ H λx H1=>uA K T x H1/\r x [] H1 Q:=rfl
theorem zK(r:V->LQ->LQ->Hp->VK->Prop)(te:TE)(tl th:TO):GC r te tl th σ H Q=te σ H λx H1=>tl σ H1 λl H2=>th σ H2 λu F=>r x l u F Q:=rfl
theorem r_(t:TE)(O:LQ->Hp->Prop):yW t σ H O=t σ H λx H1=>∃i,x = .int i/\O (Sm i) H1:=rfl
theorem nH(O:LQ->Hp->Prop):nV σ H O=O Nn H:=rfl
theorem t0(wi:TI)(g:TG)(tc:TT)(te:TE)(nT:Nat):xk wi g tc te nT σ H Q=wi σ H λJ H1=>∀D,H1 D=Nn->gG J g tc te nT σ D Q (upd H1 D (.lst [])):=rfl
theorem v1:oM σ H B=B true H:=rfl
theorem u0(K:K_)(tl:TE):xC K tl σ H R=tl σ H λx H1=>∃a,x = .ref a/\(∃xs,ud K H1 a xs)/\R (ny K a) H1:=rfl
theorem uk(ta:TA):Et ta σ H R=ta σ H λvs H1=>∃j:Int,vs=[.int j]/\-(2^62)<=j/\j<2^62/\R (mO 0 j.toNat) H1:=rfl
theorem z9(g:Int->Int->V)(i j:Int):lQ g (.int i) (.int j) H Q=Q (g i j) H:=propext #[λ⟨_,_,F,J,q⟩=>by cases F;cases J;exact q,λq=>yI2 i j #[rfl,rfl,q]]
theorem Ei(C:Int->Int->Prop)(g:Int->Int->V)(i j:Int):rI C g (.int i) (.int j) H Q=(C i j/\Q (g i j) H):=propext #[λ⟨_,_,F,J,q⟩=>by cases F;cases J;exact q,λq=>yI2 i j #[rfl,rfl,q]]
end
structure xn (K:K_) (mg:Str->LO) (x:Str) (st:L6):Prop where
 ex:∃f fd,Jn K x x st f fd/\mg x=Sm (.ref f)
structure aH (P:Lw) (w:Lu) (K:K_) (mg:Str->LO) (base:Lv) (k:Nat) (x:Str) (ps:LI) (sp:Sp):Prop where
 ex:∃f fd,GG P w K mg base kR k f fd ps sp/\Binds K fd ps []/\Nl K (.ref f)=true/\mg x=Sm (.ref f)
section
variable{P:Lw}{w:Lu}{K:K_}{mg:Str->LO}{base:Lv}
theorem xn.cal{N:LI}{k:Nat}{sp:Sp}(D:xn K mg x st)(S:aE N ps (rd st))
  (O:∀(f:so) (J:KE) (A:Mc) (outer:List Env) (s:F_) (H:Hp) (vs:LM) (Q:VK) (E:XK),Cm k (A.deeper (envOfC x (rd st) s.heap.objs.size f J))->sp vs H Q E->
   ∃t,Hq (kH kR P w K mg base N x (rd st) f J A outer s H E).nox (Cs st) t/\t {nx:=λ_ H'=>Q .non H',rt:=Q} (start N vs) H) (hb:∀(kV Y pm:KE) (an:LZ) (J ct:KE) (U:LN),U.length=ps.length->bindArgs (M3 x x (Da st) (Cs st) (rd st) .none kV Y pm an J ct) ⟨U,[]⟩=pure (ps.zip U):=by walk_at "z") (len:∀vs H Q E,sp vs H Q E->vs.length=ps.length:=by walk_at "v"):aH P w K mg base (k+1) x ps sp:=by
 refine yE2 D.ex λf fd=>yB2 λF m=>?_;exact#[f,fd,F.ok S len λJ A outer s H vs Q E Z h=>O f J A outer s H vs Q E Z h,F.binds hb,F.kp,m]
end
section
variable{X:Cx}
theorem ax{j k:Nat}{sp:Sp}{p:Pos}{t:TA}(c:aH X.prog X.w X.K X.mg X.base j x ps sp)(O:Cm k X.A)(J:PA X (e::es) t)(hle:j<=k:=by decide)(hg:Gl X x:=by first | exact vGg ⋯ | rfl | exact mP _ ⋯)
  (hdb:(x==("__debug__" : Str))=false:=by decide) (he:Mh (e::es) X.env=(false,eval e X.env)::Mh es X.env:=by rfl) (hpl:(backTo pos (Mh es X.env)).any (·.1)=false:=by rfl) :
  PE X (.Call (.Name x p) (e::es) [] pos) (qK sp [] E0 t):=by
 refine yE2 c.ex λf fd=>yB4 λF b kp m=>?_;exact FU F (O.mono hle) hg m kp b .nil D5 J hdb he hpl
theorem uT{T:String}(F:X.mg x=Nn)(hv:Mz x=Sm (.type T))(hg:Gl X x:=by first | exact vGg ⋯ | rfl)(hn:x ≠ "__name__" := by decide) (hd:(x==("__debug__" : Str))=false:=by decide):PE X (.Name x pos) (tC (.ty T)):=
 Fi hg F hv rfl hn hd
theorem br{p:Pos}{t:TA}{id:String}{r:LM->Hp->VK->Prop}(O:B3 X (.builtin id) r)(J:X.mg x=Nn)(hv:Mz x=Sm (.builtin id))(F:PA X (e::es) t)(hg:Gl X x:=by first | exact vGg ⋯ | rfl | exact mP _ ⋯)
  (hn:x ≠ "__name__" := by decide) (hdb:(x==("__debug__" : Str))=false:=by decide) (he:Mh (e::es) X.env=(false,eval e X.env)::Mh es X.env:=by rfl) (hpl:(backTo pos (Mh es X.env)).any (·.1)=false:=by rfl) :
  PE X (.Call (.Name x p) (e::es) [] pos) (A9 r t):=CL O hg J hv F hn hdb he hpl
theorem fS{p:Pos}{t:TA}{T:String}{r:LM->Hp->VK->Prop}(O:B3 X (.type T) r)(J:X.mg x=Nn)(hv:Mz x=Sm (.type T))(F:PA X (e::es) t)(hg:Gl X x:=by first | exact vGg ⋯ | rfl | exact mP _ ⋯)
  (hn:x ≠ "__name__" := by decide) (hdb:(x==("__debug__" : Str))=false:=by decide) (he:Mh (e::es) X.env=(false,eval e X.env)::Mh es X.env:=by rfl) (hpl:(backTo pos (Mh es X.env)).any (·.1)=false:=by rfl) :
  PE X (.Call (.Name x p) (e::es) [] pos) (A9 r t):=Au O hg J hv F hn hdb he hpl
end
section
variable{X:Cx}
def qG:R2:=λx y H Q=>match x,y with
 | .int i,.int j=>Q (.int (i+j)) H
 | .str a,.str b=>a.length+b.length<=L_/\Q (.str (a++b)) H
 | .ref l,.ref b=>∃xs zs,H l=Sm (.lst xs)/\H b=Sm (.lst zs)/\xs.length+zs.length<=L_/\∀p,H p=Nn->Q (.ref p) (upd H p (.lst (xs++zs)))
 | _,_=>False
theorem aF:Ge X (binaryOp .Add) qG:=by
 intro pins s σ H x y v u Q I F J h;cases x<;>cases y<;>first
  | exact(show False from h).elim
  | exact IY pins s σ H _ _ v u Q I F J (yI2 _ _ ⟨rfl,rfl,h⟩)
  | exact zf pins s σ H _ _ v u Q I F J (yI2 _ _ ⟨rfl,rfl,h⟩)
  | (revert h;refine yF2 λxs zs=>yB4 λh1 h2 O S=>?_;exact IM pins s σ H _ _ v u Q I F J (yI4 _ _ xs zs #[rfl,rfl,h1,h2,O,S]))
def BE:R2:=λx y H Q=>match x,y with
 | .int i,.int j=>Q (.bl (decide (i<j))) H
 | .str i,.str j=>Q (.bl (decide (i.cps.toList<j.cps.toList))) H
 | _,_=>False
theorem rX:Ge X (Mq .Lt) BE:=by
 intro pins s σ H x y v u Q I F J h;cases x<;>cases y<;>first
  | exact(show False from h).elim
  | exact JZ pins s σ H _ _ v u Q I F J (yI2 _ _ ⟨rfl,rfl,h⟩)
  | exact Am pins s σ H _ _ v u Q I F J (yI2 _ _ ⟨rfl,rfl,h⟩)
def ym(K:K_):R2:=λx y H Q=>match x,y with
 | .str i,.str j=>Q (.bl (!(NJ j i 0 j.length 1).isEmpty)) H
 | x,.ref p=>∃xs,(ud K H p xs\/su K H p xs)/\cW x=true/\xs.all cW=true/\Q (.bl (iQ x xs)) H
 | _,_=>False
theorem JM:Ge X (Mq .In) (ym X.K):=by
 intro pins s σ H x y v u Q I F J h;cases y with
 | str j=>
  cases x with
  | str i=>exact zo pins s σ H _ _ v u Q I F J (yI2 i j #[rfl,rfl,h])
  | _=>exact(show False from h).elim
 | ref p=>
  have h':∃xs,(ud X.K H p xs\/su X.K H p xs)/\cW x=true/\xs.all cW=true/\Q (.bl (iQ x xs)) H:=by cases x<;>exact h
  revert h';refine yF1 λxs=>yB4 λh1 h2 O S=>?_;exact Af pins s σ H _ _ v u Q I F J (yI2 p xs #[rfl,h1,h2,O,S])
 | _=>cases x<;>exact(show False from h).elim
def lH(K:K_):R2:=λx y H Q=>match x,y with
 | .str i,.str j=>Q (.bl (!(!(NJ j i 0 j.length 1).isEmpty))) H
 | x,.ref p=>∃xs,(ud K H p xs\/su K H p xs)/\cW x=true/\xs.all cW=true/\Q (.bl (!iQ x xs)) H
 | _,_=>False
theorem zC:Ge X (Mq .NotIn) (lH X.K):=by
 intro pins s σ H x y v u Q I F J h;cases y with
 | str j=>
  cases x with
  | str i=>exact uL pins s σ H _ _ v u Q I F J (yI2 i j #[rfl,rfl,h])
  | _=>exact(show False from h).elim
 | ref p=>
  have h':∃xs,(ud X.K H p xs\/su X.K H p xs)/\cW x=true/\xs.all cW=true/\Q (.bl (!iQ x xs)) H:=by cases x<;>exact h
  revert h';refine yF1 λxs=>yB4 λh1 h2 O S=>?_;exact rc pins s σ H _ _ v u Q I F J (yI2 p xs #[rfl,h1,h2,O,S])
 | _=>cases x<;>exact(show False from h).elim
def qS(K:K_):LM->Hp->VK->Prop:=λxs H Q=>match xs with
 | [.str z]=>z.length<=L_/\Q (.int z.length) H
 | [.ref p]=>∃ys,(ud K H p ys\/su K H p ys)/\Q (.int ys.length) H
 | _=>False
theorem AF:B3 X (.builtin "len") (qS X.K):=by
 intro pins s σ H xs F Q I r h;cases xs with
 | nil=>exact(show False from h).elim
 | cons x xs=>
  cases xs with
  | nil=>
   cases x with
   | str z=>exact sY pins s σ H _ F Q I r #[z,rfl,h]
   | ref p=>
    let#[ys,h1,h2]:=h;exact sV pins s σ H _ F Q I r (yI2 p ys #[rfl,h1,h2])
   | _=>exact(show False from h).elim
  | cons y ys=>cases x<;>exact(show False from h).elim
def rE(K:K_):R2:=λx y H Q=>match x,y with
 | .ref p,.int i=>∃xs v,(ud K H p xs\/su K H p xs)/\cM xs i=Sm v/\Q v H
 | .str z,.int i=>∃c,z.length<=L_/\cM z.cps.toList i=Sm c/\Q (.str #[#v[c]]) H
 | _,_=>False
theorem LU:Hw X (rE X.K):=by
 intro value F pins s σ H x y v u Q I W U h S;refine Gr value F pins s σ H x y v u Q I W U ?_ S;cases x with
 | ref p=>
  cases y with
  | int i=>
   revert h;refine yF2 λxs O=>yB3 λh1 h2 J=>?_;rcases h1 with h1 | h1
   .exact .inl (yI4 p xs i O #[rfl,rfl,h1,h2,J])
   .exact .inr (.inl (yI4 p xs i O #[rfl,rfl,h1,h2,J]))
  | _=>exact(show False from h).elim
 | str z=>
  cases y with
  | int i=>
   revert h;refine yF1 λc=>yB3 λh1 h2 J=>?_;exact .inr (.inr (yI3 z i c #[rfl,rfl,h1,h2,J]))
  | _=>exact(show False from h).elim
 | _=>exact(show False from h).elim
end
section
variable{K:K_}{H:Hp}{Q:VK}
theorem pZ(i j:Int):qG (.int i) (.int j) H Q=Q (.int (i+j)) H:=rfl
theorem pU(a b:Str):qG (.str a) (.str b) H Q=(a.length+b.length<=L_/\Q (.str (a++b)) H):=rfl
theorem kP(l b:so):qG (.ref l) (.ref b) H Q=∃xs zs,H l=Sm (.lst xs)/\H b=Sm (.lst zs)/\xs.length+zs.length<=L_/\∀p,H p=Nn->Q (.ref p) (upd H p (.lst (xs++zs))):=rfl
theorem uI(i j:Int):BE (.int i) (.int j) H Q=Q (.bl (decide (i<j))) H:=rfl
theorem uU(i j:Str):BE (.str i) (.str j) H Q=Q (.bl (decide (i.cps.toList<j.cps.toList))) H:=rfl
theorem qV(i j:Str):ym K (.str i) (.str j) H Q=Q (.bl (!(NJ j i 0 j.length 1).isEmpty)) H:=rfl
theorem ur(x:V)(p:so):ym K x (.ref p) H Q=∃xs,(ud K H p xs\/su K H p xs)/\cW x=true/\xs.all cW=true/\Q (.bl (iQ x xs)) H:=by cases x<;>rfl
theorem lX(i j:Str):lH K (.str i) (.str j) H Q=Q (.bl (!(!(NJ j i 0 j.length 1).isEmpty))) H:=rfl
theorem lY(x:V)(p:so):lH K x (.ref p) H Q=∃xs,(ud K H p xs\/su K H p xs)/\cW x=true/\xs.all cW=true/\Q (.bl (!iQ x xs)) H:=by cases x<;>rfl
theorem pE(z:Str):qS K [.str z] H Q=(z.length<=L_/\Q (.int z.length) H):=rfl
theorem qg(p:so):qS K [.ref p] H Q=∃ys,(ud K H p ys\/su K H p ys)/\Q (.int ys.length) H:=rfl
theorem rJ(p:so)(i:Int):rE K (.ref p) (.int i) H Q=∃xs v,(ud K H p xs\/su K H p xs)/\cM xs i=Sm v/\Q v H:=rfl
theorem tT(z:Str)(i:Int):rE K (.str z) (.int i) H Q=∃c,z.length<=L_/\cM z.cps.toList i=Sm c/\Q (.str #[#v[c]]) H:=rfl
theorem rA(p:so)(k:Int)(v:V)(G:Hp->Prop):xf (.ref p) (.int k) v H G=∃xs j,H p=Sm (.lst xs)/\ku xs.length k=Sm j/\G (upd H p (.lst (xs.set j v))):=
 propext #[λ⟨_,xs,_,j,F,J,q⟩=>by cases F;cases J;exact yI2 xs j q,λ⟨xs,j,q⟩=>yI4 p xs k j #[rfl,rfl,q]]
theorem nM(p:so)(y:V):n_ (.ref p) [y] H Q=∃xs,H p=Sm (.lst xs)/\xs.length<L_/\Q .non (upd H p (.lst (xs++[y]))):=
 propext #[λ⟨_,xs,_,F,J,q⟩=>by cases F;cases J;exact#[xs,q],λ⟨xs,q⟩=>yI3 p xs y #[rfl,rfl,q]]
theorem ul(F:Str)(p:so):y6 K (.str F) [.ref p] H Q=∃J,ud K H p (J.map V.str)/\(J.map (·.length)).sum+J.length*F.length<=16777216/\Q (.str (Mj F J)) H:=
 propext #[λ⟨_,_,J,S,O,q⟩=>by cases S;cases O;exact#[J,q],λ⟨J,q⟩=>yI3 F p J #[rfl,rfl,q]]
theorem wC(y:Str):uA K "str" (.str y) H=True:=eq_true rfl
theorem v6(p:so):(uA K "list" (.ref p) H)=∃xs,ud K H p xs:=by
 refine propext #[λh=>?_,λh=>.inl #[rfl,h]];rcases h with ⟨_,h⟩ | ⟨h,_⟩ | ⟨h,_⟩ | ⟨h,_⟩
 .exact h
 .exact absurd h ∅
 .exact absurd h ∅
 .exact absurd h ∅
end
theorem bG:Mz "len" = Sm (.builtin "len"):=⋯
theorem iw:Mz "isinstance" = Sm (.builtin "isinstance"):=⋯
theorem jg:Mz "sorted" = Sm (.builtin "sorted"):=⋯
theorem Ir:Mz "str" = Sm (.type "str"):=⋯
theorem rR:Mz "int" = Sm (.type "int"):=⋯
theorem oE:Mz "list" = Sm (.type "list"):=⋯
theorem mh:Mz "tuple" = Sm (.type "tuple"):=⋯
theorem av(i:Nat){pos pos':Pos}(F:X.N.Nodup)(J:PE X e te)(hi:X.N[i]?=Sm x:=by rfl)(hx:aK X.env.scope x:=by first | exact vLl ⋯ | exact Or.inl rfl)(hs:swapsWith e (Sm (.Name x pos')) pos.line X.env=pure false:=by rfl)
  (hf:X.fn x=true\/X.env.scope.names.lookup x=Sm .local:=by first | exact .inl rfl | exact .inr rfl | assumption):PS X (.Assign [.Name x pos'] e pos) (oT te (iB i)):=Hg F hi hx J hs hf
theorem aV(i:Nat)(F:X.N.Nodup)(hi:X.N[i]?=Sm x:=by rfl)(hx:aK X.env.scope x:=by first | exact vLl ⋯ | exact Or.inl rfl | exact f6 _ ⋯)
  (hf:X.fn x=true\/X.env.scope.names.lookup x=Sm .local:=by first | exact .inl rfl | exact .inr rfl | assumption | exact i_ _ ⋯):PG X (.Name x pos) (iB i):=FR F hi hx hf
structure C5 (fsc:Scope) (N N0 T:LI) (scope:Scope):Prop where
 kind:scope.kind = .function
 nocell:∀y∈scope.names,y.2 ≠ .cell
 names:∀y∈scope.names,y.2 = .local->scope.names.lookup y.1=Sm .local
 free:∀y∈scope.names,y.2 = .free->fsc.names.lookup y.1=Sm .cell\/fsc.names.lookup y.1=Sm .free
 apart:∀y∈scope.names,y.2 = .local->y.1∉N0
 len0:N0.length=N.length
 same:((N0.zip N).all λp=>p.1==p.2 || !(scope.names.any λy=>y.1==p.1))=true
theorem C5.to{fsc:Scope}{N N0 T:LI}{scope:Scope}(S:C5 fsc N N0 T scope:=by constructor<;>decide +kernel)(h1:X.env.scope=fsc:=by rfl)(h2:X.N=N:=by rfl):jf X N0 T scope:=by
 subst h1 h2;refine#[S.kind,S.nocell,S.names,S.free,S.apart,S.len0,λi x k e m=>?_];have hl:=S.len0;have hi:i<N0.length:=(KO.mp e).1;have F:X.N[i]?=Sm X.N[i]:=zg ();have hz:(x,X.N[i])∈N0.zip X.N:=me (i:=i) (by rw[List.getElem?_zip_eq_some];exact#[e,F]);have q:=List.all_eq_true.mp S.same _ hz;simp only[Bool.or_eq_true,beq_iff_eq,Bool.not_eq_true']at q;rcases q with q | q
 .rw[F,<-q]
 .have:(scope.names.any λy=>y.1==x)=true:=List.any_eq_true.mpr #[_,m,'~'];rw[this]at q;cases q
def Bo:R2:=KF
def C7:R2:=K4
theorem aM:Ge X (Mq .Eq) Bo:=J_
theorem rH:Ge X (Mq .NotEq) C7:=Kc
section
variable{K:K_}{H:Hp}{Q:VK}
theorem sf(i j:Int):Bo (.int i) (.int j) H Q=Q (.bl (decide (i=j))) H:=by
 have e:decide (V.int i=V.int j)=decide (i=j):=by by_cases h:i=j<;>simp[h]
 show (oW (.int i) (.int j)=true/\Q (.bl (decide (V.int i=V.int j))) H)=_;rw[e];exact propext #[λh=>h.2,λh=>#[rfl,h]]
theorem ub(i j:Str):Bo (.str i) (.str j) H Q=Q (.bl (decide (i=j))) H:=by
 have e:decide (V.str i=V.str j)=decide (i=j):=by by_cases h:i=j<;>simp[h]
 show (oW (.str i) (.str j)=true/\Q (.bl (decide (V.str i=V.str j))) H)=_;rw[e];exact propext #[λh=>h.2,λh=>#[rfl,h]]
theorem uO(i j:Int):C7 (.int i) (.int j) H Q=Q (.bl (!decide (i=j))) H:=by
 have e:decide (V.int i=V.int j)=decide (i=j):=by by_cases h:i=j<;>simp[h]
 show (oW (.int i) (.int j)=true/\Q (.bl (!decide (V.int i=V.int j))) H)=_;rw[e];exact propext #[λh=>h.2,λh=>#[rfl,h]]
theorem uo(i j:Str):C7 (.str i) (.str j) H Q=Q (.bl (!decide (i=j))) H:=by
 have e:decide (V.str i=V.str j)=decide (i=j):=by by_cases h:i=j<;>simp[h]
 show (oW (.str i) (.str j)=true/\Q (.bl (!decide (V.str i=V.str j))) H)=_;rw[e];exact propext #[λh=>h.2,λh=>#[rfl,h]]
end
theorem Ki:HR X xf:=BX
section
variable{X:Cx}(K:K_)
theorem um(F:X.K=K:=by rfl):Ge X (Mq .In) (ym K):=F ▸ JM
theorem im(F:X.K=K:=by rfl):Ge X (Mq .NotIn) (lH K):=F ▸ zC
theorem aU(F:X.K=K:=by rfl):B3 X (.builtin "len") (qS K):=F ▸ AF
theorem au(F:X.K=K:=by rfl):Hw X (rE K):=F ▸ LU
theorem si(F:X.K=K:=by rfl):Hr X "str.join" (y6 K):=F ▸ FA
theorem Cf(F:X.K=K:=by rfl):Do X (CK K):=F ▸ FI
theorem bJ{tg l:Expr}{tl:TE}(hl:PE X l tl)(F:X.K=K:=by rfl):PI X tg l (xC K tl):=F ▸ Ff hl
theorem iM{k:Nat}{t:gL}(h:JD X es t)(F:(assignEach es X.env).length=n:=by rfl)(hst:(assignEach es X.env).findIdx? (·.1)=Nn:=by rfl)(hK:X.K=K:=by rfl)(hc:X.calm=true:=by rfl):PG X (.Tuple es k pos) (xS K n t):=hK ▸ Je hc h F hst
theorem bB{o:Expr}{to:TE}{t:TA}{name:Str}{apos cpos:Pos}{T id:String}{r:V->LM->Hp->VK->Prop}(O:PlainAttrs T)(slot:Slot T name id)(J:typeOf (.builtin id)=pure (.type "method_descriptor")) (S:Hr X id r) (W:PE X o to) (U:PA X (e::es) t)
  (F:attributeBase o name X.env (eval o X.env)=eval o X.env:=by rfl)
  (hfew:((backTo cpos (Mh (e::es) X.env)).all (λx=>!x.1)&&(backToKw cpos (keywordEach [] X.env)).all (λx=>x.1.isSome)&&decide ((e::es).length+([]:List Keyword).length+(if ([]:List Keyword).isEmpty then 0 else 1)<30))=true:=by rfl)
  (hline:(apos.endLine==cpos.line)=true:=by rfl) (hs:Mh (e::es) X.env=(false,eval e X.env)::Mh es X.env:=by rfl) (hplain:(backTo cpos (Mh es X.env)).any (·.1)=false:=by rfl) (hK:X.K=K:=by rfl) :
  PE X (.Call (.Attribute o name apos) (e::es) [] cpos) (F5 K T r to t):=hK ▸ Km O slot J S W U F hfew hline hs hplain
theorem u9(F:X.K=K:=by rfl):B3 X (.type "tuple") (λxs H Q=>∃p ys,xs=[.ref p]/\((ud K H p ys/\∀l,H l=Nn->Q (.ref l) (upd H l (.tup ys)))\/(su K H p ys/\Q (.ref p) H))):=F ▸ qz
end
theorem zY(n:Int)(P:Int->Prop):(∃j,[V.int n]=[V.int j]/\P j)=P n:=propext #[λ⟨_,e,h⟩=>by cases e;exact h,λh=>#[n,rfl,h]]
theorem v4(x:V)(xs:LM)(P:V->LM->Prop):(∃v r,x::xs=v::r/\P v r)=P x xs:=propext #[λ⟨_,_,e,h⟩=>by cases e;exact h,λh=>yI2 x xs #[rfl,h]]
noncomputable def gW(scope fsc:Scope):Scope:={scope with names:=scope.names.map λ(n,k)=>if (k == .free&&fsc.kind == .function&&fsc.names.lookup n==Sm .cell) then (n,.cell) else (n,k)}
section
variable{X:Cx}{N0 T:LI}{scope:Scope}{C:so}{fp:LL}{s:F_}{H:Hp}{x:Str}
theorem mP(fsc:Scope)(h:(gW scope fsc).names.lookup x=Sm .globalImplicit)(e:X.env.scope=fsc:=by rfl):Gl (b_ X N0 T scope C fp s H) x:=by subst e;exact h
theorem cJ(fsc:Scope)(h:((gW scope fsc).names.lookup x=Sm .local||(gW scope fsc).names.lookup x=Sm .cell||(gW scope fsc).names.lookup x=Sm .free)=true)(e:X.env.scope=fsc:=by rfl):ap (b_ X N0 T scope C fp s H).env.scope x:=by
 subst e;simp only[Bool.or_eq_true,decide_eq_true_eq]at h;rcases h with (h | h) | h
 .exact .inl h
 .exact .inr (.inl h)
 .exact .inr (.inr h)
theorem f6(fsc:Scope)(h:(gW scope fsc).names.lookup x=Sm .local)(e:X.env.scope=fsc:=by rfl):aK (b_ X N0 T scope C fp s H).env.scope x:=by subst e;exact .inl h
theorem i_(fsc:Scope)(h:(gW scope fsc).names.lookup x=Sm .local)(e:X.env.scope=fsc:=by rfl):(b_ X N0 T scope C fp s H).fn x=true\/(b_ X N0 T scope C fp s H).env.scope.names.lookup x=Sm .local:=by subst e;exact .inr h
end
theorem bw:Hr X "list.append" n_:=pB
theorem PW.pt'{t:TT}(h:PW X e t):PT X e t:=h.pt
theorem dX{t u:TS}{D:d0}(I:St->Hp->Prop)(h:∀k:St->Hp->Prop,(∀σ' H',I σ' H'->k σ' H')->t {D with nx:=k} σ H)(hu:∀σ' H',I σ' H'->ua u D σ' H'):ua (xv t u) D σ H:=h _ hu
theorem nN{Q:List (V×V)->Hp->Prop}:kE [] σ H Q=Q [] H:=rfl
theorem lS{Q:List (V×V)->Hp->Prop}(F tv:TE)(r:List (TE×TE)):kE ((F,tv)::r) σ H Q=F σ H λx H1=>tv σ H1 λy H2=>kE r σ H2 λps J=>Q ((x,y)::ps) J:=rfl
theorem sg.upd{H':Hp}{p:so}(sm:sg H H')(h:H p=Nn)(o:HO):sg H (upd H' p o):=λb u q=>by rw[aw (a_ q h)];exact sm b u q
theorem ak{p:so}(h:H p=Nn)(o:HO):sg H (upd H p o):=λb u q=>by rw[aw (a_ q h)];exact q
end L2
namespace L2
open PySem PySem.Spec PyProof.Rows PySem.SeqAt
variable{α:Type}
theorem Bm{y:Str}:∀ {l:LI} {j:Nat},j<l.idxOf y->∀(h:j<l.length),l[j]≠y
 | n::r,0,h,_=>by
  intro e;have F:n=y:=e;subst F;simp at h
 | n::r,j+1,h,h2=>by
  by_cases e:n=y
  .subst e;simp at h
  .rw[List.idxOf_cons]at h;have J:(n==y)=false:=beq_eq_false_iff_ne.mpr e;rw[J]at h;have h':j+1<r.idxOf y+1:=h;have q:=Bm (y:=y) (l:=r) (j:=j) () (by simpa using h2);simpa using q
section
variable{X:Cx}
def vK(K:K_):V->LM->Hp->VK->Prop:=λx vs H Q=>∃(p:so) (ss:LI) (y:Str),x = .ref p/\vs=[.str y]/\ud K H p (ss.map V.str)/\y∈ss/\Q (.int (ss.idxOf y:Nat)) H
theorem nv{K:K_}{H:Hp}{Q:VK}(p:so)(y:Str):vK K (.ref p) [.str y] H Q=∃F:LI,ud K H p (F.map V.str)/\y∈F/\Q (.int (F.idxOf y:Nat)) H:=
 propext #[λ⟨_,F,_,J,O,q⟩=>by cases J;cases O;exact#[F,q],λ⟨F,q⟩=>yI3 p F y #[rfl,rfl,q]]
theorem qh(K:K_)(hK:X.K=K:=by rfl):Hr X "list.index" (vK K):=by
 subst hK;intro pins s σ H x xs v us Q I rx r h;revert h;refine yF3 λp O y=>yB5 ?_;rintro rfl rfl hq hy q;cases rx;let#[u,rfl,ru]:=dv r;let#[t,rfl]:=ru;refine yE1 (I.list hq) λJ=>yB3 λrv pl hz=>?_;have U:J.length=O.length:=by rw[<-rv.length,ze]
 rw[ze]at hz;have hs:L_=16777216:=M2;refine yE1 pl.isList ?_;rintro ⟨cls,dd,data,sl⟩;refine yB3 λho hc=>yF1 λn hd=>?_;simp only at hc hd;subst hc hd;have hj:O.idxOf y<O.length:=Ln.mpr hy;have S:∀(i:Nat) (h:i<J.length),∃t',J[i] = .str O[i] t':=λi h=>by
  let#[x,hx,rx]:=rv.of (i:=i) (u:=J[i]) (zg h);rw[yf,zg ()]at hx;have ad:V.str O[i]=x:=Option.some.inj hx;subst ad;exact rx
 refine call_meets zbs #[_,ho,rfl] F.entry_list_index (F.args_list_index_2 _ _)
  (list_indexAt p J.toArray n dd sl (.str y t) (gM (.str y)) (O.idxOf y) (by simpa [U] using hj) () ?_ ?_) #[ho,λz hz=>?_,yI2 (.int _) H #[I.tok _,#[_,rfl],q]]
 .show gM (.str y) J[O.idxOf y]=true;let#[t',e]:=S (O.idxOf y) ();rw[e];show (O[O.idxOf y]==y)=true;rw[List.getElem_idxOf hj];simp
 .intro j ab Z;have ac:j<J.length:=by simpa using ab
  show gM (.str y) J[j]=false;let#[t',e]:=S j ac;rw[e];show (O[j]==y)=false;exact beq_eq_false_iff_ne.mpr (Bm Z _)
 .have Y:z∈J:=by simpa using hz
  let#[i,hi,rfl]:=Le.mp Y;let#[t',e]:=S i hi;have q':=tU (A:=X.A.in1) (s:=s) (y:=.str O[i]) (x:=.str y) (u:=J[i]) (v:=.str y t) #[t',e] #[t,rfl] rfl rfl;rw[e];rw[e]at q';exact q'
end
section
variable{X:Cx}
def By:R2:=λx y H Q=>y = .non/\Q (.bl (decide (x = .non))) H
def EB:R2:=λx y H Q=>y = .non/\Q (.bl (!decide (x = .non))) H
theorem jH:Ge X (Mq .Is) By:=IN
theorem mH:Ge X (Mq .IsNot) EB:=Fa
def Ex:LM->Hp->VK->Prop:=λxs H Q=>(∃i,xs=[.int i]/\Q (.int i) H)\/∃k,xs=[.bl k]/\Q (.int (if k then 1 else 0)) H
theorem kG:B3 X (.type "int") Ex:=zI
def AZ(K:K_):LM->Hp->VK->Prop:=λxs H Q=>∃p ys,xs=[.ref p]/\((ud K H p ys/\∀l,H l=Nn->Q (.ref l) (upd H l (.tup ys)))\/(su K H p ys/\Q (.ref p) H))
theorem pF(K:K_)(F:X.K=K:=by rfl):B3 X (.type "tuple") (AZ K):=u9 K F
def xI:R2:=λx y H Q=>match x,y with
 | .int i,.int j=>Io i j/\Q (.int (i*j)) H
 | .str z,.int n=>0<=n/\n<=4096/\z.length<=4096/\Q (.str (Txt.mul z n)) H
 | _,_=>False
theorem fE:Ge X (binaryOp .Mult) xI:=by
 intro pins s σ H x y v u Q I F J h;cases x with
 | int i=>
  cases y with
  | int j=>exact G3 pins s σ H _ _ v u Q I F J (yI2 _ _ #[rfl,rfl,h])
  | _=>exact(show False from h).elim
 | str z=>
  cases y with
  | int n=>
   let#[t,rfl]:=F;let#[t',rfl]:=J;revert h;refine yB4 λO h1 h2 q=>?_;exact SB.mul (mulOk_of 4096 4096 h2 () () ∅ ∅) λt' k=>yI2 (.str (Txt.mul z n)) H #[I.tok k,#[t',rfl],q]
  | _=>exact(show False from h).elim
 | _=>exact(show False from h).elim
end
section
variable{K:K_}{H:Hp}{Q:VK}
theorem wY(x:V):By x .non H Q=Q (.bl (decide (x = .non))) H:=propext #[λh=>h.2,λh=>#[rfl,h]]
theorem tm(x:V):EB x .non H Q=Q (.bl (!decide (x = .non))) H:=propext #[λh=>h.2,λh=>#[rfl,h]]
theorem rO(k:Bool):Ex [.bl k] H Q=Q (.int (if k then 1 else 0)) H:=propext #[λh=>by rcases h with ⟨_,e,q⟩ | ⟨_,e,q⟩<;>cases e;exact q,λq=>.inr #[k,rfl,q]]
theorem ph(p:so):AZ K [.ref p] H Q=∃ys,((ud K H p ys/\∀l,H l=Nn->Q (.ref l) (upd H l (.tup ys)))\/(su K H p ys/\Q (.ref p) H)):=propext #[λ⟨_,ys,e,q⟩=>by cases e;exact#[ys,q],λ⟨ys,q⟩=>yI2 p ys #[rfl,q]]
theorem pS(i j:Int):xI (.int i) (.int j) H Q=(Io i j/\Q (.int (i*j)) H):=rfl
theorem qr(z:Str)(n:Int):xI (.str z) (.int n) H Q=(0<=n/\n<=4096/\z.length<=4096/\Q (.str (Txt.mul z n)) H):=rfl
theorem vQ(a:so)(lo hi:LQ):CK K (.ref a) lo hi H Q=∃xs,ud K H a xs/\∀p,H p=Nn->Q (.ref p) (upd H p (.lst (dO xs lo hi))):=propext #[λ⟨_,xs,e,q⟩=>by cases e;exact#[xs,q],λ⟨xs,q⟩=>yI2 a xs #[rfl,q]]
theorem ED(g:Int->V)(i:Int):rU g (.int i) H Q=Q (g i) H:=propext #[λ⟨_,e,q⟩=>by cases e;exact q,λq=>#[i,rfl,q]]
end
theorem cI{n:Nat}(h:n<=1000000):n<L_:=by
 have:L_=16777216:=M2;lia
theorem aJ{n:Nat}(h:n<=1000000):n<=L_:=xE (cI h)
theorem nI{f:α->V}{xs:List α}{i:Int}{x:α}(J:0<=i)(h:xs[i.toNat]?=Sm x):cM (xs.map f) i=Sm (f x):=by
 have q:(xs.map f)[i.toNat]?=Sm (f x):=by rw[yf,h];rfl
 have F:=ao q
 rwa [show ((i.toNat:Nat):Int)=i from ()]at F
theorem IG{xs:List α}{i:Int}(J:0<=i)(h:i<xs.length):∃x,xs[i.toNat]?=Sm x/\cM xs i=Sm x:=by
 have F:i.toNat<xs.length:=()
 refine#[xs[i.toNat],zg F,?_];have q:=ao (zg F)
 rwa [show ((i.toNat:Nat):Int)=i from ()]at q
theorem FY{H H':Hp}{p:so}{o:HO}(h:upd H p o=H')(F:H p=Nn):sg H H':=h ▸ ak F o
theorem Kh{H H':Hp}{p:so}{o:HO}(h:upd H p o=H'):H' p=Sm o:=h ▸ ai
theorem rF{β: Type}{f:α->β}(xs:List α)(x:α):xs.map f++[f x]=(xs++[x]).map f:=by rw[yH];rfl
theorem j5{P:α->Prop}{xs:List α}{x:α}(h:∀y∈xs,P y)(hx:P x):∀y∈xs++[x],P y:=λy F=>(K8.mp F).elim (h y) λz=>by rw[KU.mp z];exact hx
theorem mq{xs:List α}{x:α}{n:Nat}(h:xs.length=n):(xs++[x]).length=n+1:=by simp[h]
end L2
namespace L2
open PySem PySem.Spec PyProof.Rows
variable{X:Cx}{σ:St}{H:Hp}{w:Lu}{pos:Pos}
theorem Inv.turnedL{pins:List (so×Obj)}{s:F_}{h':Lv}{t':Nat}{ch:LL}(I:Inv X pins σ H s)(k:∀b o,b∉ch->s.heap.get? b=Sm o->h'.get? b=Sm o)
  (hf:∀b∈ch,iZ X pins H b):Inv X pins σ H {s with heap:=h',toks:=t'}:=by
 have J:∀b u,H b=Sm u->b∉ch:=λb u e z=>by rw[(hf b z).1]at e;cases e
 refine I.step (g':=s.gens) (d':=s.drawn) (ch:=ch) (λb S=>?_) (λb o _ _ F e _=>k b o F e) (λb o _ _ F e _=>#[o.slots,k b o F e]) (λ_ _ _ _ n=>n)
  (λb o F e=>#[o,k b o F e]) (λ_ _ e=>e) (λ_ _ _ e=>e) (λb ps e=>#[#[],by rw[e];simp]) (λm O=>?_) (λb u e=>?_) I.bare
 .refine yA6 (hf b S) λ_ W _ U Y f5=>?_;exact#[U,W,Y,f5]
 .revert O;refine yF3 λo es ep=>yB2 λZ r=>?_;exact yI3 o es ep #[k _ o (λz=>(hf _ z).2.1 rfl) Z,r]
 .refine(I.hok b u e).stay (λc v F q=>k c v ?_ q) (λ_ q=>q) λ_ _ q=>q;rcases F with z | z
  .rw[z];exact J b u e
  .exact J c _ z
theorem Inv.turnedLaid{pins:List (so×Obj)}{s:F_}{h':Lv}{t':Nat}{ch:LL}{a:so}{o:HO}(I:Inv X pins σ H s)(k:∀b o,b∉ch->s.heap.get? b=Sm o->h'.get? b=Sm o)
  (hf:∀b∈ch,iZ X pins H b) (U:s.heap.objs.size<=a) (new:BD X.prog X.w (upd H a o) h' a o):Inv X pins σ (upd H a o) {s with heap:=h',toks:=t'}:=by
 have J:H a=Nn:=I.hok.fresh U;have O:∀b u,H b=Sm u->b∉ch:=λb u e z=>by rw[(hf b z).1]at e;cases e
 refine I.step (g':=s.gens) (d':=s.drawn) (ch:=ch) (λb S=>?_) (λb o _ _ F e _=>k b o F e) (λb o _ _ F e _=>#[o.slots,k b o F e]) (λb u _ q n=>?_)
  (λb o F e=>#[o,k b o F e]) (λb xs q=>?_) (λb u xs q=>?_) (λb ps q=>#[#[],?_]) (λm W=>?_) (λb u e=>?_) I.bare
 .refine yA6 (hf b S) λ_ Z _ Y f4 f5=>?_;exact#[Y,Z,f4,f5]
 .rw[aw (xg (oG (yo q) U))];exact n
 .rw[aw (a_ q J)];exact q
 .rw[aw (a_ q J)];exact q
 .rw[aw (a_ q J),q];simp
 .revert W;refine yF3 λo es ep=>yB2 λho r=>?_;exact yI3 o es ep #[k _ o (λz=>(hf _ z).2.1 rfl) ho,r]
 .by_cases S:b=a
  .subst S;rw[ai]at e;cases e;exact new
  .rw[aw S]at e;refine(I.hok b u e).stay (λc v F q=>k c v ?_ q) (λc q=>by rw[aw (a_ q J)];exact q) λc xs q=>by rw[aw (a_ q J)];exact q
   rcases F with z | z
   .rw[z];exact O b u e
   .exact O c _ z
def D8(K:K_)(a b:so):It:=
  ⟨λi H=>∃xs ys x y,ud K H a xs/\ud K H b ys/\xs[i]?=Sm x/\ys[i]?=Sm y,
   λi H v H'=>∃t x y,H t=Nn/\v = .ref t/\H'=upd H t (.tup [x,y])/\(∀xs,ud K H a xs->xs[i]?=Sm x)/\∀ys,ud K H b ys->ys[i]?=Sm y,
   λi H=>∃xs ys,ud K H a xs/\ud K H b ys/\(xs.length<=i\/ys.length<=i)⟩
structure m_ (z TI TO i1 i2:so):Prop where
 TIz:TI≠z
 TOz:TO≠z
 i1z:i1≠z
 i2z:i2≠z
 TITO:TI≠TO
 TIi1:TI≠i1
 TIi2:TI≠i2
 TOi1:TO≠i1
 TOi2:TO≠i2
 i12:i1≠i2
theorem gj{h:Lv}{l c:so}{xs:LY}{o:Obj}(hl:h.IsList l xs)(e:h.get? c=Sm o)(O:o.cls ≠ .type "list"):l≠c:=by
 rintro rfl;refine yE1 hl λo'=>yB3 λF J _=>?_;rw[e]at F;cases F;exact O J
def KM(z TI TO i1 i2 l1 l2:so)(i:Nat)(h:Lv):Prop:=
 MD h z TI TO .none/\Mr h TI (.ref i1) (.ref i2)/\(∃a b,Mr h TO a b)/\h.IsListIter i1 l1 i/\h.IsListIter i2 l2 i
theorem z_{h:Lv}{z TI TO i1 i2 F J:so}{i:Nat}{xs ys:LY}(D:m_ z TI TO i1 i2)(st:KM z TI TO i1 i2 F J i h)(h1:h.IsList F xs)(h2:h.IsList J ys):ND z TI TO i1 i2 F J:=by
 revert st;refine yB5 ?_;rintro Z s2 ⟨a,b,s3⟩ ⟨o4,s4,c4,_⟩ ⟨o5,W,c5,_⟩;have O:o4.cls ≠ .type "list" := by rw[c4];decide
 have Y:o5.cls ≠ .type "list" := by rw[c5];decide
 have U:M5 "zip" ≠ M5 "list" := ∅;have S:M5 "tuple" ≠ M5 "list" := ∅;exact#[D.TIz,D.TOz,D.i1z,D.i2z,D.TITO,D.TIi1,D.TIi2,D.TOi1,D.TOi2,D.i12,gj h1 Z U,gj h1 s3 S,gj h1 s4 O,gj h1 W Y,gj h2 Z U,gj h2 s3 S,gj h2 s4 O,gj h2 W Y]
theorem Dc{P:Lw}{K:K_}{ad:LX}{k:Nat}{z TI TO i1 i2 l1 l2:so}(D:m_ z TI TO i1 i2):k7 P w K (.Tuple ad k pos) (D8 K l1 l2) [z,TI,TO,i1,i2] z (KM z TI TO i1 i2 l1 l2) where
 mem:='~'
 obj:=λi h st b F=>by
  revert st;refine yB5 ?_;rintro S s2 ⟨_,_,s3⟩ ⟨o4,Y,c4,d4⟩ ⟨o5,U,c5,d5⟩;simp only[yk,oZ,or_false]at F;rcases F with rfl | rfl | rfl | rfl | rfl
  .exact#[_,S,λv e=>by cases e]
  .exact#[_,s2,λv e=>by cases e]
  .exact#[_,s3,λv e=>by cases e]
  .exact#[_,Y,λv e=>by rw[d4]at e;cases e]
  .exact#[_,U,λv e=>by rw[d5]at e;cases e]
 keep:=λi h h' st kk=>by
  revert st;refine yB5 ?_;rintro S s2 ⟨a,b,s3⟩ Y U;exact#[kk z '~' _ S,kk TI '~' _ s2,yI2 a b (kk TO '~' _ s3),Y.at λo e=>kk i1 '~' o e,U.at λo e=>kk i2 '~' o e]
 item:=by
  intro X hP hw hK hc i pins s σ H E I hf st hg;subst hP hw hK;revert hg;refine yF4 λxs ys x y=>yB4 λq1 q2 hx hy=>?_;refine yE1 (I.list q1) λbh=>yB3 λZ p1 _=>?_;refine yE1 (I.list q2) λbg=>yB3 λac p2 _=>?_;let#[u1,a9,bt]:=Z.get hx;let#[u2,bc,a8]:=ac.get hy;have D':=z_ D st p1.isList p2.isList;revert st;refine yB5 ?_;rintro S s2 ⟨a,b,s3⟩ Y U;refine wpAny_pyNext_zip_item D' S s2 s3 Y U p1.isList p2.isList (x:=u1) (y:=u2) (by simpa using a9) (by simpa using bc) λh' a1 a2 a3 a4 a5 a6 kk=>?_;refine#[_,rfl,wpAny_letOwnedTupleGo_zip a1 λag a7 J=>?_];have lt:∀ {c o},s.heap.get? c=Sm o->s.heap.objs.size≠c:=λe=>II (yo e);have be:s.heap.objs.size≠z:=lt S;have ab:∀b o,b∉[z,TI,TO,i1,i2]->s.heap.get? b=Sm o->ag.get? b=Sm o:=λb o F e=>by
   simp only[yk,oZ,or_false,not_or]at F;exact J.extBut _ _ F.1 (kk b o F.1 F.2.2.1 F.2.2.2.1 F.2.2.2.2 e)
  have hsz:H s.heap.objs.size=Nn:=I.hok.fresh (zu _);have as:Mr ag s.heap.objs.size u1 u2:=J.extBut _ _ be a5;have bp:∀c∈[z,TI,TO,i1,i2],c≠s.heap.objs.size:=λc O=>by
   let#[o4,e4,_]:=id Y;let#[o5,e5,_]:=id U;simp only[yk,oZ,or_false]at O;rcases O with rfl | rfl | rfl | rfl | rfl
   .exact(lt S).symm
   .exact(lt s2).symm
   .exact(lt s3).symm
   .exact(lt e4).symm
   .exact(lt e5).symm
  refine⟨.ref s.heap.objs.size,upd H s.heap.objs.size (.tup [x,y]),I.turnedLaid (t':=s.toks) ab hf (zu _) ⟨aJ (by show 2<=1000000;decide),[u1,u2],.cons bt (.cons a8 .nil),⟨_,as,rfl,rfl,0,rfl⟩⟩,rfl,yI3 _ x y ⟨hsz,rfl,rfl,λb1 q'=>?_,λb0 q'=>?_⟩,
   ⟨a7,J.extBut _ _ D.TIz (kk _ _ D.TIz D.TITO D.TIi1 D.TIi2 s2),yI2 _ _ (J.extBut _ _ D.TOz a2),a3.extBut J.extBut D.i1z,a4.extBut J.extBut D.i2z⟩,λc O=>?_⟩
  .rw[I.list_inj q' q1];exact hx
  .rw[I.list_inj q' q2];exact hy
  .rw[aw (bp c O)];exact(hf c O).1
 done:=by
  intro X hP hw hK hc i pins s σ H E I hf st hg;subst hP hw hK;revert hg;refine yF2 λxs ys=>yB3 λq1 q2 al=>?_;refine yE1 (I.list q1) λbh=>yB3 λZ p1 _=>?_;refine yE1 (I.list q2) λbg=>yB3 λac p2 _=>?_;have l1:=Z.length;have l2:=ac.length;have D':=z_ D st p1.isList p2.isList;revert st;refine yB5 ?_;rintro S s2 ⟨a,b,s3⟩ Y U;refine wpAny_pyNext_zip_end (I.ok.hd hc) D' S s2 s3 Y U p1.isList p2.isList ?_ λh' kk=>#[rfl,I.turnedL (t':=s.toks) (λb o F e=>?_) hf]
  .rcases al with z | z
   .exact .inl (by simp;lia)
   .exact .inr (by simp;lia)
  .simp only[yk,oZ,or_false,not_or]at F;exact kk b o F.1 F.2.2.1 F.2.2.2.1 F.2.2.2.2 e
 self:=λA i s Q E st h=>Ob st.1 h
theorem KN(n:Nat):m_ (n+4) (n+2) (n+3) n (n+1):=#[(show (@Ne Nat (n+2) (n+4):Prop) from ()),(show (@Ne Nat (n+3) (n+4):Prop) from ()),(show (@Ne Nat (n) (n+4):Prop) from ()),(show (@Ne Nat (n+1) (n+4):Prop) from ()),(show (@Ne Nat (n+2) (n+3):Prop) from ()),(show (@Ne Nat (n+2) (n):Prop) from ()),(show (@Ne Nat (n+2) (n+1):Prop) from ()),(show (@Ne Nat (n+3) (n):Prop) from ()),(show (@Ne Nat (n+3) (n+1):Prop) from ()),(show (@Ne Nat (n) (n+1):Prop) from ())]
theorem sU:Mz "zip" = Sm (.type "zip"):=⋯
def BN(K:K_)(ta:TA):TI:=λσ H R=>ta σ H λvs H1=>∃a b:so,vs=[.ref a,.ref b]/\(∃xs,ud K H1 a xs)/\(∃ys,ud K H1 b ys)/\R (D8 K a b) H1
theorem wa(K:K_)(ta:TA){R:It->Hp->Prop}:BN K ta σ H R=ta σ H λvs H1=>∃a b:so,vs=[.ref a,.ref b]/\(∃xs,ud K H1 a xs)/\(∃ys,ud K H1 b ys)/\R (D8 K a b) H1:=rfl
theorem uV(n m:so)(P:so->so->Prop):(∃i j,[V.ref n,V.ref m]=[V.ref i,V.ref j]/\P i j)=P n m:=propext #[λ⟨_,_,e,h⟩=>by cases e;exact h,λh=>yI2 n m #[rfl,h]]
theorem Iw{O:LX}{k:Nat}{S:Pos}{a b:Expr}{ta:TA}{p:Pos}(hg:Gl X "zip") (hm:X.mg "zip" = Nn) (ha:PA X [a,b] ta) (hs:Mh [a,b] X.env=[(false,eval a X.env),(false,eval b X.env)]:=by rfl) (hs2:Mh [b] X.env=[(false,eval b X.env)]:=by rfl) :
  PI X (.Tuple O k S) (.Call (.Name "zip" p) [a,b] [] pos) (BN X.K ta):=by
 intro pins s σ H R I h;refine Call_ (iW I hg hm sU (zaV (bD (ha pos pins s σ H _ I h) λus F ⟨vs,H1,U,W,q1⟩=>?_) (by rw[hs,hs2]) (by rw[hs2];rfl)));revert q1;refine yF2 λl1 l2=>yB4 ?_;rintro e ⟨xs,h1⟩ ⟨ys,h2⟩ q;subst e;refine yE2 (qJ W) λu1 u2=>yB3 ?_;rintro rfl W r2;cases W;cases r2;refine yE1 (U.list h1) λac=>yB3 λ_ Z _=>?_;refine yE1 (U.list h2) λab=>yB3 λ_ p2 _=>?_;refine call_zip_2 Z.isList p2.isList λh' a1 a2 a3 a4 a5 a6 kk=>?_;refine Ob a1 ⟨_,[F.heap.objs.size+4,F.heap.objs.size+2,F.heap.objs.size+3,F.heap.objs.size,F.heap.objs.size+1],_,_,H1,rfl,U.kept (t':=F.toks) kk,
  Dc (z:=F.heap.objs.size+4) (TI:=F.heap.objs.size+2) (TO:=F.heap.objs.size+3) (i1:=F.heap.objs.size) (i2:=F.heap.objs.size+1) (KN _),⟨a1,a2,yI2 _ _ a3,a4,a5⟩,λb Y=>?_,q⟩
 have J:F.heap.objs.size<=b:=by
  simp only[yk,oZ,or_false]at Y;rcases Y with rfl | rfl | rfl | rfl | rfl<;>first | exact zu _ | exact za2 _ _
 exact U.fpOk J (U.hok.fresh J)
theorem Fu(K:K_){J:LX}{k:Nat}{F:Pos}{a b:Expr}{ta:TA}{p:Pos}(hg:Gl X "zip") (O:X.mg "zip" = Nn) (U:PA X [a,b] ta) (S:Mh [a,b] X.env=[(false,eval a X.env),(false,eval b X.env)]:=by rfl) (hs2:Mh [b] X.env=[(false,eval b X.env)]:=by rfl) (hK:X.K=K:=by rfl) :
  PI X (.Tuple J k F) (.Call (.Name "zip" p) [a,b] [] pos) (BN K ta):=hK ▸ Iw hg O U S hs2
def yj(x:V)(H:Hp)(Q:VK):Prop:=match x with
 | .str y=>y.length<=L_/\Q (.str y) H
 | .int i=>i.natAbs.log2<1920/\Q (.str (toString i)) H
 | _=>False
def IF(te:TE):TE:=λσ H Q=>te σ H λx H1=>yj x H1 Q
abbrev TJ:=Str->St->Hp->VK->Prop
def Ej:TJ:=λacc _ H Q=>acc.length<=L_/\Q (.str acc) H
def AD(te:TE)(tj:TJ):TJ:=λacc σ H Q=>te σ H λx H1=>∃y,x = .str y/\(acc++y).length<=L_/\tj (acc++y) σ H1 Q
def PJ(X:Cx)(es:LX)(tj:TJ):Prop:=∀(pins:List (so×Obj)) (s:F_) (σ : St) (H:Hp) (acc:Str) (Q:VK),Inv X pins σ H s->tj acc σ H Q->G_ (model X.prog X.w) X.A (joinParts acc (evalEach es X.env)) (EP X pins σ Q) X.xe s
def Ez(tj:TJ):TE:=λσ H Q=>tj Nr σ H Q
section
variable{X:Cx}
theorem Bl{e:Expr}{te:TE}{pos:Pos}(U:PE X e te):PE X (.FormattedValue e (-1) Nn pos) (IF te):=by
 intro pins s σ H Q I h;refine FormattedValue_plain (bD (U pins s σ H _ I h) λv W ⟨x,H1,O,J,F⟩=>?_);cases x with
 | str y=>
  let#[t,rfl]:=J;exact formatField_str (λt' S=>yI2 (.str y) H1 #[O.tok S,#[t',rfl],F.2]) F.1
 | int i=>
  let#[t,rfl]:=J;exact formatField_int_small F.1 (yI2 (.str (toString i)) H1 #[O.tok _,#[_,rfl],F.2])
 | _=>exact(show False from F).elim
theorem Gi:PJ X [] Ej:=λpins s σ H acc Q I h=>joinParts_nil (yI2 (.str acc) H #[I.tok _,#[_,rfl],h.2]) h.1
theorem oN{e:Expr}{es:LX}{te:TE}{F:TJ}(S:PE X e te)(U:PJ X es F):PJ X (e::es) (AD te F):=by
 intro pins s σ H acc Q I h;show G_ _ _ (joinParts acc (eval e X.env::evalEach es X.env)) _ _ _;refine joinParts_cons (bD (S pins s σ H _ I h) λv W ⟨x,H1,O,J,y,e,hz,q⟩=>?_);subst e;let#[t,rfl]:=J;exact#[hz,U pins W σ H1 (acc++y) Q O q]
theorem EO{J O:Expr}{es:LX}{F:TJ}(h:PJ X (J::O::es) F):PE X (.JoinedStr (J::O::es) pos) (Ez F):=λpins s σ H Q I q=>JoinedStr_many (h pins s σ H Nr Q I q)
end
section
variable{σ:St}{H:Hp}{Q:VK}
theorem vZ(te:TE):IF te σ H Q=te σ H λx H1=>yj x H1 Q:=rfl
theorem rP(F:TJ):Ez F σ H Q=F Nr σ H Q:=rfl
theorem tH(acc:Str):Ej acc σ H Q=(acc.length<=L_/\Q (.str acc) H):=rfl
theorem qf(te:TE)(F:TJ)(acc:Str):AD te F acc σ H Q=te σ H λx H1=>∃y,x = .str y/\(acc++y).length<=L_/\F (acc++y) σ H1 Q:=rfl
theorem tz(y:Str):yj (.str y) H Q=(y.length<=L_/\Q (.str y) H):=rfl
theorem tG(i:Int):yj (.int i) H Q=(i.natAbs.log2<1920/\Q (.str (toString i)) H):=rfl
end
noncomputable def Bf(K:K_)(a:so):It:=
  ⟨λi H=>∃xs x,ud K H a xs/\xs[i]?=Sm x,
   λi H v H'=>∃t x,H t=Nn/\v = .ref t/\H'=upd H t (.tup [.int i,x])/\∀xs,ud K H a xs->xs[i]?=Sm x,
   λi H=>∃xs,ud K H a xs/\xs.length<=i⟩
def QP(e it l:so)(i:Nat)(h:Lv):Prop:=(∃old,IsEnum h e it i old)/\h.IsListIter it l i
theorem AJ{P:Lw}{K:K_}{ac:LX}{k:Nat}{e it l:so}(ad:e≠it):k7 P w K (.Tuple ac k pos) (Bf K l) [e,it] e (QP e it l) where
 mem:='~'
 obj:=λi h st b S=>by
  let#[#[J,O],#[o4,U,c4,d4]]:=st;simp only[yk,oZ,or_false]at S;rcases S with rfl | rfl
  .exact#[_,O,λv e=>by cases e]
  .exact#[_,U,λv e=>by rw[d4]at e;cases e]
 keep:=λi h h' st kk=>by
  let#[#[J,O],U]:=st;exact#[#[J,kk e '~' _ O],U.at λo z=>kk it '~' o z]
 item:=by
  intro X hP hw hK hc i pins s σ H E I hf st hg;subst hP hw hK;revert hg;refine yF2 λxs x=>yB2 λq1 hx=>?_;refine yE1 (I.list q1) λa8=>yB3 λY p1 _=>?_;let#[u1,a4,bc]:=Y.get hx;let#[#[J,O],U]:=st;refine wpAny_pyNext_enum_item O U p1.isList (x:=u1) (by simpa using a4) ad λh' a1 a3 a5 a6 kk=>?_;refine#[_,rfl,wpAny_letOwnedTupleGo_enum a1 λas al ab=>?_];have lt:∀ {c o},s.heap.get? c=Sm o->s.heap.objs.size≠c:=λz=>II (yo z);have a7:s.heap.objs.size≠e:=lt O;have Z:∀b o,b∉[e,it]->s.heap.get? b=Sm o->as.get? b=Sm o:=λb o S z=>by
   simp only[yk,oZ,or_false,not_or]at S;exact ab.extBut _ _ S.1 (kk b o S.1 S.2 z)
  have hsz:H s.heap.objs.size=Nn:=I.hok.fresh (zu _);have ag:=ab.extBut _ _ a7 a5;have a9:∀c∈[e,it],c≠s.heap.objs.size:=λc F=>by
   let#[o4,e4,_]:=id U;simp only[yk,oZ,or_false]at F;rcases F with rfl | rfl
   .exact(lt O).symm
   .exact(lt e4).symm
  refine⟨.ref s.heap.objs.size,upd H s.heap.objs.size (.tup [.int i,x]),I.turnedLaid (t':=s.toks+1) Z hf (zu _) ⟨aJ (by show 2<=1000000;decide),[.int i s.toks,u1],.cons ⟨_,rfl⟩ (.cons bc .nil),⟨_,ag,rfl,rfl,0,rfl⟩⟩,rfl,yI2 _ x ⟨hsz,rfl,rfl,λbg q'=>?_⟩,
   ⟨⟨_,by simpa using al⟩,a3.extBut ab.extBut ad.symm⟩,λc F=>?_⟩
  .rw[I.list_inj q' q1];exact hx
  .rw[aw (a9 c F)];exact(hf c F).1
 done:=by
  intro X hP hw hK hc i pins s σ H E I hf st hg;subst hP hw hK;let#[xs,q1,be]:=hg;refine yE1 (I.list q1) λa8=>yB3 λY p1 _=>?_;have l1:=Y.length;let#[#[J,O],U]:=st;refine wpAny_pyNext_enum_end (I.ok.hd hc) O U p1.isList (by simp;lia) λh' kk=>#[rfl,I.turnedL (t':=s.toks) (λb o S z=>?_) hf];simp only[yk,oZ,or_false,not_or]at S;exact kk b o S.2 z
 self:=λA i s Q E st h=>by
  let#[#[J,O],_]:=st;exact wpAny_pyIter_enum O h
theorem oF:Mz "enumerate" = Sm (.type "enumerate"):=⋯
def DZ(K:K_)(ta:TA):TI:=λσ H R=>ta σ H λvs H1=>∃a:so,vs=[.ref a]/\(∃xs,H1 a=Sm (.lst xs))/\R (Bf K a) H1
theorem tS(K:K_)(ta:TA){R:It->Hp->Prop}:DZ K ta σ H R=ta σ H λvs H1=>∃a:so,vs=[.ref a]/\(∃xs,H1 a=Sm (.lst xs))/\R (Bf K a) H1:=rfl
theorem wM(n:so)(P:so->Prop):(∃i,[V.ref n]=[V.ref i]/\P i)=P n:=propext #[λ⟨_,e,h⟩=>by cases e;exact h,λh=>#[n,rfl,h]]
theorem rn(K:K_){U:LX}{k:Nat}{S:Pos}{a:Expr}{ta:TA}{p:Pos}(hg:Gl X "enumerate") (hm:X.mg "enumerate" = Nn) (ha:PA X [a] ta) (hs:Mh [a] X.env=[(false,eval a X.env)]:=by rfl) (hK:X.K=K:=by rfl) :
  PI X (.Tuple U k S) (.Call (.Name "enumerate" p) [a] [] pos) (DZ K ta):=by
 subst hK;intro pins s σ H R I h;refine Call_ (iW I hg hm oF (zaV (bD (ha pos pins s σ H _ I h) λus F ⟨vs,H1,Y,r1,q1⟩=>?_) hs rfl));revert q1;refine yF1 λl=>yB3 ?_;rintro e ⟨xs,h1⟩ q;subst e;let#[u1,rfl,Z]:=dv r1;obtain rfl:u1=Ma l:=Z;obtain⟨hz,J,n,rv,hl⟩ : xs.length<=L_/\∃(J:LN) (n:Nat),Br xs J/\F.heap.get? l=Sm {cls:=.type "list",data:=.seq J.toArray n}:=Y.hok l _ h1;refine call_enumerate_1 hl λh' a1 a4 a6 kk=>?_;refine wpAny_pyIter_enum a1 ⟨_,[F.heap.objs.size+1,F.heap.objs.size],_,_,H1,rfl,Y.kept (t':=F.toks) kk,
  AJ (e:=F.heap.objs.size+1) (it:=F.heap.objs.size) (II (zaW _)),⟨⟨_,a1⟩,a4⟩,λb hb=>?_,q⟩
 have O:F.heap.objs.size<=b:=by
  simp only[yk,oZ,or_false]at hb;rcases hb with rfl | rfl<;>first | exact zu _ | exact za2 _ _
 exact Y.fpOk O (Y.hok.fresh O)
section
variable{K:K_}{a b:so}{xs ys:LM}{g:TG}{te:TE}{nT:Nat}{σ:St}{D:so}{Q:VK}{H:Hp}
theorem Ac{tb:TS}{D:d0}(F:Nat->St->Hp->Prop)(U:F 0 σ H)(hl:∀i σ H,i<=xs.length->F i σ H->ud K H a xs)
  (S:∀i x t σ H,xs[i]?=Sm x->F i σ H->H t=Nn->g (.ref t) σ (upd H t (.tup [.int i,x])) λY H2=>tb {D with nx:=F (i+1),ct:=F (i+1),bk:=D.nx} Y H2) (hd:∀σ H,F xs.length σ H->D.nx σ H):kS (Bf K a) g tb D σ H:=by
 refine lj xs.length F U (λi σ H hi p=>yI2 xs (xs[i]) #[hl i σ H (xE hi) p,by simp[hi]]) (λσ H p=>#[xs,hl _ σ H (zu _) p,zu _]) (λi σ H v H' hi p O=>?_) hd;revert O;refine yF2 λt x=>yB4 ?_;rintro W rfl rfl J;exact S i x t σ H (J xs (hl i σ H (xE hi) p)) p W
theorem Cv{tb:TS}{D:d0}(F:Nat->St->Hp->Prop)(O:xs.length=ys.length)(W:F 0 σ H)(hl:∀i σ H,i<=xs.length->F i σ H->ud K H a xs/\ud K H b ys)
  (U:∀i x y t σ H,xs[i]?=Sm x->ys[i]?=Sm y->F i σ H->H t=Nn->g (.ref t) σ (upd H t (.tup [x,y])) λσ2 H2=>tb {D with nx:=F (i+1),ct:=F (i+1),bk:=D.nx} σ2 H2) (hd:∀σ H,F xs.length σ H->D.nx σ H):kS (D8 K a b) g tb D σ H:=by
 refine lj xs.length F W (λi σ H hi p=>yI4 xs ys (xs[i]) (ys[i]) #[(hl i σ H (xE hi) p).1,(hl i σ H (xE hi) p).2,by simp[hi],by simp[O ▸ hi]]) (λσ H p=>yI2 xs ys #[(hl _ σ H (zu _) p).1,(hl _ σ H (zu _) p).2,.inl (zu _)]) (λi σ H v H' hi p S=>?_) hd;revert S;refine yF3 λt x y=>yB5 ?_;rintro Z rfl rfl J Y;exact U i x y t σ H (J xs (hl i σ H (xE hi) p).1) (Y ys (hl i σ H (xE hi) p).2) p Z
def qP(n i:Nat)(Pv:Nat->LM->Hp->Prop)(ys:LM)(H:Hp):Prop:=∃m',m'<n-i/\(m'=n-(i+1)/\i+1<=n/\Pv (i+1) ys H)
theorem lx{n i:Nat}{F:Nat->LM->Hp->Prop}{ys:LM}(hi:i<n)(h:F (i+1) ys H):qP n i F ys H:=#[n-(i+1),(),rfl,hi,h]
theorem jD{n i:Nat}{F:Nat->LM->Hp->Prop}{D:so}{ys:LM}{y:V}(hi:i<n)(J:ys.length<=i)(hz:n<=L_)(h1:H D=Sm (.lst ys))(h2:F (i+1) (ys++[y]) (upd H D (.lst (ys++[y])))):jQ n i F D ys y H:=
 #[h1,(),n-(i+1),(),rfl,hi,h2]
def nG(n i:Nat)(Pv:Nat->LM->Hp->Prop)(D:so)(ys:LM)(tc:TT)(te:TE)(σ : St)(H:Hp):Prop:=
 tc σ H λb H4=>if b=true then te σ H4 (jQ n i Pv D ys) else qP n i Pv ys H4
theorem se{n i:Nat}{F:Nat->LM->Hp->Prop}{D:so}{ys:LM}{tc:TT}{te:TE}:nG n i F D ys tc te σ H=tc σ H λb J=>if b=true then te σ J (jQ n i F D ys) else qP n i F ys J:=rfl
theorem mj{J:It}{tc:TT}(n:Nat)(F:Nat->LM->Hp->Prop)(W:F 0 [] H)(O:∀i ys H,i<n->F i ys H->J.go i H)(S:∀ys H,F n ys H->J.stop n H)
  (U:∀i ys H x H',i<n->F i ys H->J.yld i H x H'->g x (σ++List.replicate nT Nn) H' (nG n i F D ys tc te))
  (hd:∀ys H,F n ys H->Q (.ref D) H):gG J g tc te nT σ D Q H:=by
 refine#[λi m ys H=>m=n-i/\i<=n/\F i ys H,#[n,'~',gV _,W],?_];rintro i m ys H ⟨rfl,hi,p⟩;by_cases hlt:i<n
 .exact .inr #[O i ys H hlt p,λx H' y=>U i ys H x H' hlt p y]
 .have e:i=n:=()
  subst e;exact .inl #[S ys H p,hd ys H p]
theorem jY{tc:TT}(F:Nat->LM->Hp->Prop)(J:F 0 [] H)(hl:∀i ys H,i<=xs.length->F i ys H->ud K H a xs)
  (S:∀i ys H x,xs[i]?=Sm x->i<xs.length->F i ys H->g x (σ++List.replicate nT Nn) H (nG xs.length i F D ys tc te))
  (hd:∀ys H,F xs.length ys H->Q (.ref D) H):gG (ny K a) g tc te nT σ D Q H:=by
 refine mj xs.length F J (λi ys H hi p=>yI2 xs (xs[i]) #[hl i ys H (xE hi) p,by simp[hi]]) (λys H p=>#[xs,hl _ ys H (zu _) p,zu _]) (λi ys H x H' hi p O=>?_) hd;let#[rfl,y]:=O;exact S i ys _ x (y xs (hl i ys _ (xE hi) p)) hi p
end
set_option genInjectivity false in
set_option genSizeOf false in
structure IK (prog:Lw) (w:Lu) (κ : Type) [DecidableEq κ] where
 is:Lv->κ->KE->Prop
 hash:κ->Int
 draws:κ->Nat
 deep:Nat
 inj:∀ {h:Lv} {v:KE} {x y:κ},is h x v->is h y v->x=y
 keeps:∀ {h h':Lv} {k:κ} {v:KE} {d:so} {o:Obj} {es ep},is h k v->h.get? d=Sm o->o.data = .dict es ep->MH d h h'->is h' k v
 pyHash:∀ {A:Mc} {E:LH} {s:F_} {k:κ} {v:KE} {Q:Int->F_->Prop},A.units+deep<cLine->is s.heap k v->Q (hash k) {s with toks:=s.toks+draws k}->
  G_ (model prog w) A (PySem.pyHash v) Q E s
 eqBool:∀ {A:Mc} {E:LH} {s:F_} {x y:κ} {u v:KE} {Q:Bool->F_->Prop},A.units+deep<cLine->is s.heap x u->is s.heap y v->Q (decide (x=y)) s->
  G_ (model prog w) A (PySem.eqBool u v) Q E s
 quiet:∀ {A:Mc} {E:LH} {s:F_} {k:κ} {v:KE} {n:Nat} {Q:Bool->F_->Prop},is s.heap k v->Q true s->G_ (model prog w) A (eqIsQuiet (n+deep) v) Q E s
section
variable{prog:Lw}{w:Lu}{κ:Type}[DecidableEq κ](K:IK prog w κ)
inductive B7 (h:Lv):List κ->LN->Prop
 | nil:B7 h [] []
 | cons {k:κ} {v:KE} {ks:List κ} {vs:LN}:K.is h k v->B7 h ks vs->B7 h (k::ks) (v::vs)
def Ci(h:Lv)(ks:List κ)(v:KE):Prop:=∃a o items n,v = .ref a/\h.get? a=Sm o/\o.cls = .type "tuple" /\ o.data = .seq items n/\B7 K h ks items.toList
variable{K}
theorem B7.inj{h:Lv}{x y:List κ}{vs:LN}(i:B7 K h x vs)(j:B7 K h y vs):x=y:=by
 induction i generalizing y with
 | nil=>cases j;rfl
 | cons a b ih=>
  cases j with
  | cons c d=>rw[K.inj a c,ih d]
theorem B7.keeps{h h':Lv}{d:so}{o:Obj}{es ep}(F:h.get? d=Sm o)(hd:o.data = .dict es ep)(J:MH d h h'):∀ {x:List κ} {vs:LN},B7 K h x vs->B7 K h' x vs
 | _,_,.nil=>.nil
 | _,_,.cons a b=>.cons (K.keeps a F hd J) (b.keeps F hd J)
theorem B7.len{h:Lv}:∀ {x:List κ} {vs:LN},B7 K h x vs->x.length=vs.length
 | _,_,.nil=>rfl
 | _,_,.cons _ b=>by rw[ye,ye,b.len]
noncomputable def jp(K:IK prog w κ)(ks:List κ):Nat:=(ks.map K.draws).sum
noncomputable def uX(K:IK prog w κ)(ks:List κ):Int:=reduceHash (NN (ks.map K.hash))
theorem kD{A:Mc}{E:LH}{s:F_}{ks:List κ}{v:KE}{Q:Int->F_->Prop}(Z:A.units+(K.deep+1)<cLine)(Y:Ci K s.heap ks v)(h:Q (uX K ks) {s with toks:=s.toks+(jp K ks+1)}) :
  G_ (model prog w) A (PySem.pyHash v) Q E s:=by
 revert Y;refine yF4 λa o items n=>yB5 ?_;rintro rfl U W hd hi;have O:s.TypeIs (.ref a) "tuple" := #[o,U,W];unfold PySem.pyHash
 first | unfold pyHashByItsType | skip
 first | refine KL (wpAny_cRoomFor_or (.inr ()) ?_) | skip
 refine KL (Nu O F.slot_tuple_hash.lookup ?_);rw[KQ (by rw[beq_builtin_none];exact xO)];refine KL (Nu O F.slot_tuple_hash.lookup ?_);show G_ _ _ (callSpecialIfBoundUnlessNone? (.ref a) "__hash__" _ >>= _) Q E s;refine KL (OB O F.slot_tuple_hash (My F.slot_tuple_hash O
  F.entry_tuple_hash ?_ (F.args_tuple_hash_1 _)))
 show G_ _ _ (Oq (.ref a) >>= _) _ _ s;refine KL (wpAny_tupleItemsOf U hd (KL ?_));rw[<-zba];refine NQ _ (λBv (b:Array Int) s'=>∃done left,ks=done++left/\B7 K s.heap left Bv/\b.toList=done.map K.hash/\s'={s with toks:=s.toks+jp K done}) _ ?_ ?_ _ _ (yI2 ([]) ks #[rfl,hi,rfl,rfl])
 .intro x Bv b s';refine yF2 λdone left=>yB4 ?_;rintro rfl hl S rfl;cases hl with
  | @cons k _ ks' _ h1 hl'=>
   have e:jp K (done++[k])=jp K done+K.draws k:=by simp[jp]
   refine KL (K.pyHash (show A.in1.units+K.deep<cLine from by show A.units+1+K.deep<cLine;lia) h1 ?_);have J:∃done' left',done++k::ks'=done'++left'/\B7 K s.heap left' Bv/\(b.push (K.hash k)).toList=done'.map K.hash/\({s with toks:=s.toks+jp K done+K.draws k}:F_)={s with toks:=s.toks+jp K done'}:=
    (yI2 (done++[k]) ks' #['~',hl',by simp[S],by rw[e,oS]])
   first
    | exact KP J
    | exact KL (KP (KP J))
 .intro b s';refine yF2 λdone left=>yB4 ?_;rintro rfl hl S rfl;cases hl;rw[sF]at h;show G_ _ _ (retInt (NN b.toList)) _ _ _;rw[S];refine wpAny_ret_mkInt ?_;unfold uX reduceHash at h;show G_ _ _ (if (decide (-(2:Int)^63<=NN (done.map K.hash))&&decide (NN (done.map K.hash)<2^63))=true then _ else _) Q E _;by_cases hr:(decide (-(2:Int)^63<=NN (done.map K.hash))&&decide (NN (done.map K.hash)<2^63))=true
  .rw[KZ hr]at h |-
   exact KP (by simpa [oS] using h)
  .rw[KQ hr]at h |-
   exact KL (MB (KP (by simpa [oS] using h)))
theorem xi{A:Mc}{E:LH}{s:F_}{x y:List κ}{a b:so}{P:Fin->F_->Prop}(hu:A.units+K.deep<cLine)(hx:Ci K s.heap x (.ref a))(hy:Ci K s.heap y (.ref b))(h:P (.done (.ret (.bool (decide (x=y))))) s) :
  G_ (model prog w) A (Mp.«tuple.__eq__» #[[.ref a,.ref b],[]]) P E s:=by
 revert hx;refine yF4 λ_ oa xs na=>yB5 λe1 ad ca al ac=>?_;revert hy;refine yF4 λ_ ob ys nb=>yB5 λe2 Y cb ag ab=>?_;cases e1;cases e2;show G_ _ _ (isInstance (.ref b) (.type "tuple") >>= _) _ _ s;refine KL (NE #[ob,Y,cb] isSubtype_tuple_tuple ?_);simp only[zaN,td,if_false];refine KL (wpAny_tupleItemsOf ad al (KL (wpAny_tupleItemsOf Y ag (KL ?_))));refine NQ _ (λBv r s'=>r.1=Nn/\s'=s/\∃x' y' O J,Bv=List.zip O J/\B7 K s.heap x' O/\B7 K s.heap y' J/\decide (x'=y')=decide (x=y)/\(O.length==J.length)=(xs.size==ys.size)) _ ?_ ?_ _ _
  #[rfl,rfl,yI4 x y xs.toList ys.toList #[rfl,ac,ab,rfl,'~']]
 .rintro⟨u,v⟩ Bv r s' ⟨hr,rfl,x',y',O,J,hz,W,U,F,S⟩;cases W with
  | nil=>simp at hz
  | @cons k1 u' x'' xs'' h1 hx''=>
   cases U with
   | nil=>simp at hz
   | @cons k2 v' y'' ys'' h2 hy''=>
    simp only[zbb,List.cons.injEq,Prod.mk.injEq]at hz;let#[#[rfl,rfl],rfl]:=hz;refine KL (K.eqBool (x:=k1) (y:=k2) hu h1 h2 ?_);by_cases hk:k1=k2
    .subst hk;rw[decide_eq_true rfl];simp only[zaN,td,if_false];refine KP #[rfl,rfl,yI4 x'' y'' xs'' ys'' #[rfl,hx'',hy'',?_,by simpa using S]];rw[<-F];by_cases hxy:x''=y''<;>simp[hxy]
    .rw[decide_eq_false hk];simp only[Bool.not_false,if_true];have hf:decide (x=y)=false:=by rw[<-F];simp[hk]
     rw[hf]at h;exact KL (KP (KP (KP h)))
 .rintro⟨r1,r2⟩ s' ⟨hr,rfl,x',y',O,J,hz,W,U,F,S⟩;simp only at hr;subst hr;refine KP ?_;have Z:(xs.size==ys.size)=decide (x=y):=by
   rw[<-F,<-S];cases W with
   | nil=>cases U<;>simp
   | cons _ _=>
    cases U with
    | nil=>simp
    | cons _ _=>simp at hz
  show P (.done (.ret (.bool (xs.size==ys.size)))) s';rw[Z];exact h
theorem om{A:Mc}{E:LH}{s:F_}{x y:List κ}{u v:KE}{Q:Bool->F_->Prop}(hu:A.units+(K.deep+1)<cLine)(hx:Ci K s.heap x u)(hy:Ci K s.heap y v)(h:Q (decide (x=y)) s) :
  G_ (model prog w) A (PySem.eqBool u v) Q E s:=by
 have Z:=hx;have ab:=hy;revert hx;refine yF4 λa oa xs na=>yB5 ?_;rintro rfl S ca U W;revert hy;refine yF4 λb ob ys nb=>yB5 ?_;rintro rfl J cb O Y;unfold PySem.eqBool
 try with_reducible refine Ms ?_
 show G_ _ _ (if (Ma a==Ma b)=true then _ else _) Q E s;by_cases hab:(Ma a==Ma b)=true
 .rw[KZ hab];have e:a=b:=by have:=eq_of_beq hab;injection this
  subst e;rw[S]at J;cases J;rw[U]at O;injection O with e1 _
  subst e1;rw[decide_eq_true (W.inj Y)]at h;exact KL (MB (KP h))
 .rw[KQ hab];have ta:s.TypeIs (.ref a) "tuple" := #[oa,S,ca];have tb:s.TypeIs (.ref b) "tuple" := #[ob,J,cb];refine KL (wpAny_richCompare_same_room (op:=.Eq) ta tb F.slot_tuple_eq (My F.slot_tuple_eq ta F.entry_tuple_eq ?_ (F.args_tuple_eq_2 _ _)) ());refine xi (K:=K) ?_ Z ab #[_,rfl,(λe=>nomatch e),N4 h];show A.units+1+K.deep<cLine;lia
theorem jW{A:Mc}{E:LH}{s:F_}{ks:List κ}{v:KE}{n:Nat}{Q:Bool->F_->Prop}(Z:Ci K s.heap ks v)(h:Q true s):G_ (model prog w) A (eqIsQuiet (n+(K.deep+1)) v) Q E s:=by
 revert Z;refine yF4 λa o items m=>yB5 ?_;rintro rfl W Y hd hi;have U:s.TypeIs (.ref a) "tuple" := #[o,W,Y];rw[show n+(K.deep+1)=(n+K.deep)+1 from rfl];unfold eqIsQuiet;refine KL (Nu U F.slot_tuple_eq.lookup ?_);show G_ _ _ (isInstance (.ref a) (.type "tuple") >>= _) _ _ s;refine KL (NE U isSubtype_tuple_tuple ?_);simp only[zaN,td,if_false];refine KL (MZ W hd (KL ?_));show G_ _ _ (forIn items _ _) _ _ s;rw[<-zba];refine NQ _ (λBv r s'=>r.1=Nn/\s'=s/\∃O,B7 K s.heap O Bv) _ ?_ ?_ _ _ #[rfl,rfl,ks,hi]
 .intro v Bv r s';refine yB3 ?_;rintro S rfl;refine yF1 λO J=>?_;cases J with
  | cons h1 h2=>
   refine KL (K.quiet h1 ?_);simp only[zaN,td,if_false];exact KP #[rfl,rfl,_,h2]
 .rintro⟨r1,r2⟩ s' ⟨S,rfl,_⟩;simp only at S;subst S;exact KP h
noncomputable def tupK(K:IK prog w κ):IK prog w (List κ) where
 is:=Ci K
 hash:=uX K
 draws:=λks=>jp K ks+1
 deep:=K.deep+1
 inj:=by
  intro h v x y;refine yF4 λa oa xs na=>yB5 ?_;rintro rfl hoa ca hda hia;refine yF4 λb ob ys nb=>yB5 λe hob cb hdb hib=>?_;cases e;rw[hoa]at hob;cases hob;rw[hda]at hdb;injection hdb with e1 _
  subst e1;exact hia.inj hib
 keeps:=by
  intro h h' k v d o es ep;refine yF4 λa oa xs na=>yB5 ?_;rintro rfl hoa ca hda hia;intro ho hd hs;have hne:a≠d:=by
   rintro rfl;rw[hoa]at ho;cases ho;rw[hd]at hda;cases hda
  exact yI4 a oa xs na #[rfl,(hs.2 a hne).trans hoa,ca,hda,hia.keeps ho hd hs]
 pyHash:=λhu hk h=>kD hu hk h
 eqBool:=λhu hx hy h=>om hu hx hy h
 quiet:=λhk h=>jW hk h
noncomputable def D6(K:IK prog w κ)(hd:K.deep<=7):HeapKind prog w (List κ) where
 is:=λh k a=>Ci K h k (.ref a)
 hash:=uX K
 draws:=λks=>jp K ks+1
 room:=λA=>A.units+(K.deep+1)<cLine
 inj:=(tupK K).inj
 keeps:=(tupK K).keeps
 pyHash:=λhu hk h=>kD hu hk h
 eqBool:=λhu hx hy h=>om hu hx hy h
 quiet:=λ{A E s k a Q} hk h=>by
  have q:=jW (n:=7-K.deep) (A:=A) (E:=E) hk h
  rwa [show 7-K.deep+(K.deep+1)=8 from ()]at q
end
noncomputable def jV:LQ->V
 | none=>.non
 | some i=>.int i
theorem Dt{x y:LQ}{v:KE}(a:RelV (jV x) v)(b:RelV (jV y) v):x=y:=by
 have e:=a.inj b;cases x<;>cases y<;>simp_all [jV]
theorem qd(x:LQ):cW (jV x)=true:=by cases x<;>rfl
theorem FL(x y:LQ):kZ (jV x) (jV y)=decide (x=y):=by
 cases x with
 | none=>cases y<;>rfl
 | some i=>
  cases y with
  | none=>rfl
  | some j=>
   show (i==j)=_;by_cases h:i=j<;>simp[h]
theorem Ax{prog:Lw}{A:Mc}{E:LH}{s:F_}{Q:Int->F_->Prop}(h:Q 0xFCA86420 {s with toks:=s.toks+1}):G_ (model prog w) A (PySem.pyHash .none) Q E s:=by
 have J:s.TypeIs .none "NoneType" := rfl;unfold PySem.pyHash
 first | unfold pyHashByItsType | skip
 refine KL ?_;rw[cRoomFor,KQ ∅];refine KP (KL (Nu J F.slot_NoneType_hash.lookup ?_));rw[KQ (by rw[beq_builtin_none];exact xO)];refine KL (Nu J F.slot_NoneType_hash.lookup ?_);show G_ _ _ (callSpecialIfBoundUnlessNone? .none "__hash__" _ >>= _) Q E s;refine KL (OB J F.slot_NoneType_hash (My F.slot_NoneType_hash J
  F.entry_NoneType_hash ?_ (F.args_NoneType_hash_1 _)))
 show G_ _ _ (retInt 0xFCA86420) _ _ s;refine wpAny_ret_mkInt ?_;exact KP h
noncomputable def fq(prog:Lw)(w:Lu):IK prog w LQ where
 is:=λ_ k v=>RelV (jV k) v
 hash:=λk=>match k with
  | none=>0xFCA86420
  | some i=>hashInt i
 draws:=λ_=>1
 deep:=0
 inj:=λa b=>Dt a b
 keeps:=λa _ _ _=>a
 pyHash:=λ{A E s k v Q} _ hk h=>by
  cases k with
  | none=>
   obtain rfl:v=Mu:=hk;exact Ax h
  | some i=>
   let#[t,rfl]:=(show ∃t,v=NA i t from hk)
   exact wpAny_pyHash_int h
 eqBool:=λ{A E s x y u v Q} _ hx hy h=>by
  have q:=tU (A:=A) (s:=s) hx hy (qd x) (qd y);rw[FL]at q;exact q prog w E Q h
 quiet:=λ{A E s k v n Q} hk h=>by
  have e:carriedByValue v=true:=by
   cases k with
   | none=>obtain rfl:v=Mu:=hk;rfl
   | some i=>let#[t,rfl]:=(show ∃t,v=NA i t from hk);rfl
  rw[eqIsQuiet_byValue _ e];exact KP h
abbrev NI:=Sum Int (List LQ)
theorem Ci.tup{prog:Lw}{κ:Type}[DecidableEq κ]{K:IK prog w κ}{h:Lv}{l:List κ}{v:KE}(x:Ci K h l v):∃a its,v = .ref a/\h.IsTuple a its:=by
 revert x;refine yF4 λa o items n=>yB5 ?_;rintro rfl F J hd hi;exact yI2 a items #[rfl,o,F,J,n,hd]
theorem v5{A:Mc}{prog:Lw}(F:A.units+1<cLine):A.units+((fq prog w).deep+1)<cLine:=F
abbrev CC:=Int×List LQ
noncomputable def nk(k:CC):List NI:=[.inl k.1,.inr k.2]
section
variable{X:Cx}{pins:List (so×Obj)}{σ:St}{H:Hp}{s:F_}{a b:so}{k:CC}{kvs:List (CC×V)}
theorem LG.snoc{α β : Type}{F:α->β->Prop}{x:α}{y:β}(h:F x y):∀ {l:List α} {m:List β},LG F l m->LG F (l++[x]) (m++[y])
 | _,_,.nil=>.cons h .nil
 | _,_,.cons r t=>.cons r (LG.snoc h t)
end
end L2
namespace L2
open PySem PySem.Spec PyProof.Rows PySem.SeqAt
section
variable{X:Cx}
def LV(K:K_):R2:=λx y H Q=>rE K x y H Q\/∃a kvs k v,x = .ref a/\y=kV k/\H a=Sm (.dK kvs)/\bU kvs k=Sm v/\Q v H
theorem sJ(K:K_)(hK:X.K=K:=by rfl):Hw X (LV K):=by
 intro value J pins s σ H x y v u Q I Z Y h U;rcases h with h | ⟨a,kvs,k,z,rfl,rfl,e,l,q⟩
 .exact au K hK value J pins s σ H x y v u Q I Z Y h U
 .cases Z;refine yA3 (qR I.hok (.inl e)) λ_ hd=>yF1 λvs=>yB2 λS dd=>?_;let#[w',hw,O]:=GQ.some_of (v:=z) (o:=valueAt vs k) (by rw[<-l];exact S.val k);have hl:typeLookup (.type "dict") "__getitem__" = pure (Sm (.builtin "dict.__getitem__")):=F.slot_dict_getitem.lookup;exact Oa (x:=w') dd.typeIs hl (wpAny_getItem_of (qN Y) dd.mapOf hw #[rfl,yI2 z H #[I.tok _,O,q]]) U
def Kj:nW:=λo i v H Q=>∃a kvs k,o = .ref a/\i=kV k/\H a=Sm (.dK kvs)/\kvs.length<L_/\Q (upd H a (.dK (dk kvs k v)))
theorem DN{n:Nat}(F:Cm n X.A):HR X Kj:=by
 intro pins s σ H o i v Y W u Q I U J O h;revert h;refine yF3 λa kvs k=>yB5 ?_;rintro rfl rfl e hl q;cases U;exact p7 (by have:=F.un;lia) I (Hv.k e hl) J O λs' S=>#[_,S,q]
end
variable{n i ep:Nat}{xs:Lr}{a it:so}{o:Obj}{es:Array (Int×KE)}{K:Type}{ps:LJ}
theorem vO{X:Cx}:Hr X "list.pop" Ck:=IW
section
variable{K:K_}{H:Hp}{Q:VK}
theorem vA(p:so):Ck (.ref p) [] H Q=∃xs y,H p=Sm (.lst xs)/\xs[xs.length-1]?=Sm y/\Q y (upd H p (.lst xs.dropLast)):=
 propext #[λ⟨_,xs,y,F,_,q⟩=>by cases F;exact yI2 xs y q,λ⟨xs,y,q⟩=>yI3 p xs y #[rfl,rfl,q]]
end
theorem wg{X:Cx}(K:K_){o:Expr}{to:TE}{name:Str}{apos cpos:Pos}{T id:String}{r:V->LM->Hp->VK->Prop}(O:PlainAttrs T)(slot:Slot T name id)(J:typeOf (.builtin id)=pure (.type "method_descriptor")) (S:Hr X id r) (U:PE X o to)
  (F:attributeBase o name X.env (eval o X.env)=eval o X.env:=by rfl) (hline:(apos.endLine==cpos.line)=true:=by rfl) (hK:X.K=K:=by rfl):PE X (.Call (.Attribute o name apos) [] [] cpos) (Dr K T r to):=hK ▸ HJ O slot J S U F hline
theorem vH:∀(xs:LM) (F:LN),xs.length=F.length->(∀(j:Nat) x u,xs[j]?=Sm x->F[j]?=Sm u->RelV x u)->Br xs F
 | [],[],_,_=>.nil
 | [],u::F,hl,_=>by simp at hl
 | x::xs,[],hl,_=>by simp at hl
 | x::xs,u::F,hl,h=>.cons (h 0 x u rfl rfl) (vH xs F (by simpa using hl) λj a b J O=>h (j+1) a b J O)
section
variable{X:Cx}
theorem iC{α β : Type}{F:α->β->Prop}:∀ {l:List α} {m:List β} {j:Nat} {a:α} {b:β},LG F l m->l[j]?=Sm a->m[j]?=Sm b->F a b
 | _,_,0,_,_,.cons h _,e1,e2=>by
  cases e1;cases e2;exact h
 | _,_,j+1,_,_,.cons _ t,e1,e2=>iC (j:=j) t e1 e2
 | _,_,0,_,_,.nil,e1,_=>by cases e1
 | _,_,_+1,_,_,.nil,e1,_=>by cases e1
theorem ue:Mz "set" = Sm (.type "set"):=⋯
def Es(K:K_)(SO:so->LS->HO):LM->Hp->VK->Prop:=λxs H Q=>∃p,∃ns:LS,xs=[.ref p]/\ud K H p (ns.map V.int)/\ns.length<=60/\∀(l:so) (ds:LS),H l=Nn->ds.Nodup->(∀x,x∈ds ↔ x∈ns)->ds.length<=ns.length->Q (.ref l) (upd H l (SO l ds))
def sR(SO:so->LS->HO):LM->Hp->VK->Prop:=λxs H Q=>∃p,∃ds:LS,xs=[.ref p]/\H p=Sm (SO p ds)/\ds.length<=60/\∀(l:so) (ts:LS),H l=Nn->ts.Perm ds->ts.Pairwise (· <= ·)->Q (.ref l) (upd H l (.lst (ts.map V.int)))
end
def gw(xs:Lr):Prop:=∀(a b:Nat) (ha:a<xs.size) (hb:b<xs.size),a<b->xs[a]<xs[b]
theorem mE{xs:Lr}(h:gw xs)(j:Nat):∀(F lo hi:Nat),lo<=hi->hi<=xs.size->hi-lo<=F->(∀k (J:k<xs.size),k<lo->xs[k]<j)->(∀k (J:k<xs.size),hi<=k->j<=xs[k])->
  Oc xs j F lo hi<=xs.size/\(∀k (J:k<xs.size),k<Oc xs j F lo hi->xs[k]<j)/\(∀k (J:k<xs.size),Oc xs j F lo hi<=k->j<=xs[k])
 | 0,lo,hi,h1,h2,h3,h4,h5=>by
  have e:lo=hi:=()
  subst e;exact#[h2,h4,h5]
 | F+1,lo,hi,h1,h2,h3,h4,h5=>by
  unfold Oc;split
  .rename_i hlt;have O:(lo+hi)/2<xs.size:=()
   have U:xs.getD ((lo+hi)/2) j=xs[(lo+hi)/2]:=by simp[Array.getD,O]
   dsimp only;rw[U];split
   .rename_i hj;refine mE h j F _ hi () h2 () (λk J S=>?_) h5;rcases HU k ((lo+hi)/2) with z | z
    .exact Nat.lt_trans (h k _ J O z) hj
    .have:k=(lo+hi)/2:=()
     subst this;exact hj
   .rename_i hj;refine mE h j F lo _ () () () h4 (λk J S=>?_);rcases HU ((lo+hi)/2) k with z | z
    .exact xH (Nat.le_of_not_lt hj) (xE (h _ k O J z))
    .have:k=(lo+hi)/2:=()
     subst this;exact Nat.le_of_not_lt hj
  .have e:lo=hi:=()
   subst e;exact#[h2,h4,h5]
theorem gK(h:gw xs)(j:Nat):MK xs j<=xs.size/\(∀k (F:k<xs.size),k<MK xs j->xs[k]<j)/\(∀k (F:k<xs.size),MK xs j<=k->j<=xs[k]):=
 mE h j xs.size 0 xs.size (gV _) (zu _) () (λk _ z=>absurd z (Ji _)) (λk F z=>absurd F ())
theorem xX(h:gw xs):MK xs 0=0:=by
 let#[h1,h2,F]:=gK h 0;refine zbt λJ=>?_;exact absurd (h2 0 () ()) (Ji _)
theorem xN(h:gw xs)(hi:i<xs.size):MK xs (xs[i]+1)=i+1:=by
 let#[h1,h2,F]:=gK h (xs[i]+1);rcases Nat.lt_trichotomy (MK xs (xs[i]+1)) (i+1) with z | z | z
 .have:=F i hi ();lia
 .exact z
 .have J:=h2 (i+1) () z;have O:=h i (i+1) hi () ();lia
theorem pC{p x k:Nat}(O:p<=xs.size)(J:k<(ML xs p x).size):(ML xs p x)[k]=if h:k<p then xs[k]'() else if k=p then x else xs.getD (k-1) 0:=by
 have S:(ML xs p x).size=xs.size+1:=by
  unfold ML;simp;lia
 have e:(ML xs p x)[k]?=Sm (if h:k<p then xs[k]'() else if k=p then x else xs.getD (k-1) 0):=by
  unfold ML;rw[Array.getElem?_append];simp only[Array.size_push,Jl];split
  .rename_i h;rw[Array.getElem?_push];simp only[Jl];by_cases hkp:k<p
   .rw[KQ (),dif_pos hkp,Array.getElem?_extract];simp;lia
   .have:k=p:=()
    subst this;rw[KZ (),dif_neg hkp,KZ rfl]
  .rename_i h;rw[dif_neg (),KQ (),Array.getElem?_extract];have F:k-1<xs.size:=()
   rw[KZ (),show p+(k-(min p xs.size-0+1))=k-1 from ()];simp[Array.getD,F]
 rw[la J]at e;exact Option.some.inj e
theorem kF(h:gw xs){j:Nat}(Z:∀k (F:k<xs.size),xs[k]≠j):gw (ML xs (MK xs j) j):=by
 let#[h1,h2,S]:=gK h j;have W:(ML xs (MK xs j) j).size=xs.size+1:=by
  unfold ML;simp;lia
 generalize MK xs j=p at h1 h2 S W;intro a b ha U O;rw[pC h1 ha,pC h1 U];have J:∀k,k<xs.size->∃F:k<xs.size,xs.getD k 0=xs[k]:=λk F=>#[F,by simp[Array.getD,F]];by_cases a1:a<p
 .rw[dif_pos a1];by_cases b1:b<p
  .rw[dif_pos b1];exact h a b _ _ O
  .rw[dif_neg b1];by_cases b2:b=p
   .rw[KZ b2];exact h2 a () a1
   .rw[KQ b2];let#[F,e]:=J (b-1) ();rw[e];exact h a (b-1) _ _ ()
 .rw[dif_neg a1,dif_neg ()];by_cases a2:a=p
  .rw[KZ a2,KQ ()];let#[F,e]:=J (b-1) ();rw[e];have:=S (b-1) F ();have:=Z (b-1) F;lia
  .rw[KQ a2,KQ ()];let#[F,e]:=J (b-1) ();let#[Y,e2]:=J (a-1) ();rw[e,e2];exact h _ _ _ _ ()
theorem pO{t:Me}{j:Nat}(h:gw t.place)(e:∀i,t.slot j ≠ .live i):∀k (F:k<t.place.size),t.place[k]≠j:=λk F O=>by
 let#[h1,h2,J]:=gK h j;have S:MK t.place j=k:=by
  rcases Nat.lt_trichotomy (MK t.place j) k with z | z | z
  .have:=J (MK t.place j) () (zu _);have:=h (MK t.place j) k () F z;lia
  .exact z
  .have:=h2 k F z;lia
 refine e k ?_;unfold Me.slot;rw[S];dsimp only;rw[la F,O];simp
theorem my{t:Me}{hashAt:Nat->Int}{h:Int}:∀(F:Nat) (p:NR),(∀d,p.dummy=Sm d->t.slot d = .dummy)->∀j dm,NS t hashAt h F p=Sm (.empty j dm)->t.slot j = .empty/\∀d,dm=Sm d->t.slot d = .dummy
 | 0,p,_,j,dm,e=>by unfold NS at e;cases e
 | F+1,p,hp,j,dm,e=>by
  unfold NS at e;have J:∀q:NR,(t.advance q).dummy=q.dummy:=λq=>by unfold Ov;split<;>rfl
  cases hs:t.slot p.j with
  | empty=>
   rw[hs]at e;cases e;exact#[hs,hp]
  | dummy=>
   rw[hs]at e;refine my F _ (λd hd=>?_) j dm e;rw[J]at hd;cases hd;exact hs
  | live i=>
   rw[hs]at e;dsimp only at e;split at e
   .cases e
   .exact my F _ (λd hd=>by rw[J]at hd;exact hp d hd) j dm e
structure cU (L:Bool) (t:Me):Prop where
 led:t.led=L
 rise:gw t.place
theorem u7(n:Nat):gw (Array.range n):=λa b J O F=>by simpa using F
theorem gn{L:Bool}{t:Me}(h:cU L t)(n:Nat):cU L (t.standIn n):=#[h.led,u7 n]
theorem AY{L:Bool}{t:Me}(h:cU L t){hh:Int}{j:Nat}{b:Bool}(e:t.freeSlot hh=Sm (j,b)):cU L (t.put j).1:=by
 refine#[h.led,kF h.rise (pO h.rise ?_)];unfold Me.freeSlot at e;split at e
 .rename_i j' dm hpr;have:=my (t:=t) _ (t.probeStart hh) (λd hd=>by cases hd) j' dm hpr;cases dm with
  | none=>
   cases e;exact λi z=>by have:=this.1;rw[show (Nn:LW).getD j'=j' from rfl,this]at z;cases z
  | some d=>
   cases e;exact λi z=>by have:=this.2 d rfl;rw[show (Sm d:LW).getD j'=d from rfl,this]at z;cases z
 .cases e
theorem vi{L:Bool}{t:Me}(h:cU L t)(es:Array (Int×KE))(hh:Int)(x:KE):cU L (layNew t es hh x).2.1:=by
 unfold layNew;cases e:t.freeSlot hh with
 | none=>exact gn h _
 | some q=>
  let#[j,b]:=q;have hg:=AY h e;show cU L ((t.put j).1.orStandIn _);unfold Me.orStandIn;split
  .exact hg
  .exact gn hg _
theorem lL{l:LJ}(h:l.Pairwise (· < ·)):gw l.toArray:=λa b J O F=>by
 have:=(List.pairwise_iff_getElem.mp h) a b (by simpa using J) (by simpa using O) F;simpa using this
theorem yx{L:Bool}{t:Me}(h:cU L t)(es:Array (Int×KE))(n:Nat):cU L (relayAll t es n).2.1:=by
 unfold relayAll;split
 .rename_i t' order e;dsimp only;split
  .unfold Me.relaid Me.laid at e;cases ho:Me.layClean (Me.sizeAbove n-1) (es.map (·.1)) with
   | none=>rw[ho]at e;cases e
   | some owner=>
    rw[ho]at e;cases e;refine#[h.led,lL ?_];refine List.pairwise_map.mpr ?_;refine List.Pairwise.filterMap _ ?_ List.pairwise_lt_range;intro a b F x hx y J;let#[k,_,rfl]:=Lb.mp hx;let#[O,_,rfl]:=Lb.mp J;exact F
  .exact gn h _
 .exact gn h _
section
variable{prog:Lw}{w:Lu}{K:Type}[DecidableEq K]{knd:KeyKind prog w K}{A:Mc}{E:LH}{s:F_}{G:Me->Prop}
def Apart(knd:KeyKind prog w K)(l:List (Int×KE)):Prop:=l.Pairwise λe e'=>∀k,knd.is k e.2=true->knd.is k e'.2=false
theorem Apart.perm{l O:List (Int×KE)}(h:Apart knd l)(p:O.Perm l):Apart knd O:=
 (p.pairwise_iff λ{x y} F k J=>by
  cases e:knd.is k x.2 with
  | false=>rfl
  | true=>rw[F k e]at J;cases J).mpr h
theorem Apart.push{l:List (Int×KE)}{k:K}{x:KE}{hh:Int}(h:Apart knd l)(S:∀e∈l,knd.is k e.2=false)(Y:knd.is k x=true):Apart knd (l++[(hh,x)]):=by
 refine List.pairwise_append.mpr #[h,List.pairwise_singleton _ _,λe U b O J F=>?_];rw[KU.mp O];show knd.is J x=false;rw[KeyKind.is_eq_decide Y J];refine decide_eq_false λW=>?_;subst W;rw[S e U]at F;cases F
structure uK (knd:KeyKind prog w K) (G:Me->Prop) (o:Obj) (es:Array (Int×KE)) (ep:Nat) (t:Me) (S:K->Bool) (n:Nat):Prop where
 ex:o.ExactSet
 dat:o.data = .set es ep t
 el:ElemsOf knd es.toList
 mem:∀k,S k=true ↔ ∃e∈es.toList,knd.is k e.2=true
 few:es.size<scanBound
 fit:t.fits es.size=true
 num:es.size=n
 good:G t
 apart:Apart knd es.toList
def GX(knd:KeyKind prog w K)(G:Me->Prop)(h:Lv)(a:so)(S:K->Bool)(n:Nat):Prop:=∃o es ep t,h.get? a=Sm o/\uK knd G o es ep t S n
theorem stored{h:Lv}{t:Me}{S:K->Bool}{es':Array (Int×KE)}{t':Me}{S':K->Bool}{n':Nat}(O:h.get? a=Sm o)(T:uK knd G o es ep t S n)
  (J:∀o',o'.ExactSet->o'.data = .set es' (ep+1) t'->uK knd G o' es' (ep+1) t' S' n'):∃o',(h.update a (Obj.putSet es' t')).get? a=Sm o'/\uK knd G o' es' (ep+1) t' S' n':=by
 have F:=putSet_of es' t' T.dat;have hg:=Iu (Obj.putSet es' t') O (by rw[F];rfl);rw[F]at hg;exact#[_,hg,J _ T.ex rfl]
theorem uG(gr:∀t es n,G t->G (relayAll t es n).2.1){g:Bool->Sem Unit}(hg:∀(b:Bool) (s₁:F_) (Q':Unit->F_->Prop),Q' Unit.unit s₁->G_ (model prog w) A (g b) Q' E s₁)
      {t:Me} {S:K->Bool}  (ho:s.heap.get? a=Sm o) (T:uK knd G o es ep t S n)
  {F:Array (Int×KE)} {t2:Me} {S':K->Bool} {n':Nat} (T1:∀o',o'.ExactSet->o'.data = .set F (ep+1) t2->uK knd G o' F (ep+1) t2 S' n') {J:Bool} {R:Option Bool->F_->Prop}
  (h:∀h',MH a s.heap h'->GX knd G h' a S' n'->R (Sm true) {s with heap:=h'}) :
  G_ (model prog w) A (do
    storeSet a F t2
    if (!J&&t2.tooFull)=true then do
      g (relayAll t2 F (Nv F.size)).2.2
      storeSet a (relayAll t2 F (Nv F.size)).1 (relayAll t2 F (Nv F.size)).2.1
      pure (Sm true)
     else pure (Sm true)) R E s:=by
 let#[o1,Z,O]:=stored ho T T1;refine KL (wpAny_storeSet_of ho T.dat ?_ (Oe O.few));have U:=ix s.heap a (Obj.putSet F t2);split
 .have W:=relayAll_perm t2 F (Nv F.size);have ab:=relayAll_fits t2 F (Nv F.size);have Y:=gr t2 F (Nv F.size) O.good;generalize relayAll t2 F (Nv F.size)=Rl at W ab Y |-;let#[ac,t3,ad]:=Rl
  dsimp only at W ab Y |-
  have hsz:ac.size=F.size:=by rw[<-ui,W.length_eq,ui]
  let#[o2,ag,U2]:=stored (es':=ac) (t':=t3) (S':=S') (n':=n') Z O λo' ex da=>#[ex,da,O.el.perm W,λk'=>(O.mem k').trans #[λ⟨e,he,q⟩=>#[e,W.mem_iff.mpr he,q],λ⟨e,he,q⟩=>#[e,W.mem_iff.mp he,q]],by rw[hsz];exact O.few,ab,by rw[hsz];exact O.num,Y,O.apart.perm W];refine KL (hg _ _ _ ?_);refine KL (wpAny_storeSet_of Z O.dat ?_ (Oe U2.few));exact KP (h _ (U.trans (ix _ a _)) (yI4 _ _ _ _ #[ag,U2]))
 .exact KP (h _ U (yI4 _ _ _ _ #[Z,O]))
theorem Lm(gl:∀t es h x,G t->G (layNew t es h x).2.1)(gr:∀t es n,G t->G (relayAll t es n).2.1)(gp:∀t:Me,G t->G {t with plain:=false})
  {a:so} {S:K->Bool} {n:Nat} {k:K} {x:KE} {Q:Bool->F_->Prop} (hkey:knd.is k x=true) (hsc:x.scannable=true) (hS:GX knd G s.heap a S n) (hroom:n+1<scanBound)
  (h:∀h',MH a s.heap h'->GX knd G h' a (λZ=>S Z||decide (Z=k)) (if S k then n else n+1)->Q (!S k) {s with heap:=h'}) :
  G_ (model prog w) A (setAddHashed a x (knd.hash k)) Q E s:=by
 revert hS;refine yF4 λo es ep t=>yB2 λho T=>?_;have a6:es.size+1<scanBound:=by rw[T.num];exact hroom
 unfold setAddHashed setAddHashedIn;refine Ms (KL (M9 ho T.dat T.fit ?_));dsimp only;rw[byScan_of hsc T.few T.el];simp only[↓reduceIte];unfold setAddByScan;refine KL ?_;refine KL (MB ?_);refine KL (wpAny_setScan_of hkey ho T.dat T.fit T.el ?_);cases hr:List.findIdx? (λe=>knd.is k e.2) es.toList with
 | some j=>
  dsimp only;let#[hj,a3,_]:=List.findIdx?_eq_some_iff_getElem.mp hr;have W:S k=true:=(T.mem k).mpr #[es.toList[j],xF hj,a3];refine KP (KP ?_);have e:s={s with heap:=s.heap}:=by cases s;rfl
  have q:=h s.heap (Ox a s.heap) ⟨o,es,ep,t,ho,T.ex,T.dat,T.el,λZ=>by
   rw[Bool.or_eq_true,decide_eq_true_eq,<-T.mem Z];exact⟨λhk=>hk.elim id (λe=>e ▸ W),.inl⟩,T.few,T.fit,by rw[W];exact T.num,T.good,T.apart⟩
  rw[W]at q;rw[e];exact q
 | none=>
  dsimp only;have al:=List.findIdx?_eq_none_iff.mp hr;have W:S k=false:=by
   cases hk:S k with
   | false=>rfl
   | true=>let#[e,he,hp]:=(T.mem k).mp hk;rw[al e he]at hp;cases hp
  have as:∀(b:Bool) {s₁:F_} {Q':Unit->F_->Prop},Q' Unit.unit s₁->G_ (model prog w) A (match b with | true=>rule "set.scan.the-table-gave-way" | false=>pure Unit.unit) Q' E s₁:=λb s₁ Q' hq=>by
   cases b<;>first | exact KP hq | exact MB hq
  have F:=layNew_perm t es (knd.hash k) x;have J:=layNew_fits t es (knd.hash k) x;have O:=gl t es (knd.hash k) x T.good;generalize layNew t es (knd.hash k) x=Ly at F J O |-;let#[ab,t1,ag,a5]:=Ly
  dsimp only at F J O |-
  rw[Jh]at F;have ad:ab.size=n+1:=by rw[<-ui,F.length_eq,jn,ui,T.num];rfl
  have mk:∀t2:Me,t2.fits ab.size=true->G t2->∀o',o'.ExactSet->o'.data = .set ab (ep+1) t2->uK knd G o' ab (ep+1) t2 (λZ=>S Z||decide (Z=k)) (n+1):=λt2 a4 g2 o' ex da=>
   #[ex,da,(T.el.push hkey hsc).perm F,mem_push_iff hkey T.mem F,by rw[ad];exact hroom,a4,ad,g2,(T.apart.push (λe he=>by have:=al e he;simpa using this) hkey).perm F]
  refine KL (as _ ?_);have ac:∀h',MH a s.heap h'->GX knd G h' a (λZ=>S Z||decide (Z=k)) (n+1)->Q true {s with heap:=h'}:=by
   intro h' U Y;have:=h h' U;rw[W]at this;exact this Y
  split
  .refine KL ?_;rw[hashByValue_scannable 8 hsc];refine KP ?_;refine uG gr ?_ ho T (mk _ ?_ ?_) ?_
   .intro b s₁ Q' hq;cases b<;>first | exact KP hq | exact MB hq
   .split
    .exact J
    .exact Me.fits_plain_off J
   .split
    .exact O
    .exact gp _ O
   .intro h' U Y;dsimp only;exact MC (ac h' U Y)
  .refine KL (KP ?_);simp only[↓reduceIte];refine uG gr ?_ ho T (mk _ J O) ?_
   .intro b s₁ Q' hq;cases b<;>first | exact KP hq | exact MB hq
   .intro h' U Y;dsimp only;exact MC (ac h' U Y)
end
section
variable{prog:Lw}{w:Lu}{A:Mc}{R:M6->F_->Prop}{I:so}{fp wr:LL}{Gm:Array Nq->Array Nq->Prop}{n:Nat}{P:Nat->KE->Prop}{St:Nat->F_->Prop}{L:Bool}
theorem mY{t:Me}(h:cU L t):cU L {t with plain:=false}:=#[h.led,h.rise]
theorem GX.at'[DecidableEq K]{knd:KeyKind prog w K}{G:Me->Prop}{h h':Lv}{a:so}{S S':K->Bool}{m m':Nat}(x:GX knd G h a S m)(e:∀o,h.get? a=Sm o->h'.get? a=Sm o)(F:∀k,S k=S' k)(O:m=m'):GX knd G h' a S' m':=by
 revert x;refine yF4 λo es ep t=>yB2 λJ T=>?_;have:S=S':=funext F;subst this;subst O;exact yI4 o es ep t #[e o J,T]
end
section
variable{prog:Lw}{w:Lu}{A:Mc}{E:LH}{s:F_}
noncomputable def db(w:Lu):Bool:=!(w.params.followText "set-order")
theorem Dw(a:KE){Q₁:LH}
  (h:Q₁ (.ref s.heap.objs.size) {s with heap:=s.heap.push {cls:=.type "set",dict:=Nn,data:=.set #[] 0 (.fresh 0 0 (db w))}}) :
  codeAny (model prog w) A (.call (.builtin "set.__new__") #[[.type "set",a],[]]) (wants Q₁ E) s:=by
 refine codeAny_of_tree ?_;show G_ _ A.in1 (do checkBuiltinCall "set.__new__" #[[.type "set",a],[]];again (.builtin "set.__new__" #[[.type "set",a],[]])) _ _ s;refine KL (N1 (F.newCall_set_1 a) (KP #[NF F.plain_set_new _,Nb F.entry_set_new ?_]));rw[Jd F.plain_set_new _];unfold Mp.«set.__new__» Mp.Frozenset.newClass;have J:=sub_set_self;let#[S,g,d,O,os]:=s;dsimp only
 wp_walk
 refine N2 (KP ?_);dsimp only;simp only[newObj];refine KL (wpAny_alloc (KP ?_));exact KP h
end
section
variable{prog:Lw}{w:Lu}{A:Mc}{R:M6->F_->Prop}{I:so}{fp wr:LL}{Gm:Array Nq->Array Nq->Prop}{n:Nat}{P:Nat->KE->Prop}{St:Nat->F_->Prop}{L:Bool}
theorem Fd[DecidableEq K](val:Nat->K)(i:Nat)(k:K):((List.range (i+1)).map val).contains k=(((List.range i).map val).contains k||decide (k=val i)):=by
 rw[List.range_succ,yH,List.contains_eq_any_beq,List.contains_eq_any_beq,List.any_append];congr 1;by_cases e:k=val i
 .simp[e]
 .simp[e]
theorem C8{K:Type}[DecidableEq K]{knd:KeyKind prog w K}(W:WalksS prog w A.in1 I fp wr Gm n P St)(S:so)(U:S∉fp)(val:Nat->K)(ag:∀i v,P i v->knd.is (val i) v=true/\v.scannable=true)(O:n+1<scanBound) :
  ∀(k i:Nat) (s:F_),n-i=k->i<=n->St i s->(∃m,m<=i/\GX knd (cU L) s.heap S (λk'=>((List.range i).map val).contains k') m)->
   (∀s',Moved (S::wr) Gm s s'->(∃m,m<=n/\GX knd (cU L) s'.heap S (λk'=>((List.range n).map val).contains k') m)->R (.ok (.ret .none)) s')->
   codeAny (model prog w) A (.builtin "set.update.loop" #[[.ref S,.ref I],[]]) R s:=by
 have ad:S∉wr:=λh=>U (W.sub _ h);have F:∀b∈wr,b∈S::wr:=λb O=>yS _ O;intro k
 induction k with
 | zero=>
  rintro i s hk hi J ⟨m,as,hS⟩ hR;have a3:i=n:=()
  subst a3;refine Nb zbc ?_;rw[Jd zaO _];show G_ _ A.in1 (pyNext (.ref I) >>= _) _ _ s;refine KL (W.done s _ _ J λs' hm=>?_);show G_ _ A.in1 (ret Mu) _ _ s';exact KP (hR s' (hm.mono F) #[m,as,hS.at' (λo e=>hm.heap S _ ad e) (λ_=>rfl) rfl])
 | succ k ih=>
  rintro i s hk hi J ⟨m,as,hS⟩ hR;have ac:i<n:=()
  refine Nb zbc ?_;rw[Jd zaO _];show G_ _ A.in1 (pyNext (.ref I) >>= _) _ _ s;refine KL (W.item i s _ _ ac J λv s' hP ab hm=>?_);let#[hv,a6]:=ag i v hP;have a5:=hS.at' (h':=s'.heap) (λo e=>hm.heap S _ ad e) (λ_=>rfl) rfl;show G_ _ A.in1 (holding [v] (setAdd S v) >>= _) _ _ s';refine KL (Ms ?_);unfold setAdd;refine Ms ?_;refine KL (knd.pyHash (k:=val i) hv ?_);refine Lm (G:=cU L) (knd:=knd) (s:={s' with toks:=s'.toks+1}) (λt es h x g=>vi g es h x) (λt es m g=>yx g es m) (λt g=>mY g) hv a6 a5 () λh' Z a7=>?_;refine KP #[NF zaO _,ih (i+1) _ () ac (W.frame _ s' _ _ ab (Nat.le_succ _) λb O o e=>?_) #[_,?_,a7.at' (h':=h') (λo e=>e) (λk'=>(Fd val i k').symm) rfl] λa4 Y al=>?_]
  .rw[Z.2 b (λh:b=S=>U (by rw[<-h];exact O))];exact e
  .split<;>lia
  .refine hR a4 (Moved.trans W.gtrans ((hm.mono F).then_heap (Nat.le_succ _) λb o O e=>?_) Y) al;rw[Z.2 b (λh:b=S=>O (by rw[h];exact yy))];exact e
end
section
variable{prog:Lw}{w:Lu}{A:Mc}{E:LH}{s:F_}
noncomputable def jq(w:Lu):Obj:={cls:=.type "set",dict:=Nn,data:=.set #[] 0 (.fresh 0 0 (db w))}
theorem ql{l:so}{items:LY}{Po:Lv->Prop}{Q:LH}(hh:A.handled=Nn)(hl:s.heap.IsList l items)
  (W:∀(R:M6->F_->Prop) (s1:F_) (I:so) (St:Nat->F_->Prop),I=s.heap.objs.size+1->s1.heap.get? s.heap.objs.size=Sm (jq w)->(∀b o,s.heap.get? b=Sm o->s1.heap.get? b=Sm o)->
   WalksS prog w A.in1.in1.in1 I [I,l] [I] (λa b=>b=a) items.size (λi v=>items[i]?=Sm v) St->St 0 s1->s.heap.objs.size∉[I,l]->(∀s',Moved [s.heap.objs.size,I] (λa b=>b=a) s1 s'->Po s'.heap->R (.ok (.ret .none)) s')->
   codeAny (model prog w) A.in1.in1 (.builtin "set.update.loop" ⟨[.ref s.heap.objs.size,.ref I],[]⟩) R s1)
  (h:∀(h':Lv) (tk:Nat),Po h'->(∀b o,b<s.heap.objs.size->s.heap.get? b=Sm o->h'.get? b=Sm o)->Q (.ref s.heap.objs.size) {s with heap:=h',toks:=tk}) :
  G_ (model prog w) A (call (.type "set") [.ref l]) Q E s:=by
 let#[c,tl,bg]:=F.called_set.mro;have a5:=F.called_set.made;have be:=F.called_set.sub;refine wpAny_call (codeAny_of_tree ?_);show G_ _ _ (callAny (.type "set") _) _ _ _;refine KP #[Code.quiet_builtin _ ⋯,Nb F.entry_type_call ?_];rw[Mc.under_plain (weight_type_call_type "set" [.ref l] []) rfl];have h1:=F.called_set.notType;have h2:=F.called_set.canCreate;have b3:=F.typeCall_set_1 (.ref l)
 repeat (any_goals (first | assumption | wp_step))
 refine NL (Dw (.ref l) (E:=E) (Q₁:=λobj s₁=>obj = .ref s.heap.objs.size/\s₁={s with heap:=s.heap.push (jq w)}) #[rfl,rfl]) λr s₁ hr=>?_;cases r with
 | error e=>exact hr
 | ok fl=>
  cases fl with
  | ret obj=>
   let#[rfl,rfl]:=hr;have hS:(s.heap.push (jq w)).get? s.heap.objs.size=Sm (jq w):=xb _ rfl;have hT:F_.TypeIs {s with heap:=s.heap.push (jq w)} (.ref s.heap.objs.size) "set" := #[_,hS,rfl];have b2:=F.called_set.init.lookup;have b1:=F.called_set.init.bind (.ref s.heap.objs.size)
   repeat (any_goals (first | assumption | wp_step))
   refine NL (codeAny_call_builtin (R:=wants (λr s₂=>r = .none/\∃h' tk,s₂={s with heap:=h',toks:=tk}/\
     Po h'/\
     (∀b o,b<s.heap.objs.size->s.heap.get? b=Sm o->h'.get? b=Sm o)) E) F.called_set.init.plain F.entry_set_init (check_set_init_1 hT ?_)) λr₂ s₂ S=>?_
   .refine yE1 hl λol=>yB3 λab al=>yF1 λnl ad=>?_;let#[bh,U,a8,J]:=ol;simp only at al ad;subst al;subst ad;have ac:(s.heap.push (jq w)).get? l=Sm {cls:=.type "list",dict:=U,data:=.seq items nl,slots:=J}:=yK _ ab;have bt:=F.sub_list_set;have bp:=F.sub_list_frozenset;have b0:(M5 "list" == M5 "dict")=false:=∅;have Z:(s.heap.push (jq w)).IsList l items:=#[_,ac,rfl,nl,rfl];unfold Mp.«set.__init__» noKeywords Mp.Frozenset.updateFrom;generalize hPI:pyIter=PI
    wp_walk
    subst hPI;refine wpAny_pyIter_list Z ?_;refine KL (wpAny_runValue ?_);have Y:l<s.heap.objs.size:=yo ab;have bc:A.in1.in1.in1.handled=Nn:=by simp[hh]
    have ag:l≠(s.heap.push (jq w)).objs.size:=by
     rw[tV];exact xg (Jp Y)
    have as:s.heap.objs.size∉[(s.heap.push (jq w)).objs.size,l]:=by
     rw[tV];simp only[yk,za9,yT,or_false,not_or];exact#[xg (zaW _),II Y]
    refine W _ _ _ _ (tV ..) (yK _ hS) (λb o e=>yK _ (yK _ e)) ((Walks.list bc _ l ag items).toS) #[#[_,xb _ rfl,rfl,rfl],(Z.push _)] as ?hR
    case hR=>
     intro s' hm O;let#[h',g',d',a3,a4]:=s';have eg:g'=s.gens:=hm.gens;have ed:d'=s.drawn:=hm.drawn;have eo:a4=s.os:=hm.os;subst eg;subst ed;subst eo;show G_ _ _ _ _ _ _;refine KP ?_;show G_ _ _ (ret Mu) _ _ _;refine KP #[rfl,yI2 h' a3 #[rfl,O,λb o hb e=>?_]];have a7:b≠s.heap.objs.size:=xg hb;have a6:b≠(s.heap.push (jq w)).objs.size:=by
      rw[tV];exact xg (Jp hb)
     exact hm.heap b o (by simp only[yk,za9,yT,or_false,not_or];exact#[a7,a6]) (yK _ (yK _ e))
   .cases r₂ with
    | error e=>exact S
    | ok fl₂=>
     cases fl₂ with
     | ret r=>
      revert S;refine yB2 ?_;rintro rfl;refine yF2 λh' tk=>yB3 ?_;rintro rfl O a9
      repeat (any_goals (first | assumption | wp_step))
      exact h _ _ O a9
     | _=>exact S.elim
  | _=>exact hr.elim
theorem p6[DecidableEq K]{knd:KeyKind prog w K}{l:so}{items:LY}(val:Nat->K){Q:LH}(hh:A.handled=Nn)(hl:s.heap.IsList l items)(F:∀(i:Nat) (v:KE),items[i]?=Sm v->knd.is (val i) v=true/\v.scannable=true)(U:items.size+1<scanBound)
  (h:∀(h':Lv) (S:Nat),(∃m,m<=items.size/\GX knd (cU (db w)) h' s.heap.objs.size (λY=>((List.range items.size).map val).contains Y) m)->
   (∀b o,b<s.heap.objs.size->s.heap.get? b=Sm o->h'.get? b=Sm o)->Q (.ref s.heap.objs.size) {s with heap:=h',toks:=S}) :
  G_ (model prog w) A (call (.type "set") [.ref l]) Q E s:=
 ql hh hl (λR s1 I St _ Z _ W h0 J O=>C8 (L:=db w) W _ J val F U (items.size-0) 0 _ () (gV _) h0 ⟨0,zu _,_,#[],0,.fresh 0 0 (db w),Z,
  ⟨rfl,rfl,rfl⟩,rfl,λe he=>by simp at he,λk=>'~',∅,rfl,rfl,⟨rfl,λa b ha=>absurd ha (Ji _)⟩,List.Pairwise.nil⟩ O) h
theorem EA[DecidableEq K]{knd:KeyKind prog w K}{h:Lv}{a:so}{S:K->Bool}{n:Nat}{L:Bool}{Sh:Int×KE->Prop}(F:Int×KE->K)(W:∀e k,knd.is k e.2=true->Sh e/\k=F e)(bk:∀e,Sh e->knd.is (F e) e.2=true)(x:GX knd (cU L) h a S n) :
  ∃o es ep t,h.get? a=Sm o/\o.ExactSet/\o.data = .set es ep t/\es.size<scanBound/\t.fits es.size=true/\cU L t/\(∀e∈es.toList,Sh e)/\(es.toList.map F).Nodup/\(∀k,k∈es.toList.map F ↔ S k=true)/\(es.toList.map F).length=n:=by
 revert x;refine yF4 λo es ep t=>yB2 λZ T=>?_;have O:∀e∈es.toList,Sh e:=λe J=>by
  let#[#[k,O,_],_]:=T.el e J;exact(W e k O).1
 refine yI4 o es ep t #[Z,T.ex,T.dat,T.few,T.fit,T.good,O,?_,λk=>?_,by rw[ze,ui];exact T.num]
 .refine List.pairwise_map.mpr (List.Pairwise.imp_of_mem (λ{x y} hx Y U e=>?_) T.apart);have h1:=U (F x) (bk x (O x hx));rw[e,bk y (O y Y)]at h1;cases h1
 .rw[T.mem,K3];constructor
  .rintro⟨e,J,rfl⟩;exact#[e,J,bk e (O e J)]
  .rintro⟨e,J,z⟩;exact#[e,J,(W e k z).2.symm]
theorem vt[DecidableEq K]{ns:List K}(d x:K):((List.range ns.length).map λi=>ns.getD i d).contains x=true ↔ x∈ns:=by
 rw[List.contains_iff_mem,K3];constructor
 .rintro⟨i,hi,rfl⟩;rw[xV,zg (Lg.mp hi)];exact xF _
 .intro hx;let#[i,hi,e]:=Le.mp hx;exact#[i,Lg.mpr hi,by rw[xV,zg hi,e];rfl]
end
noncomputable def j4(e:Int×KE):Int:=match e.2 with
 | .int d _=>d
 | _=>0
def GS(w:Lu)(h:Lv)(a:so)(ds:LS):Prop:=∃o es ep t,h.get? a=Sm o/\o.ExactSet/\o.data = .set es ep t/\es.size<scanBound/\t.fits es.size=true/\cU (db w) t/\(∀e∈es.toList,∃tk,e.2 = .int (j4 e) tk)/\es.toList.map j4=ds
noncomputable def oC(w:Lu)(a:so)(ds:LS):HO:=.ext λh=>GS w h a ds
theorem Kr{prog:Lw}{w:Lu}{h:Lv}{S:Int->Bool}(x:GX (Mg prog w) (cU (db w)) h a S n):∃ds,GS w h a ds/\ds.Nodup/\(∀k,k∈ds ↔ S k=true)/\ds.length=n:=by
 let#[o,es,ep,t,h1,h2,U,h4,h5,h6,Z,W,Y,O]:=EA (Sh:=λe=>∃F,e.2 = .int (j4 e) F) j4 (λe k hk=>by
  let#[F,J]:=JK hk;have:j4 e=k:=by unfold j4;rw[J]
  rw[this];exact⟨⟨F,J⟩,rfl⟩) (λe ⟨F,J⟩=>by rw[J];exact intKind_is _ _ _ _) x
 exact#[_,yI4 o es ep t #[h1,h2,U,h4,h5,h6,Z,rfl],W,Y,O]
section
variable{X:Cx}
theorem Ad{m:Nat}(hr:Cm m X.A){K:K_}(hK:X.K=K):B3 X (.type "set") (Es K (oC X.w)):=by
 subst hK;intro pins s σ H xs us Q I r h;revert h;refine yF2 λp ns=>yB4 ?_;rintro rfl hq ab q;let#[u,rfl,ru]:=dv r;cases ru;refine yE1 (I.list hq) λU=>yB3 λrv pl hz=>?_;have F:U.length=ns.length:=by rw[<-rv.length,ze]
 refine p6 (knd:=Mg X.prog X.w) (λi=>ns.getD i 0) hr.hd pl.isList (λi v hv=>by
  let#[t,rfl]:=M7.int_at (by simpa using mT rv) i v (by simpa using hv);exact⟨intKind_is _ _ _ _,rfl⟩) (by simp only[xU];unfold scanBound;lia) λh' tk ⟨m,hm,hS⟩ hk=>?_
 refine yE1 (Kr hS) λds=>yB4 λhg S J O=>?_;refine yE4 (id hg) λo es ep t=>yB2 λZ Y=>?_;refine yI2 (.ref s.heap.objs.size) _ #[I.laid (λb o e=>hk b o (yo e) e) (zu _) (show BD X.prog X.w _ h' _ (oC X.w s.heap.objs.size ds) from #[hg,#[o,Z],λh1 h2 g k=>?_]),rfl,q _ ds (I.hok.fresh (zu _)) S (λx=>?_) ?_]
 .revert g;refine yF4 λo es ep t=>yB2 λZ Bv=>?_;exact yI4 o es ep t #[k o Z,Bv]
 .rw[J,xU,F];exact vt 0 x
 .rw[O,<-F];simpa using hm
end
theorem j7{α:Type}:∀(l:List α) (i:Nat) (hi:i<l.length),(l[i]::l.eraseIdx i).Perm l
 | x::l,0,_=>.rfl
 | x::l,i+1,hi=>(List.Perm.swap x (l[i]'(by simpa using hi)) (l.eraseIdx i)).trans (List.Perm.cons x (j7 l i (by simpa using hi)))
theorem vL{α:Type}(next:Nat->Nat):∀(F k:Nat) (left:List α) (out:Array α),F=left.length->(pickOrder.go next F k left out).toList.Perm (out.toList++left)
 | 0,k,left,out,h=>by
  have:left=[]:=zaP h.symm;subst this;unfold pickOrder.go;simp
 | F+1,k,left,out,h=>by
  unfold pickOrder.go;have hi:next k%left.length<left.length:=Nat.mod_lt _ ()
  rw[zg hi];dsimp only;refine(vL next F (k+1) _ _ (by rw[List.length_eraseIdx];rw[KZ hi];lia)).trans ?_;rw[Jh,uP];refine List.Perm.append_left _ ?_;exact j7 _ _ hi
theorem AQ{α:Type}(next:Nat->Nat)(xs:Array α):(pickOrder next xs).toList.Perm xs.toList:=by
 unfold pickOrder;have:=vL next xs.size 0 xs.toList #[] '~'
 simpa using this
section
variable{M:Model}{A:Mc}{E:LH}
theorem vc{s:F_}{Q:Nat->F_->Prop}(F:n≠0)(h:∀i d',i<n->Q i {s with drawn:=d'}):G_ M A (choose .order n) Q E s:=λΓ p J=>by
 show Sem.wp M Γ (.choose .order n .pure) _ _ _ _;rw[Sem.wp_choose];refine#[F,?_];rw[Sem.wp_pure];exact h _ _ (Nat.mod_lt _ ())
theorem pG{α:Type}:∀(n:Nat) (xs:List α) (s:F_) (Q:List α->F_->Prop),n=xs.length->(∀ys d',ys.Perm xs->Q ys {s with drawn:=d'})->G_ M A (drawOrder n xs) Q E s
 | 0,xs,s,Q,hn,h=>by
  have:xs=[]:=zaP hn.symm;subst this;unfold drawOrder;exact KP (by have:=h [] s.drawn .nil;cases s;exact this)
 | n+1,[],s,Q,hn,h=>by simp at hn
 | n+1,x::xs,s,Q,hn,h=>by
  unfold drawOrder;refine KL (vc '~' λi d' hi=>?_);rw[zg hi];dsimp only;refine KL (pG n _ _ _ (by rw[List.length_eraseIdx,KZ hi];lia) λys F J=>?_);refine KP ?_;exact h _ F ((List.Perm.cons _ J).trans (j7 _ _ hi))
end
theorem BP:Slot "set_iterator" "__next__" "set_iterator.__next__" :=
 .of (owner := "set_iterator") (n := "__next__") (by rw[typeLookup_type,builtinLookup_eq_fast];kernel_rfl) ⋯ ⋯ ⋯
  (by first | exact .inl ⋯ | exact .inr ⋯) (by rw[isSubtype_type];kernel_rfl)
theorem fX:entryFor table "set_iterator.__next__" = Sm Mp.«set_iterator.__next__»:=entryFor_of_tree (by kernel_rfl)
theorem oo:entryFor table "set.__iter__" = Sm Mp.«frozenset.__iter__»:=
 entryFor_alias (id' := "frozenset.__iter__") (by kernel_rfl) rfl ⋯ (by kernel_rfl)
theorem s_ : Manifest.owners.lookup (String.ofList ['r','o','t','a','r','e','t','i','_','t','e','s'].reverse) = Sm Manifest.sig_set_iterator := by kernel_rfl
theorem gF(a:KE):argsOk "set_iterator.__next__" #[[a],[]]:=by
 unfold argsOk;rw [signature?_of (id := "set_iterator.__next__") (n:=['_','_','t','x','e','n','_','_']) (o:=['r','o','t','a','r','e','t','i','_','t','e','s']) (by kernel_rfl) s_];kernel_rfl
section
variable{prog:Lw}{w:Lu}{A:Mc}{E:LH}{s:F_}
noncomputable def g_(w:Lu)(a:so)(ep:Nat)(es:Array (Int×KE)):LN:=((if w.params.followText "set-order" then pickOrder (w.params.setOrder a ep) es else es).toList.map (·.2))
noncomputable def dU(w:Lu)(t:Me)(i:Nat):Nat:=if w.params.followText "set-order" then 0 else if i=0 then 0 else t.place.getD (i-1) 0+1
theorem j1(a:so)(ep:Nat)(es:Array (Int×KE)):(g_ w a ep es).Perm (es.toList.map (·.2)):=by
 unfold g_;split
 .exact(AQ _ _).map _
 .exact .rfl
theorem pD{a:so}{o:Obj}{es:Array (Int×KE)}{ep:Nat}{t:Me}{i:Nat}{Q:Option (KE×Nat)->F_->Prop}(W:s.heap.get? a=Sm o)(hd:o.data = .set es ep t)(hf:t.fits es.size=true)(hg:cU (db w) t)(hi:i<=es.size)
  (Y:w.params.followText "set-order" = true\/(!t.plain&&decide (es.size>1))=false) (h:Q (((g_ w a ep es)[i]?).map λx=>(x,dU w t (i+1))) s):G_ (model prog w) A (setNext a (dU w t i) i ep) Q E s:=by
 have Z:t.place.size=es.size:=by
  unfold Me.fits at hf;simp only[KI,beq_iff_eq]at hf;exact hf.1
 unfold setNext;refine KL (M9 W hd hf ?_);refine KL ?_;unfold setsByText;refine KL (N2 (KP ?_));show G_ _ _ (if w.params.followText "set-order" = true then _ else _) _ _ _;unfold g_ dU at h;unfold dU;cases hb:w.params.followText "set-order" with
 | true=>
  rw[hb]at h;simp only[if_true]at h |-
  rw[KQ '~'];refine KL ?_;unfold setWalk;refine KL (M9 W hd hf ?_);refine KL ?_;unfold setsByText;refine KL (N2 (KP ?_));show G_ _ _ (if w.params.followText "set-order" = true then _ else _) _ _ _;rw[KZ hb];refine KL (N2 (KP ?_));refine KP ?_;rw[yf,Option.map_map,Ip]at h;exact h
 | false=>
  rw[hb]at h;simp only[td,if_false]at h |-
  have J:t.led=true:=by rw[hg.led];unfold db;rw[hb];rfl
  refine NT (λU=>?_) (λ_=>?_)
  .rcases Y with z | z
   .rw[hb]at z;cases z
   .exact absurd (z.symm.trans U) ∅
  refine KL ?_;show G_ _ _ (if (!t.led && !es.isEmpty)=true then unsupported "set:maker-not-led" else pure Unit.unit) _ _ _;rw[KQ (by rw[J];simp)];refine KP (KP ?_);have S:MK t.place (if i=0 then 0 else t.place.getD (i-1) 0+1)=i:=by
   by_cases h0:i=0
   .rw[KZ h0,xX hg.rise,h0]
   .have O:i-1<t.place.size:=()
    rw[KQ h0,show t.place.getD (i-1) 0=t.place[i-1] by simp[Array.getD,O],xN hg.rise O];lia
  rw[S];rw[yf,Ip,KQ (),Nat.add_sub_cancel]at h;by_cases hlt:i<es.size
  .have F:i<t.place.size:=()
   rw[la hlt,la F];rw[la hlt,show t.place.getD i 0=t.place[i] by simp[Array.getD,F]]at h;exact h
  .rw[zbd ()];rw[zbd ()]at h;exact h
end
section
variable{prog:Lw}{w:Lu}{A:Mc}{E:LH}{s:F_}
def GM(h:Lv)(it:so)(first:KE)(i:Nat)(a:so)(n ep:Nat):Prop:=∃o,h.get? it=Sm o/\o.cls = .type "set_iterator" /\ o.data = .fields #v[first,.int i 0,.ref a,.int n 0,.int ep 0]
theorem GM.typeIs{first:KE}(x:GM s.heap it first i a n ep):s.TypeIs (.ref it) "set_iterator" := let ⟨o,ho,hc,_⟩:=x;#[o,ho,hc]
theorem Fg{t:Me}{v:KE}{Q:LO->F_->Prop}(S:GM s.heap it (.int (dU w t i) 0) i a es.size ep)(ho:s.heap.get? a=Sm o)(hd:o.data = .set es ep t)(hf:t.fits es.size=true)(hg:cU (db w) t)
  (hn:w.params.followText "set-order" = true\/(!t.plain&&decide (es.size>1))=false) (hi:i<es.size) (hv:(g_ w a ep es)[i]?=Sm v)
  (hQ:∀h',GM h' it (.int (dU w t (i+1)) 0) (i+1) a es.size ep->MH it s.heap h'->Q (Sm v) {s with heap:=h'}):G_ (model prog w) A (pyNext (.ref it)) Q E s:=by
 refine yE1 (id S) λoi=>yB3 λW Z U=>?_;unfold pyNext;refine KL (Nm (M4 (name:=Str.ofString "__next__") S.typeIs BP (My BP S.typeIs fX ?_ (gF _))));unfold Mp.«set_iterator.__next__»;refine KL (KP ?_);refine KL (NU W U ?_);dsimp only;refine KL (N3 ho hd hf ?_);rw[KQ '~'];simp only[mi];refine KL (pD ho hd hf hg () hn ?_);rw[hv];show G_ _ _ (setField (.ref it) 0 (rawInt (dU w t (i+1):Nat)) >>= λ_=>setField (.ref it) 1 (rawInt ((i:Int)+1)) >>= λ_=>ret v) _ _ _;refine KL (Nc W U '~' ?_);have F:=Jr U (λxs=>xs.setIfInBounds 0 (rawInt (dU w t (i+1):Nat)));have O:=Iu (NV (λxs=>xs.setIfInBounds 0 (rawInt (dU w t (i+1):Nat)))) W (zaQ F);refine KL (Nc O F '~' ?_);have J:=Jr F (λxs=>xs.setIfInBounds 1 (rawInt ((i:Int)+1)));have Y:=Iu (NV (λxs=>xs.setIfInBounds 1 (rawInt ((i:Int)+1)))) O (zaQ J);refine KP #[_,rfl,KP (hQ _ #[_,Y,?_,?_] ((ix ..).trans (ix ..)))]
 .rw[za3,za3];exact Z
 .rw[J];simp[rawInt]
theorem GJ{t:Me}{Q:LO->F_->Prop}(hh:A.handled=Nn)(F:GM s.heap it (.int (dU w t es.size) 0) es.size a es.size ep)(S:s.heap.get? a=Sm o)(hd:o.data = .set es ep t)(hf:t.fits es.size=true)(hg:cU (db w) t)
  (U:w.params.followText "set-order" = true\/(!t.plain&&decide (es.size>1))=false)
  (Y:∀h',Nw it s.heap h'->Q Nn {s with heap:=h'}):G_ (model prog w) A (pyNext (.ref it)) Q E s:=by
 refine yE1 (id F) λZ=>yB3 λO W J=>?_;have hv:(g_ w a ep es)[es.size]?=Nn:=Js (by rw[(j1 (w:=w) a ep es).length_eq];simp);unfold pyNext;refine KL (Nm (M4 (name:=Str.ofString "__next__") F.typeIs BP (My BP F.typeIs fX ?_ (gF _))));unfold Mp.«set_iterator.__next__»;refine KL (KP ?_);refine KL (NU O J ?_);dsimp only;refine KL (N3 S hd hf ?_);rw[KQ '~'];simp only[mi];refine KL (pD S hd hf hg (zu _) U ?_);rw[hv];show G_ _ _ (setField (.ref it) 2 .none >>= λ_=>newExc (.type "StopIteration") [] >>= λe=>raiseNew e) _ _ _;refine KL (Nc O J '~' ?_);refine KL ?_;simp only[newExc,newTuple];refine KL (MA ?_ (by size_fits));refine KL (m:=firstArgMember _ _) (N1 (a:=Mu) (by first | rfl | (simp only[firstArgMember];rfl)) ?_);refine MA ?_ (by size_fits);simp only[raiseNew];refine KL (wpAny_handled ?_);rw[show A.in1.handled=Nn from hh];refine KL (KP (wpAny_throw ?_));refine KL (NE (T := "StopIteration") (b:=true) #[_,xb _ rfl,rfl] Of ?_);exact KP (Y _ (((ix ..).extBut.push _).push _))
end
section
variable{prog:Lw}{w:Lu}{A:Mc}{E:LH}{s:F_}
theorem yG{t:Me}{Q:Bool->F_->Prop}(F:s.heap.get? a=Sm o)(hd:o.data = .set es ep t)(hf:t.fits es.size=true)
  (h:Q (!(w.params.followText "set-order")&&(!t.plain&&decide (es.size>1))) s):G_ (model prog w) A (setDrawn a) Q E s:=by
 unfold setDrawn;refine KL (M9 F hd hf ?_);refine KL ?_;unfold setsByText;refine KL (N2 (KP ?_));exact KP h
theorem FT{t:Me}{Q:LH}(S:s.heap.get? a=Sm o)(hx:o.ExactSet)(hd:o.data = .set es ep t)(hf:t.fits es.size=true)(J:es.size<scanBound)
  (h1:(!(w.params.followText "set-order")&&(!t.plain&&decide (es.size>1)))=false->Q (.ref s.heap.objs.size) {s with heap:=s.heap.push {cls:=.type "set_iterator",data:=.fields #v[.int 0 0,.int 0 0,.ref a,.int es.size 0,.int ep 0]}})
  (h2:∀(ps:LJ) d',ps.Perm (List.range es.size)->Q (.ref (s.heap.objs.size+1)) {s with heap:=(s.heap.push {cls:=.type "tuple",data:=.seq (ps.map λi:Nat=>rawInt i).toArray}).push {cls:=.type "set_iterator",data:=.fields #v[.ref s.heap.objs.size,.int 0 0,.ref a,.int es.size 0,.int ep 0]},drawn:=d'}) :
  G_ (model prog w) A (pyIter (.ref a)) Q E s:=by
 have W:s.TypeIs (.ref a) "set" := #[o,S,hx.1];refine wpAny_pyIter_slot W F.slot_set_iter (My F.slot_set_iter W oo ?_ (F.args_set_iter_1 _));unfold Mp.«frozenset.__iter__»;refine KL (KP ?_);refine KL ?_;unfold Mp.Frozenset.sizeOf;refine KL (N3 S hd hf (KP ?_));refine KL (yG S hd hf ?_);dsimp only;refine NT (λO=>?_) (λO=>?_)
 .refine KL (pG _ _ _ _ '~' λps d' U=>?_);have Y:ps.length=es.size:=by rw[U.length_eq];simp
  refine KL ?_;unfold newTuple;have hz:=Oe J;refine MA ?_ (by show (List.map _ ps).toArray.size<=L_;simp;lia);refine KL ?_;unfold setEpoch;refine KL (M9 (yK _ S) hd hf (KP ?_));refine KL ?_;unfold newFields;refine MA (KP #[_,rfl,yI2 ("set_iterator") _ #[#[_,xb _ rfl,rfl],BP.lookup,?_]]);rw[tV];exact h2 ps d' U
 .refine KL (KP ?_);refine KL ?_;unfold setEpoch;refine KL (M9 S hd hf (KP ?_));refine KL ?_;unfold newFields;refine MA (KP #[_,rfl,yI2 ("set_iterator") _ #[#[_,xb _ rfl,rfl],BP.lookup,?_]]);exact h1 (by simpa using O)
end
section
variable{prog:Lw}{w:Lu}{A:Mc}{E:LH}{s:F_}
theorem EE{tp:so}{ot:Obj}{ct:Nat}{t:Me}{k:Nat}{v:KE}{hh:Int}{Q:LO->F_->Prop}(J:GM s.heap it (.ref tp) i a es.size ep)(ho:s.heap.get? a=Sm o)(hd:o.data = .set es ep t)(hf:t.fits es.size=true)
  (W:s.heap.get? tp=Sm ot) (Z:ot.data = .seq (ps.map λi:Nat=>rawInt i).toArray ct) (hk:ps[i]?=Sm k) (hv:es[k]?=Sm (hh,v))
  (hQ:∀h',GM h' it (.ref tp) (i+1) a es.size ep->MH it s.heap h'->Q (Sm v) {s with heap:=h'}):G_ (model prog w) A (pyNext (.ref it)) Q E s:=by
 refine yE1 (id J) λoi=>yB3 λS Y O=>?_;unfold pyNext;refine KL (Nm (M4 (name:=Str.ofString "__next__") J.typeIs BP (My BP J.typeIs fX ?_ (gF _))));unfold Mp.«set_iterator.__next__»;refine KL (KP ?_);refine KL (NU S O ?_);dsimp only;refine KL (N3 ho hd hf ?_);rw[KQ '~'];refine KL (MZ W Z ?_);simp only[mi];have e1:(List.map (λi:Nat=>rawInt (i:Int)) ps).toArray[i]?=Sm (.int (k:Int) 0):=by
  rw[List.getElem?_toArray,yf,hk];rfl
 rw[e1];dsimp only;refine KL ?_;unfold setNextDrawn;refine KL (M9 ho hd hf ?_);dsimp only;simp only[mi];rw[KQ '~'];rw[hv];refine KP ?_;refine KL (Nc S O '~' ?_);have F:=Jr O (λxs=>xs.setIfInBounds 1 (rawInt ((i:Int)+1)));have U:=Iu (NV (λxs=>xs.setIfInBounds 1 (rawInt ((i:Int)+1)))) S (zaQ F);refine KP #[_,rfl,KP (hQ _ #[_,U,?_,?_] (ix ..))]
 .rw[za3];exact Y
 .rw[F];simp[rawInt]
theorem GB{tp:so}{Z:Obj}{ct:Nat}{t:Me}{Q:LO->F_->Prop}(hh:A.handled=Nn)(J:GM s.heap it (.ref tp) es.size a es.size ep)(ho:s.heap.get? a=Sm o)(hd:o.data = .set es ep t)(hf:t.fits es.size=true)
  (Y:s.heap.get? tp=Sm Z) (W:Z.data = .seq (ps.map λi:Nat=>rawInt i).toArray ct) (hp:ps.length=es.size)
  (hQ:∀h',Nw it s.heap h'->Q Nn {s with heap:=h'}):G_ (model prog w) A (pyNext (.ref it)) Q E s:=by
 refine yE1 (id J) λoi=>yB3 λS ab O=>?_;unfold pyNext;refine KL (Nm (M4 (name:=Str.ofString "__next__") J.typeIs BP (My BP J.typeIs fX ?_ (gF _))));unfold Mp.«set_iterator.__next__»;refine KL (KP ?_);refine KL (NU S O ?_);dsimp only;refine KL (N3 ho hd hf ?_);rw[KQ '~'];refine KL (MZ Y W ?_);simp only[mi];have e1:(List.map (λi:Nat=>rawInt (i:Int)) ps).toArray[es.size]?=Nn:=by
  rw[List.getElem?_toArray,Js (by simp;lia)]
 rw[e1];dsimp only;refine KL (Nc S O '~' ?_);have F:=Jr O (λxs=>xs.setIfInBounds 0 (rawInt 0));have U:=Iu (NV (λxs=>xs.setIfInBounds 0 (rawInt 0))) S (zaQ F);refine KL (Nc U F '~' ?_);refine KL ?_;simp only[newExc,newTuple];refine KL (MA ?_ (by size_fits));refine KL (m:=firstArgMember _ _) (N1 (a:=Mu) (by first | rfl | (simp only[firstArgMember];rfl)) ?_);refine MA ?_ (by size_fits);simp only[raiseNew];refine KL (wpAny_handled ?_);rw[show A.in1.handled=Nn from hh];refine KL (KP (wpAny_throw ?_));refine KL (NE (T := "StopIteration") (b:=true) #[_,xb _ rfl,rfl] Of ?_);exact KP (hQ _ ((((ix ..).trans (ix ..)).extBut.push _).push _))
end
theorem kU:Slot "set_iterator" "__iter__" "set_iterator.__iter__" :=
 .of (owner := "set_iterator") (n := "__iter__") (by rw[typeLookup_type,builtinLookup_eq_fast];kernel_rfl) ⋯ ⋯ ⋯
  (by first | exact .inl ⋯ | exact .inr ⋯) (by rw[isSubtype_type];kernel_rfl)
theorem qx:entryFor table "set_iterator.__iter__" = Sm Mp.«dict_keyiterator.__iter__»:=
 entryFor_alias (id' := "dict_keyiterator.__iter__") (by kernel_rfl) rfl ⋯ (by kernel_rfl)
theorem uD(a:KE):argsOk "set_iterator.__iter__" #[[a],[]]:=by
 unfold argsOk;rw [signature?_of (id := "set_iterator.__iter__") (n:=['_','_','r','e','t','i','_','_']) (o:=['r','o','t','a','r','e','t','i','_','t','e','s']) (by kernel_rfl) s_];kernel_rfl
section
variable{prog:Lw}{w:Lu}{A:Mc}{E:LH}{s:F_}
theorem v8{first:KE}{Q:LH}(F:GM s.heap it first i a n ep)(h:Q (.ref it) s):G_ (model prog w) A (pyIter (.ref it)) Q E s:=
 wpAny_pyIter_slot F.typeIs kU (My kU F.typeIs qx (KL (KP (KP #[_,rfl,yI2 ("set_iterator") _ #[F.typeIs,BP.lookup,h]]))) (uD _))
theorem GM.at'{h h':Lv}{first:KE}(x:GM h it first i a n ep)(e:∀o,h.get? it=Sm o->h'.get? it=Sm o):GM h' it first i a n ep:=let ⟨o,ho,r⟩:=x;#[o,e _ ho,r]
theorem JT(hh:A.handled=Nn)(I a:so)(U:a≠I){t:Me}(hd:o.data = .set es ep t)(hf:t.fits es.size=true)(hg:cU (db w) t)(Y:w.params.followText "set-order" = true\/(!t.plain&&decide (es.size>1))=false) :
  Walks prog w A I [I,a] [I] es.size (λi v=>(g_ w a ep es)[i]?=Sm v) (λi h=>GM h I (.int (dU w t i) 0) i a es.size ep/\h.get? a=Sm o) where
 sub:=λb F=>by simp at F;simp[F]
 frame:=λ_ _ _ st Z=>#[st.1.at' λo e=>Z I '~' o e,Z a '~' o st.2]
 item:=λi s Q E hi st O=>by
  have hl:(g_ w a ep es).length=es.size:=by rw[(j1 (w:=w) a ep es).length_eq];simp
  have hv:(g_ w a ep es)[i]?=Sm (g_ w a ep es)[i]:=zg ();refine Fg st.1 st.2 hd hf hg Y hi hv λh' S J=>?_;exact O _ h' s.toks hv #[S,J.extBut a o U st.2] (λb o F e=>J.extBut b o (λh=>F (by simp[h])) e)
 done:=λs Q E st O=>GJ hh st.1 st.2 hd hf hg Y λh' W=>O h' s.toks λb o F e=>W b o (λh=>F (by simp[h])) e
 self:=λ_ _ _ _ st O=>v8 st.1 O
theorem J0(hh:A.handled=Nn)(I a S:so)(ab:a≠I)(ac:S≠I){ot:Obj}{ct:Nat}{t:Me}(hd:o.data = .set es ep t)(hf:t.fits es.size=true)(W:ot.data = .seq (ps.map λi:Nat=>rawInt i).toArray ct)(hp:ps.Perm (List.range es.size)) :
  Walks prog w A I [I,a,S] [I] es.size (λi v=>(ps.map λk=>(es.getD k (0,.none)).2)[i]?=Sm v) (λi h=>GM h I (.ref S) i a es.size ep/\h.get? a=Sm o/\h.get? S=Sm ot) where
 sub:=λb O=>by simp at O;simp[O]
 frame:=λ_ _ _ st U=>#[st.1.at' λo e=>U I '~' o e,U a '~' o st.2.1,U S '~' ot st.2.2]
 item:=λi s Q E hi st Y=>by
  have hl:ps.length=es.size:=by rw[hp.length_eq];simp
  have U:ps[i]?=Sm (ps[i]'()):=zg ();have F:ps[i]'()<es.size:=Lg.mp (hp.mem_iff.mp (xF _));have hv:(ps.map λk=>(es.getD k (0,.none)).2)[i]?=Sm (es[ps[i]'()]'F).2:=by
   rw[yf,U];simp[Array.getD,F]
  refine EE st.1 st.2.1 hd hf st.2.2 W U (hh:=(es[ps[i]'()]'F).1) (v:=(es[ps[i]'()]'F).2) (la F) λh' Z J=>?_;exact Y _ h' s.toks hv #[Z,J.extBut a o ab st.2.1,J.extBut S ot ac st.2.2] (λb o O e=>J.extBut b o (λh=>O (by simp[h])) e)
 done:=λs Q E st Y=>GB hh st.1 st.2.1 hd hf st.2.2 W (by rw[hp.length_eq];simp) λh' ad=>Y h' s.toks λb o O e=>ad b o (λh=>O (by simp[h])) e
 self:=λ_ _ _ _ st Y=>v8 st.1 Y
end
section
variable{prog:Lw}{w:Lu}{A:Mc}{E:LH}{s:F_}
theorem uy{Q:Bool->F_->Prop}(O:s.TypeIs (.ref a) "set") (h:Q false s):G_ (model prog w) A (OC (.ref a)) Q E s:=by
 unfold OC;refine KL (Nu O F.slot_set_len.lookup ?_);generalize hid:("set.__len__" : String)=S
 wp_delta
 rw[show splitId S=Sm ("set","__len__") from by subst hid;decide +kernel];subst hid;refine KL (NE (T := "set") (b:=true) O (by rw[isSubtype_type];kernel_rfl) ?_);refine NT (λJ=>absurd J ∅) (λ_=>?_);refine NT (λ_=>?_) (λJ=>absurd ⋯ J);refine KL (Nt O ?_);exact KP h
theorem DA{l:LN}{acc:LY}(h:ItemsOf (λi v=>l[i]?=Sm v) acc l.length):acc.toList=l:=by
 refine List.ext_getElem? λi=>?_;rw[Ip];cases e:acc[i]? with
 | some v=>exact(h.2 i v e).symm
 | none=>
  have:acc.size<=i:=by simpa using e
  exact(Js (by have:=h.1;lia)).symm
theorem u5(F:ps.Perm (List.range es.size)):(ps.map λk=>(es.getD k (0,.none)).2).Perm (es.toList.map (·.2)):=by
 refine(F.map _).trans ?_;refine List.Perm.of_eq ?_;refine List.ext_getElem '~' λi h1 h2=>?_;have hi:i<es.size:=by simpa using h1
 simp[Array.getD,hi]
theorem yv{R:M6->F_->Prop}{a:so}{o:Obj}{es:Array (Int×KE)}{ep:Nat}{t:Me}(hh:A.handled=Nn)(ho:s.heap.get? a=Sm o)(hx:o.ExactSet)(hd:o.data = .set es ep t)(hf:t.fits es.size=true)(ag:es.size<scanBound)(hg:cU (db w) t)
  (S:so) (res:KE) (c₀ : Nat) (hS:s.heap.get? S=Sm {cls:=.type "list",data:=.seq #[] c₀})
  (hR:∀h' d' tk O c',(∀b o,b≠S->s.heap.get? b=Sm o->h'.get? b=Sm o)->h'.get? S=Sm {cls:=.type "list",dict:=Nn,data:=.seq O c',slots:=#[]}->O.toList.Perm (es.toList.map (·.2))->R (.ok (.ret res)) {s with heap:=h',drawn:=d',toks:=tk}) :
  G_ (model prog w) A.in1 (Og (.ref S) (.ref a) res)
   (λbg s'=>match bg with | .done f=>R (.ok f) s' | .again c'=>c'.quiet=true/\codeAny (model prog w) A c' R s') (λe s'=>R (.error e) s') s:=by
 have hz:=Oe ag;have ad:a<s.heap.objs.size:=yo ho;have ab:S<s.heap.objs.size:=yo hS;have as:S≠a:=λe=>by
  rw[e,ho]at hS;cases hS;cases hd
 have hT:s.TypeIs (.ref a) "set" := #[o,ho,hx.1];have e1:Mp.List.listSameRef (.ref S) (.ref a)=false:=by simp[Mp.List.listSameRef,as]
 have bc:∀(h2:Lv) (d2:Drawn) (c tk:Nat) (I:so) (fp:LL) (l:LN) (St:Nat->Lv->Prop),l.length=es.size->l.Perm (es.toList.map (·.2))->Walks prog w A.in1 I fp [I] es.size (λi v=>l[i]?=Sm v) St->S∉fp->s.heap.objs.size<=I->
   (∀b o,b≠S->s.heap.get? b=Sm o->h2.get? b=Sm o)->h2.get? S=Sm {cls:=.type "list",data:=.seq #[] c}->St 0 h2->codeAny (model prog w) A (.builtin "list.extend.loop" #[[.ref S,.ref I,res],[]]) R {s with heap:=h2,drawn:=d2,toks:=tk}:=by
  intro h2 d2 c tk I fp l St hl hp W ac hI hk bh J;refine codeAny_extend_loopS W.toS hz S ac res es.size 0 _ #[] c rfl (gV _) J bh (ItemsOf.nil _) λs' O c' hm be a4=>?_;rw[Moved.eq_with hm];refine hR s'.heap d2 s'.toks O c' (λb o Z e=>hm.heap b o (λY=>?_) (hk b o Z e)) be (by rw[DA (by rw[hl];exact a4)];exact hp);rcases K7.mp Y with e' | Y
  .exact Z e'
  .have:=yo e;rw[KU.mp Y]at this;exact absurd this (Nat.not_lt.mpr hI)
 unfold Og;refine KL (Nt hT ?_);rw[KQ (by rw[e1];decide)];have U:∀(h2:Lv) (d2:Drawn) (I:so) (fp:LL) (l:LN) (St:Nat->Lv->Prop),l.length=es.size->l.Perm (es.toList.map (·.2))->Walks prog w A.in1 I fp [I] es.size (λi v=>l[i]?=Sm v) St->S∉fp->s.heap.objs.size<=I->
   (∀b o,s.heap.get? b=Sm o->h2.get? b=Sm o)->St 0 h2->
   G_ (model prog w) A.in1 (updateSeq S (·.push .none) >>= λ_=>updateSeq S (·.pop)) (λ_ s'=>codeAny (model prog w) A (.builtin "list.extend.loop" #[[.ref S,.ref I,res],[]]) R s') (λe s'=>R (.error e) s') {s with heap:=h2,drawn:=d2}:=by
  intro h2 d2 I fp l St hl hp W ac hI hk J;have a5:=hk _ _ hS;refine KL (wpAny_updateSeq a5 rfl ?_);have a8:=Iu (MW (·.push Mu)) a5 rfl;refine wpAny_updateSeq (hz:=by seq_fits) a8 rfl ?_;have a9:=Iu (MW (·.pop)) a8 rfl;have a7:∀b o,b≠S->h2.get? b=Sm o->((h2.update S (MW (·.push Mu))).update S (MW (·.pop))).get? b=Sm o:=λb o Z e=>
   (zaZ _ _ (uW Z)).trans ((zaZ _ _ (uW Z)).trans e)
  exact bc _ d2 _ s.toks I fp l St hl hp W ac hI (λb o Z e=>a7 b o Z (hk b o e)) a9 (W.frame 0 _ _ J λb Z o e=>a7 b o (λz=>ac (z ▸ Z)) e)
 refine KL (FT ho hx hd hf ag (λa6=>?_) λps d' hp=>?_)
 .have al:F_.TypeIs {s with heap:=s.heap.push {cls:=.type "set_iterator",data:=.fields #v[.int 0 0,.int 0 0,.ref a,.int es.size 0,.int ep 0]}} (.ref a) "set" := #[o,yK _ ho,hx.1];refine KL (Ms (uy al ?_));have hn:w.params.followText "set-order" = true\/(!t.plain&&decide (es.size>1))=false:=by
   cases Z:w.params.followText "set-order" with
   | true=>exact .inl rfl
   | false=>rw[Z]at a6;exact .inr (by simpa using a6)
  have J:GM (s.heap.push {cls:=.type "set_iterator",data:=.fields #v[.int 0 0,.int 0 0,.ref a,.int es.size 0,.int ep 0]}) s.heap.objs.size (.int (dU w t 0) 0) 0 a es.size ep:=by
   refine#[_,xb _ rfl,rfl,?_];unfold dU;split<;>simp
  refine NT (λ_=>?_) (λa3=>absurd ⋯ a3);refine KL (MB ?_);refine KL (MQ (U _ s.drawn _ _ _ _ (by rw[(j1 (w:=w) a ep es).length_eq];simp) (j1 a ep es) (JT (A:=A.in1) hh s.heap.objs.size a (xg ad) hd hf hg hn) (λhm=>?_) (zu _) (λb o e=>yK _ e) #[J,yK _ ho]) (λ_ s' hc=>KP #[NF F.plain_extend_loop _,hc]) (λ_ _ he=>he));rcases K7.mp hm with z | z
  .exact absurd z (xg ab)
  .exact as (KU.mp z)
 .have al:F_.TypeIs {s with heap:=(s.heap.push {cls:=.type "tuple",data:=.seq (ps.map λi:Nat=>rawInt i).toArray}).push {cls:=.type "set_iterator",data:=.fields #v[.ref s.heap.objs.size,.int 0 0,.ref a,.int es.size 0,.int ep 0]},drawn:=d'} (.ref a) "set" := #[o,yK _ (yK _ ho),hx.1];refine KL (Ms (uy al ?_));refine NT (λ_=>?_) (λa3=>absurd ⋯ a3);refine KL (MB ?_);have J:GM ((s.heap.push {cls:=.type "tuple",data:=.seq (ps.map λi:Nat=>rawInt i).toArray}).push {cls:=.type "set_iterator",data:=.fields #v[.ref s.heap.objs.size,.int 0 0,.ref a,.int es.size 0,.int ep 0]}) (s.heap.objs.size+1) (.ref s.heap.objs.size) 0 a es.size ep:=by
   have:=xb (s.heap.push {cls:=.type "tuple",data:=.seq (ps.map λi:Nat=>rawInt i).toArray}) (rfl:Obj.isFreed {cls:=.type "set_iterator",data:=.fields #v[.ref s.heap.objs.size,.int 0 0,.ref a,.int es.size 0,.int ep 0]}=false);rw[tV]at this;exact#[_,this,rfl,rfl]
  refine KL (MQ (U _ d' _ _ _ _ (by rw[ze,hp.length_eq];simp) (u5 hp) (J0 (A:=A.in1) hh (s.heap.objs.size+1) a s.heap.objs.size (xg (Jp ad)) (xg (zaW _)) hd hf rfl hp) (λhm=>?_) (Nat.le_succ _) (λb o e=>yK _ (yK _ e)) #[J,yK _ (yK _ ho),yK _ (xb _ rfl)]) (λ_ s' hc=>KP #[NF F.plain_extend_loop _,hc]) (λ_ _ he=>he));rcases K7.mp hm with z | z
  .exact absurd z (xg (Jp ab))
  .rcases K7.mp z with z | z
   .exact as z
   .exact absurd (KU.mp z) (xg ab)
theorem jZ{t:Me}{Q:LN->F_->Prop}(hh:A.handled=Nn)(ho:s.heap.get? a=Sm o)(hx:o.ExactSet)(hd:o.data = .set es ep t)(hf:t.fits es.size=true)(U:es.size<scanBound)(hg:cU (db w) t)
  (hQ:∀h' d' S acc,(∀b o,s.heap.get? b=Sm o->h'.get? b=Sm o)->s.heap.objs.size<h'.objs.size->acc.Perm (es.toList.map (·.2))->Q acc {s with heap:=h',drawn:=d',toks:=S}):G_ (model prog w) A (collect (.ref a)) Q E s:=by
 have ext:∀R:M6->F_->Prop,(∀h' d' S J W,(∀b o,s.heap.get? b=Sm o->h'.get? b=Sm o)->h'.get? s.heap.objs.size=Sm {cls:=.type "list",dict:=Nn,data:=.seq J W,slots:=#[]}->J.toList.Perm (es.toList.map (·.2))->R (.ok (.ret (.ref s.heap.objs.size))) {s with heap:=h',drawn:=d',toks:=S})->
   codeAny (model prog w) A (.builtin "proto.collect" #[[.ref a],[]]) R s:=λR hR=>by
  refine Nb F.entry_proto_collect ?_;rw[Jd F.plain_proto_collect _];show G_ _ A.in1 (newList [] >>= λl=>again (.builtin "list.__iadd__" #[[l,.ref a],[]])) _ _ s;refine KL (MA ?_);refine KP #[NF zbe _,Nb F.entry_list_iadd ?_];rw[Jd zbe _];show G_ _ A.in1 (Og (.ref s.heap.objs.size) (.ref a) (.ref s.heap.objs.size)) _ _ _;refine yv (R:=R) (s:={s with heap:=s.heap.push {cls:=.type "list",data:=.seq ([]:LN).toArray}}) hh (yK _ ho) hx hd hf U hg s.heap.objs.size _ 0 (xb _ rfl) λh' d' S J W Z O Y=>?_;exact hR h' d' S J W (λb o e=>Z b o (xg (yo e)) (yK _ e)) O Y
 unfold collect;refine KL (wpAny_runValue (ext _ λh' d' S J W Z O Y=>?_));show G_ _ A (load s.heap.objs.size >>= _) _ _ _;refine KL (wpAny_load O ?_);exact KP (hQ h' d' S J.toList Z (yo O) Y)
noncomputable def nX(v:KE):Int:=match v with
 | .int d _=>d
 | _=>0
theorem vo:∀(l:LN),(∀v∈l,∃F,v = .int (nX v) F)->M7 l (l.map nX)
 | [],_=>.nil
 | v::l,h=>by
  let#[F,e]:=h v yy;have r:=vo l λu J=>h u (yS _ J);rw[yX];generalize nX v=d at e |-;subst e;exact .cons d F r
theorem AT{t:Me}{Q:LH}(hh:A.handled=Nn)(ho:s.heap.get? a=Sm o)(hx:o.ExactSet)(hd:o.data = .set es ep t)(hf:t.fits es.size=true)(ab:es.size<64)(hg:cU (db w) t)
  (hint:∀e∈es.toList,∃S,e.2 = .int (j4 e) S)
  (hQ:∀h' d' S q out c F,(∀b o,s.heap.get? b=Sm o->h'.get? b=Sm o)->s.heap.objs.size<=q->h'.get? q=Sm (seqObj "list" out c)->M7 out.toList F->F.Perm (es.toList.map j4)->F.Pairwise (· <= ·)->Q (.ref q) {s with heap:=h',drawn:=d',toks:=S}) :
  G_ (model prog w) A (call (.builtin "sorted") [.ref a]) Q E s:=by
 refine zbu kind_sorted plain_sorted entry_sorted (args_sorted1 _) ?_;unfold Mp.«sorted»;refine KL (m:=checkCount "sorted" 1 1 _) (KP ?_);refine KL (jZ hh ho hx hd hf (by unfold scanBound;lia) hg λh' d' S acc hk Y U=>?_);have W:acc.length=es.size:=by rw[U.length_eq];simp
 have hI:M7 acc (acc.map nX):=vo acc λv hv=>by
  let#[e,he,rfl]:=K3.mp (U.mem_iff.mp hv);exact hint e he
 have J:(acc.map nX).Perm (es.toList.map j4):=by
  have:=U.map nX;rw[oq]at this;exact this
 refine KL (wpAny_newList ?_ (by rw[W,M2];lia));have O:(h'.push (seqObj "list" acc.toArray 0)).get? h'.objs.size=Sm (seqObj "list" acc.toArray 0):=xb _ rfl;show G_ _ _ _ _ _ {s with heap:=h'.push (seqObj "list" acc.toArray 0),drawn:=d',toks:=S};refine KL (Ms (My slot_list_sort #[_,O,rfl] entry_list_sort (list_sort_tree O hI () λout F a1 a2 a3=>#[_,rfl,?_]) (args_list_sort _)));let#[c,hc]:=sortedHeap_at (out:=out) O;refine KP #[_,rfl,hQ _ d' S h'.objs.size out c F (λb o e=>?_) (xE Y) hc a1 (a2.trans J) a3];have Z:=yo (hk b o e);rw[sortedHeap_old (xg Z) (by rw[tV];exact Jp Z)];exact yK _ (hk b o e)
end
section
variable{X:Cx}
theorem tP{m:Nat}(hr:Cm m X.A):B3 X (.builtin "sorted") (sR (oC X.w)):=by
 intro pins s σ H xs us Q I r h;revert h;refine yF2 λp ds=>yB4 ?_;rintro rfl e S q;let#[u,rfl,ru]:=dv r;cases ru;refine yE4 ((show BD X.prog X.w H s.heap p (oC X.w p ds) from I.hok p _ e).1) λo es ep t=>yB8 λho hx hd W hf hg hint O=>?_;have hz:es.size<=60:=by rw[<-O,ze,ui]at S;exact S
 have hs:L_=16777216:=M2;refine AT hr.hd ho hx hd hf () hg hint λh' d' Z U out c J hk Y hc a1 a2 a3=>?_;have hl:J.length<=60:=by rw[a2.length_eq,ze,ui];exact hz
 have F:=I.laid (t':=Z) (a:=U) (o:=.lst (J.map V.int)) hk Y (show BD X.prog X.w _ h' _ (.lst (J.map V.int)) from #[by rw[ze];lia,yI2 out.toList c #[kQ a1,by simpa using hc]]);refine yI2 (.ref U) _ #[?_,rfl,q _ J (I.hok.fresh Y) (by rw[<-O];exact a2) a3];exact#[F.ok,F.os,F.bare,F.base,F.loc,F.cell,F.free,F.freeC,F.pin,F.hok,F.len]
theorem xo{m:Nat}(K:K_)(w:Lu)(F:Cm m X.A)(J:X.K=K:=by rfl)(hw:X.w=w:=by rfl):B3 X (.type "set") (Es K (oC w)):=hw ▸ Ad F J
theorem qC{m:Nat}(w:Lu)(F:Cm m X.A)(J:X.w=w:=by rfl):B3 X (.builtin "sorted") (sR (oC w)):=J ▸ tP F
end
end L2
namespace L2
open PySem PySem.Spec PyProof PyProof.Rows
variable{H:Hp}{Q:VK}{xs:LM}
inductive HQ (w:Lu):List Nf->List (Str×V)->Prop
 | nil:HQ w [] []
 | cons {x:Str} {t:Tok} {y:V} {v:KE} {es:List Nf} {kvs:List (Str×V)}:RelV y v->HQ w es kvs->HQ w (⟨Mt w.params x,.str x t,v⟩::es) ((x,y)::kvs)
theorem HQ.vs{P:Lw}{w:Lu}{es:List Nf}{kvs:List (Str×V)}(h:HQ w es kvs):∃vs:List (Str×KE),KV kvs vs/\PySem.Pairs (PySem.strKind P w) es vs/\vs.map (·.1)=kvs.map (·.1)/\∀e∈es,∃k,(PySem.strKind P w).is k e.key=true/\e.hash=(PySem.strKind P w).hash k:=by
 induction h with
 | nil=>exact#[[],.nil,.nil,rfl,λ_ h=>nomatch h]
 | @cons x t y v es kvs r _ ih=>
  revert ih;refine yF1 λvs=>yB4 λh1 h2 J O=>?_;have hx:(PySem.strKind P w).is x (.str x t)=true:=by show Nh x (.str x t)=true;simp[Nh]
  refine#[(x,v)::vs,.cons #[rfl,r] h1,.cons hx rfl h2,by rw[yX,yX,J],λe F=>?_];rcases K7.mp F with rfl | F
  .exact#[x,hx,rfl]
  .exact O e F
structure Hc (w:Lu) (K:K_) (d:so) (kvs:List (Str×V)):Prop where
 low:(d==sysModules)=false
 nd:(kvs.map (·.1)).Nodup
 at':∃(o:Obj) (es:List Nf) (ep:Nat),K.lookup d=Sm o/\o.ExactDict/\o.data = .dict es.toArray ep/\HQ w es kvs
section
variable{X:Cx}{pins:List (so×Obj)}{σ:St}{H:Hp}{s:F_}{d:so}{kvs:List (Str×V)}
theorem Hc.dict(h:Hc X.w X.K d kvs)(I:Inv X pins σ H s):∃vs:List (Str×KE),KV kvs vs/\s.heap.DictOf (PySem.strKind X.prog X.w) d vs/\∃ob,s.heap.get? d=Sm ob/\ob.dict=Nn:=by
 refine yE3 h.at' λo es ep=>yB4 λh1 h2 J W=>?_;refine yE1 (W.vs (P:=X.prog)) λvs=>yB4 λF S O U=>?_;have e:=I.kIn d o h1;exact#[vs,F,yI3 o es.toArray ep #[e,h2,J,λx hx=>U x (by simpa using hx),by simpa using S,by rw[O];exact h.nd],o,e,h2.2.1]
theorem zq{P:Lw}{w:Lu}{k:Str}{u:KE}(r:RelV (.str k) u):(PySem.strKind P w).is k u=true:=by
 let#[t,rfl]:=r;show Nh k (.str k t)=true;simp[Nh]
end
section
variable{X:Cx}
def LC(w:Lu)(K:K_):R2:=λx y H Q=>∃d kvs k z,x = .ref d/\y = .str k/\Hc w K d kvs/\bU kvs k=Sm z/\Q z H
theorem OO(w:Lu)(K:K_)(S:X.w=w:=by rfl)(hK:X.K=K:=by rfl):Hw X (LC w K):=by
 subst S hK;intro value J pins s σ H x y v u Q I rx Z h Y;revert h;refine yF4 λd kvs k z=>yB5 ?_;rintro rfl rfl m l q;cases rx;refine yE1 (m.dict I) λvs=>yB3 λU dd _=>?_;let#[w',S,O]:=GQ.some_of (v:=z) (o:=valueAt vs k) (by rw[<-l];exact U.val k);have hl:typeLookup (.type "dict") "__getitem__" = pure (Sm (.builtin "dict.__getitem__")):=F.slot_dict_getitem.lookup;exact Oa (x:=w') dd.typeIs hl (wpAny_getItem_of (zq Z) dd.mapOf S #[rfl,yI2 z H #[I.tok _,O,q]]) Y
def J5(w:Lu)(K:K_):V->LM->Hp->VK->Prop:=λx xs H Q=>∃d kvs k z,x = .ref d/\xs=[.str k,z]/\Hc w K d kvs/\Q ((bU kvs k).getD z) H
theorem FW(w:Lu)(K:K_)(O:X.w=w:=by rfl)(hK:X.K=K:=by rfl):Hr X "dict.get" (J5 w K):=by
 subst O hK;intro pins s σ H x vs v us Q I S Z h;revert h;refine yF4 λd kvs k z=>yB4 ?_;rintro rfl rfl m q;cases S;refine yE2 (qJ Z) λu r=>yB3 ?_;rintro rfl U Y;refine yE1 (m.dict I) λvs=>yB3 λJ dd _=>?_;refine call_meetsIn F.slot_dict_get dd.typeIs F.entry_dict_get (F.args_dict_get_3 _ _ _) (meets_dict_get_default (PySem.strKind X.prog X.w) d (zq U) m.low r) #[_,dd.mapOf,yI2 _ H #[I.tok _,?_,q]];exact(J.val k).getD Y
def Jz(w:Lu)(K:K_)(r:V->LM->Hp->VK->Prop)(to:TE)(t:TA):TE:=λσ H Q=>to σ H λx H1=>(∃d kvs,x = .ref d/\Hc w K d kvs)/\t σ H1 λxs H2=>r x xs H2 Q
theorem JA{o e:Expr}{es:LX}{to:TE}{t:TA}{name:Str}{apos cpos:Pos}{id:String}{r:V->LM->Hp->VK->Prop}(w:Lu)(K:K_)(pa:PlainAttrs "dict") (slot:Slot "dict" name id) (J:typeOf (.builtin id)=pure (.type "method_descriptor")) (hm:Hr X id r) (ho:PE X o to) (ha:PA X (e::es) t)
  (F:attributeBase o name X.env (eval o X.env)=eval o X.env:=by rfl)
  (hfew:((backTo cpos (Mh (e::es) X.env)).all (λx=>!x.1)&&(backToKw cpos (keywordEach [] X.env)).all (λx=>x.1.isSome)&&decide ((e::es).length+([]:List Keyword).length+(if ([]:List Keyword).isEmpty then 0 else 1)<30))=true:=by rfl)
  (hline:(apos.endLine==cpos.line)=true:=by rfl) (hs:Mh (e::es) X.env=(false,eval e X.env)::Mh es X.env:=by rfl) (hplain:(backTo cpos (Mh es X.env)).any (·.1)=false:=by rfl) (hw:X.w=w:=by rfl) (hK:X.K=K:=by rfl) :
  PE X (.Call (.Attribute o name apos) (e::es) [] cpos) (Jz w K r to t):=by
 subst hw hK;intro pins s σ H Q I h;refine wpAny_Call_method_late F hfew hline rfl (bD (ho pins s σ H _ I h) λv s1 ⟨x,H1,U,S,ty,q1⟩=>?_);revert ty;refine yF2 λd kvs=>yB2 ?_;rintro rfl m;have e1:v = .ref d:=S;subst e1;refine yE1 (m.dict U) λvs=>yB3 λab dd=>yF1 λob=>yB2 λeo en=>?_;refine yI2 ("dict") id #[pa,slot,J,dd.typeIs,λa ea=>#[ob,by cases ea;exact eo,en],?_];have O:=ha cpos pins s1 σ H1 _ U q1;rw[hs]at O |-
 refine zbq (by show (false||(backTo cpos (Mh es X.env)).any (·.1))=false;rw[hplain]<;>rfl) (Calls.evalArgs_plain ?_);exact bD O λY s2 ⟨vs,H2,Z,r2,q2⟩=>hm pins s2 σ H2 _ vs _ Y Q Z S r2 q2
end
theorem wI{w:Lu}{K:K_}{r:V->LM->Hp->VK->Prop}{to:TE}{t:TA}{σ:St}:Jz w K r to t σ H Q=to σ H λx H1=>(∃d kvs,x = .ref d/\Hc w K d kvs)/\t σ H1 λxs H2=>r x xs H2 Q:=rfl
section
variable{prog:Lw}{w:Lu}{A:Mc}{E:LH}{s:F_}
def G8(i t:so)(zs:LY)(k:Nat)(h:Lv):Prop:=h.IsTupleIter i t k/\h.IsTuple t zs
theorem G8.ext{i t b:so}{zs:LY}{k:Nat}{h h':Lv}(x:G8 i t zs k h)(F:Nw b h h')(n1:i≠b)(J:t≠b):G8 i t zs k h':=#[x.1.extBut F n1,x.2.extBut F J]
theorem mD{i t:so}{k:Nat}{zs:LY}{v:KE}{Q:LH}(st:G8 i t zs k s.heap)(U:t≠i)(hv:zs[k]?=Sm v)
  (q:∀h',G8 i t zs (k+1) h'->MH i s.heap h'->Q v {s with heap:=h'}):G_ (model prog w) A (Nx (.ref i)) Q E s:=by
 let#[hi,W]:=id st;refine yE1 (id hi) λob=>yB3 λO e2 J=>?_;refine yE1 (id W) λot=>yB3 λY _=>yF1 λm Z=>?_;unfold Nx;refine KL (M4 (name:=Str.ofString "__next__") hi.typeIs zbf (My zbf hi.typeIs F.entry_tuple_iterator_next ?_ (F.args_tuple_iterator_next_1 _)));show G_ _ _ (field (.ref i) 0 >>= _) _ _ s;refine KL (MT O J (x:=.ref t) rfl ?_);show G_ _ _ (if (Ma t==Mu)=true then _ else _) _ _ s;have S:¬ ((Ma t==Mu)=true):=xO;rw[KQ S];show G_ _ _ (field (.ref i) 1 >>= _) _ _ s;refine KL (MT O J (x:=.int k 0) rfl ?_);show G_ _ _ (seqItems? (.ref t) >>= _) _ _ s;refine KL (MZ Y Z ?_);simp only[mi,hv];refine KL (Nc O J '~' (KP #[v,rfl,KP (q _ #[?_,?_] (ix ..))]))
 .exact#[_,Iu _ O (zaQ (Jr J _)),(za3 ..).trans e2,by rw[Jr J];simp[rawInt]]
 .exact W.extBut (ix ..).extBut U
theorem wA{i t:so}{k:Nat}{zs:LY}{Q:LH}(hh:A.handled=Nn)(st:G8 i t zs k s.heap)(hv:zs[k]?=Nn)
  (q:∀h' e,Nw i s.heap h'->(∃o,h'.get? e=Sm o/\o.cls = .type "StopIteration")->E (.ref e) {s with heap:=h'}):G_ (model prog w) A (Nx (.ref i)) Q E s:=by
 let#[hi,Z]:=id st;refine yE1 (id hi) λob=>yB3 λO e2 J=>?_;refine yE1 (id Z) λot=>yB3 λW _=>yF1 λm Y=>?_;unfold Nx;refine KL (M4 (name:=Str.ofString "__next__") hi.typeIs zbf (My zbf hi.typeIs F.entry_tuple_iterator_next ?_ (F.args_tuple_iterator_next_1 _)));show G_ _ _ (field (.ref i) 0 >>= _) _ _ s;refine KL (MT O J (x:=.ref t) rfl ?_);show G_ _ _ (if (Ma t==Mu)=true then _ else _) _ _ s;have S:¬ ((Ma t==Mu)=true):=xO;rw[KQ S];show G_ _ _ (field (.ref i) 1 >>= _) _ _ s;refine KL (MT O J (x:=.int k 0) rfl ?_);show G_ _ _ (seqItems? (.ref t) >>= _) _ _ s;refine KL (MZ W Y ?_);simp only[mi,hv];refine KL (MB (KL (Nc O J '~' ?_)));show G_ _ _ (newExc (.type "StopIteration") [] >>= λz=>_) _ _ _;refine KL ?_;simp only[newTuple,newExc];refine KL (MA (hd:=by size_fits) ?_);refine KL (m:=firstArgMember _ _) (N1 (a:=Mu) (by first | (simp only[firstArgMember];rfl) | rfl) ?_);refine MA (hd:=by size_fits) ?_;simp only[raiseNew];refine KL (wpAny_handled ?_);have U:A.in1.handled=Nn:=hh
 first | rw[U] | rw[hh]
 refine KL (KP (wpAny_throw (q _ _ (((ix ..).extBut.push _).push _) #[_,xb _ rfl,rfl])))
variable{z TI TO i1 i2 t1 t2:so}{xs ys:LY}{k1 k2:Nat}{a b:KE}
theorem AW{x y:KE}{Q:LH}(D:ND z TI TO i1 i2 t1 t2)(Z:MD s.heap z TI TO .none)(gI:Mr s.heap TI (.ref i1) (.ref i2))(gO:Mr s.heap TO a b)
  (g1:G8 i1 t1 xs k1 s.heap) (g2:G8 i2 t2 ys k2 s.heap) (hx:xs[k1]?=Sm x) (hy:ys[k2]?=Sm y)
  (q:∀h',MD h' z TI TO (rawInt s.heap.objs.size)->Mr h' TO x y->G8 i1 t1 xs (k1+1) h'->G8 i2 t2 ys (k2+1) h'->Mr h' s.heap.objs.size x y->h'.objs.size=s.heap.objs.size+1->
   (∀c o,c≠z->c≠TO->c≠i1->c≠i2->s.heap.get? c=Sm o->h'.get? c=Sm o)->Q (.ref s.heap.objs.size) {s with heap:=h'}) :
  G_ (model prog w) A (Mp.«zip.__next__» #[[.ref z],[]]) (λac s'=>∃v,ac = .done (.ret v)/\Q v s') E s:=by
 show G_ _ _ (field (.ref z) 2 >>= λ_=>_) _ _ _;refine KL (MT Z rfl (x:=.bool false) rfl ?_);show G_ _ _ (field (.ref z) 3 >>= λ_=>_) _ _ _;refine KL (MT Z rfl (x:=.ref TI) rfl (KL (MZ gI rfl ?_)));show G_ _ _ (Oh (.ref z) >>= λ_=>_) _ _ _;refine KL ?_;unfold Oh;refine KL (MT Z rfl (x:=.none) rfl (KP ?_));simp only[if_true];refine KL (MB (KL (MT Z rfl (x:=.ref TO) rfl (KL (NY Z '~' λha z1 O=>?_)))))
 replace z1:MD ha z TI TO .ellipsis:=z1
 refine KL ?_;simp only[List.zipIdx_nil,zbg,List.forIn_nil,List.forIn_cons];refine KL (KL (wpAny_onRaise ?_));show G_ _ _ (Nx (.ref i1) >>= λ_=>_) _ _ _;refine KL (mD (g1.ext O.extBut D.i1z D.l1z) D.l1i1 hx λhb r1 m2=>KP ?_);have o2:Mr hb TO a b:=m2.extBut _ _ D.TOi1 (O.extBut _ _ D.TOz gO);refine KL (MZ o2 rfl (KL (Oy o2 λhc o3 Y=>KL (wpAny_letGo (KP ?_)))))
 replace o3:Mr hc TO x b:=o3
 refine KL (KL (wpAny_onRaise ?_));show G_ _ _ (Nx (.ref i2) >>= λ_=>_) _ _ _;refine KL (mD (((g2.ext O.extBut D.i2z D.l2z).ext m2.extBut D.i12.symm D.l2i1).ext Y.extBut D.TOi2.symm D.l2TO) D.l2i2 hy λhd r2 U=>KP ?_);have o4:Mr hd TO x b:=U.extBut _ _ D.TOi2 o3;refine KL (MZ o4 rfl (KL (Oy o4 λF o5 W=>KL (wpAny_letGo (KP (KP ?_))))))
 replace o5:Mr F TO x y:=o5
 refine KL (MZ o5 rfl (KL (wpAny_newTuple ?_)));have hsz:F.objs.size=s.heap.objs.size:=by rw[W.1,U.1,Y.1,m2.1,O.1]
 have z5:MD F z TI TO .ellipsis:=W.extBut _ _ D.TOz.symm (U.extBut _ _ D.i2z.symm (Y.extBut _ _ D.TOz.symm (m2.extBut _ _ D.i1z.symm z1)));have kp:∀c o,c≠z->c≠TO->c≠i1->c≠i2->s.heap.get? c=Sm o->F.get? c=Sm o:=λc o J c2 c3 c4 e=>W.extBut _ _ c2 (U.extBut _ _ c4 (Y.extBut _ _ c2 (m2.extBut _ _ c3 (O.extBut _ _ J e))));have ab:G8 i1 t1 xs (k1+1) F:=((r1.ext Y.extBut D.TOi1.symm D.l1TO).ext U.extBut D.i12 D.l1i2).ext W.extBut D.TOi1.symm D.l1TO;have ad:G8 i2 t2 ys (k2+1) F:=r2.ext W.extBut D.TOi2.symm D.l2TO;have S:z<F.objs.size:=yo z5;show G_ _ _ (OD (.ref z) (.ref F.objs.size) >>= λ_=>_) _ _ _;refine KL ?_;unfold OD;have z6:MD (F.push {cls:=.type "tuple",data:=.seq #v[x,y]}) z TI TO .ellipsis:=yK _ z5;refine KL (NY z6 '~' λhf z7 m7=>?_)
 replace z7:MD hf z TI TO (rawInt F.objs.size):=z7
 refine NY z7 '~' λhg z8 m8=>?_
 replace z8:MD hg z TI TO (rawInt F.objs.size):=z8
 have up:∀c o,c≠z->F.get? c=Sm o->hg.get? c=Sm o:=λc o J e=>m8.extBut _ _ J (m7.extBut _ _ J (yK _ e));have t8:Mr hg F.objs.size x y:=m8.extBut _ _ (II S) (m7.extBut _ _ (II S) (xb _ rfl));have s8:hg.objs.size=F.objs.size+1:=by rw[m8.1,m7.1,tV]
 rw[hsz]at z8 t8 s8;refine KP #[_,rfl,?_];show Q (.ref F.objs.size) _;rw[hsz];have ex:Nw z F hg:=λc o J e=>up c o J e;exact q hg z8 (up _ _ D.TOz o5) (ab.ext ex D.i1z D.l1z) (ad.ext ex D.i2z D.l2z) t8 s8 λc o J c2 c3 c4 e=>up c o J (kp c o J c2 c3 c4 e)
theorem CO{Q:Fin->F_->Prop}(hh:A.handled=Nn)(D:ND z TI TO i1 i2 t1 t2)(Y:MD s.heap z TI TO .none)(gI:Mr s.heap TI (.ref i1) (.ref i2))(gO:Mr s.heap TO a b)
  (g1:G8 i1 t1 xs k1 s.heap) (g2:G8 i2 t2 ys k2 s.heap) (S:xs[k1]?=Nn\/ys[k2]?=Nn)
  (q:∀h' e,(∀c o,c≠z->c≠TO->c≠i1->c≠i2->s.heap.get? c=Sm o->h'.get? c=Sm o)->(∃o,h'.get? e=Sm o/\o.cls = .type "StopIteration")->E (.ref e) {s with heap:=h'}) :
  G_ (model prog w) A (Mp.«zip.__next__» #[[.ref z],[]]) Q E s:=by
 show G_ _ _ (field (.ref z) 2 >>= λ_=>_) _ _ _;refine KL (MT Y rfl (x:=.bool false) rfl ?_);show G_ _ _ (field (.ref z) 3 >>= λ_=>_) _ _ _;refine KL (MT Y rfl (x:=.ref TI) rfl (KL (MZ gI rfl ?_)));show G_ _ _ (Oh (.ref z) >>= λ_=>_) _ _ _;refine KL ?_;unfold Oh;refine KL (MT Y rfl (x:=.none) rfl (KP ?_));simp only[if_true];refine KL (MB (KL (MT Y rfl (x:=.ref TO) rfl (KL (NY Y '~' λha z1 J=>?_)))))
 replace z1:MD ha z TI TO .ellipsis:=z1
 refine KL ?_;simp only[List.zipIdx_nil,zbg,List.forIn_nil,List.forIn_cons];refine KL (KL (wpAny_onRaise ?_));show G_ _ _ (Nx (.ref i1) >>= λ_=>_) _ _ _;have stop:∀ {h':Lv} {e:so},MD h' z TI TO .ellipsis->(∃o,h'.get? e=Sm o/\o.cls = .type "StopIteration")->e≠z:=λ{h' e} hz ⟨o,ho,Z⟩ n=>by
  subst n;rw[hz]at ho;cases ho;simp at Z
 rcases hx:xs[k1]? with _ | x
 .refine KL (wA hh (g1.ext J.extBut D.i1z D.l1z) hx λhb e F U=>?_);have z2:MD hb z TI TO .ellipsis:=F _ _ D.i1z.symm z1;have nz:=stop z2 U;let#[oe,p1,p2]:=U;exact NY z2 '~' λZ _ O=>q Z e (λc o W _ c3 _ x=>O.extBut _ _ W (F _ _ c3 (J.extBut _ _ W x))) #[oe,O.extBut _ _ nz p1,p2]
 .have hy:ys[k2]?=Nn:=by
   rcases S with h | h
   .rw[hx]at h;cases h
   .exact h
  refine KL (mD (g1.ext J.extBut D.i1z D.l1z) D.l1i1 hx λhb r1 F=>KP ?_);have o2:Mr hb TO a b:=F.extBut _ _ D.TOi1 (J.extBut _ _ D.TOz gO);refine KL (MZ o2 rfl (KL (Oy o2 λZ o3 O=>KL (wpAny_letGo (KP ?_)))));refine KL (KL (wpAny_onRaise ?_));show G_ _ _ (Nx (.ref i2) >>= λ_=>_) _ _ _;refine KL (wA hh (((g2.ext J.extBut D.i2z D.l2z).ext F.extBut D.i12.symm D.l2i1).ext O.extBut D.TOi2.symm D.l2TO) hy λhd e m4 U=>?_);have z4:MD hd z TI TO .ellipsis:=m4 _ _ D.i2z.symm (O.extBut _ _ D.TOz.symm (F.extBut _ _ D.i1z.symm z1));have nz:=stop z4 U;let#[oe,p1,p2]:=U;exact NY z4 '~' λhg _ m5=>q hg e (λc o W c2 c3 c4 x=>m5.extBut _ _ W (m4 _ _ c4 (O.extBut _ _ c2 (F.extBut _ _ c3 (J.extBut _ _ W x))))) #[oe,m5.extBut _ _ nz p1,p2]
end
section
variable{prog:Lw}{w:Lu}{A:Mc}{E:LH}{s:F_}{z TI TO i1 i2 t1 t2:so}{xs ys:LY}{k1 k2:Nat}{a b:KE}
theorem y7{x y:KE}{Q:LO->F_->Prop}(D:ND z TI TO i1 i2 t1 t2)(J:MD s.heap z TI TO .none)(S:Mr s.heap TI (.ref i1) (.ref i2))(U:Mr s.heap TO a b)
  (g1:G8 i1 t1 xs k1 s.heap) (g2:G8 i2 t2 ys k2 s.heap) (hx:xs[k1]?=Sm x) (hy:ys[k2]?=Sm y)
  (q:∀h',MD h' z TI TO (rawInt s.heap.objs.size)->Mr h' TO x y->G8 i1 t1 xs (k1+1) h'->G8 i2 t2 ys (k2+1) h'->Mr h' s.heap.objs.size x y->h'.objs.size=s.heap.objs.size+1->
   (∀c o,c≠z->c≠TO->c≠i1->c≠i2->s.heap.get? c=Sm o->h'.get? c=Sm o)->Q (Sm (.ref s.heap.objs.size)) {s with heap:=h'}):G_ (model prog w) A (pyNext (.ref z)) Q E s:=by
 have ty:s.TypeIs (.ref z) "zip" := #[_,J,rfl];unfold pyNext;exact KL (Nm (M4 (name:=Str.ofString "__next__") ty zbh (My zbh ty F.entry_zip_next
  (AW D J S U g1 g2 hx hy λh' a1 a2 a3 O Z W Y=>KP (q h' a1 a2 a3 O Z W Y)) (F.args_zip_next_1 _))))
theorem AA{Q:LO->F_->Prop}(hh:A.handled=Nn)(D:ND z TI TO i1 i2 t1 t2)(O:MD s.heap z TI TO .none)(U:Mr s.heap TI (.ref i1) (.ref i2))(W:Mr s.heap TO a b)
  (g1:G8 i1 t1 xs k1 s.heap) (g2:G8 i2 t2 ys k2 s.heap) (J:xs[k1]?=Nn\/ys[k2]?=Nn)
  (q:∀h',(∀c o,c≠z->c≠TO->c≠i1->c≠i2->s.heap.get? c=Sm o->h'.get? c=Sm o)->Q Nn {s with heap:=h'}):G_ (model prog w) A (pyNext (.ref z)) Q E s:=by
 have ty:s.TypeIs (.ref z) "zip" := #[_,O,rfl];unfold pyNext;refine KL (Nm (M4 (name:=Str.ofString "__next__") ty zbh (My zbh ty F.entry_zip_next
  (CO hh D O U W g1 g2 J λh' e kk Y=>?_) (F.args_zip_next_1 _))))
 let#[o,Z,S]:=Y;exact KL (NE (T := "StopIteration") (b:=true) #[o,Z,S] Of (KP (q _ kk)))
noncomputable abbrev Ea (h:Lv) (t1:so):Lv:=h.push {cls:=.type "tuple_iterator",data:=.fields #v[.ref t1,.int 0 0]}
noncomputable abbrev D4 (h:Lv) (t1 t2:so):Lv:=(Ea h t1).push {cls:=.type "tuple_iterator",data:=.fields #v[.ref t2,.int 0 0]}
noncomputable abbrev DJ (h:Lv) (t1 t2:so):Lv:=(D4 h t1 t2).push {cls:=.type "tuple",data:=.seq #v[.ref h.objs.size,.ref (Ea h t1).objs.size]}
noncomputable abbrev Ek (h:Lv) (t1 t2:so):Lv:=(DJ h t1 t2).push {cls:=.type "tuple",data:=.seq #v[.none,.none]}
noncomputable abbrev pN (h:Lv) (t1 t2:so):Lv:=(Ek h t1 t2).push {cls:=.type "zip",data:=.fields #v[.none,.bool false,.bool false,.ref (D4 h t1 t2).objs.size,.ref (DJ h t1 t2).objs.size]}
theorem yt(t1 t2:so)(xs ys:LY):Meets (Mp.«zip.__new__» #[[.type "zip",.ref t1,.ref t2],[]]) (λ_ R s=>s.heap.IsTuple t1 xs/\s.heap.IsTuple t2 ys/\
   R (.ok (.ret (.ref (Ek s.heap t1 t2).objs.size))) {s with heap:=pN s.heap t1 t2}):=
 .of_wp λprog w A R s q=>by
  let#[J,g,d,F,os]:=s;let#[U,Y,q]:=q;have O:=sub_zip;have S:Lv.IsTuple (F_.heap #[J,g,d,F,os]) t1 xs:=U;have W:Lv.IsTuple (F_.heap #[J.push {cls:=.type "tuple_iterator",data:=.fields #v[.ref t1,.int 0 0]},g,d,F,os]) t2 ys:=Lv.IsTuple.push Y _
  wp_walk using wpAny_pyIter_tuple S,wpAny_pyIter_tuple W
  exact#[_,rfl,q]
theorem AX{Q:LH}(W:s.heap.IsTuple t1 xs)(e2:s.heap.IsTuple t2 ys)
  (q:∀h',MD h' (s.heap.objs.size+4) (s.heap.objs.size+2) (s.heap.objs.size+3) .none->Mr h' (s.heap.objs.size+2) (.ref s.heap.objs.size) (.ref (s.heap.objs.size+1))->
   Mr h' (s.heap.objs.size+3) .none .none->G8 s.heap.objs.size t1 xs 0 h'->G8 (s.heap.objs.size+1) t2 ys 0 h'->
   (∀c o,s.heap.get? c=Sm o->h'.get? c=Sm o)->Q (.ref (s.heap.objs.size+4)) {s with heap:=h'}):G_ (model prog w) A (call (.type "zip") [.ref t1,.ref t2]) Q E s:=by
 refine callType_new F.called_zip ∅ (F.typeCall_zip_2 _ _) (F.newCall_zip_2 _ _) (λobj=>F.args_object_init_3 obj _ _) F.entry_zip_new (yt t1 t2 xs ys) #[W,e2,?_];have U:(Ea s.heap t1).objs.size=s.heap.objs.size+1:=tV ..;have J:(D4 s.heap t1 t2).objs.size=s.heap.objs.size+2:=by rw[tV,U]
 have S:(DJ s.heap t1 t2).objs.size=s.heap.objs.size+3:=by rw[tV,J]
 have z4:(Ek s.heap t1 t2).objs.size=s.heap.objs.size+4:=by rw[tV,S]
 have p:∀ {h:Lv} {o:Obj} {c:so} {u:Obj},h.get? c=Sm u->(h.push o).get? c=Sm u:=λe=>yK _ e;have kk:∀c o,s.heap.get? c=Sm o->(pN s.heap t1 t2).get? c=Sm o:=λc o e=>p (p (p (p (p e))));have O:(pN s.heap t1 t2).get? (Ek s.heap t1 t2).objs.size=Sm _:=xb _ rfl;have Y:(pN s.heap t1 t2).get? (DJ s.heap t1 t2).objs.size=Sm _:=p (xb _ rfl);have Z:(pN s.heap t1 t2).get? (D4 s.heap t1 t2).objs.size=Sm _:=p (p (xb _ rfl));have g2:(pN s.heap t1 t2).get? (Ea s.heap t1).objs.size=Sm _:=p (p (p (xb _ rfl)));have g1:(pN s.heap t1 t2).get? s.heap.objs.size=Sm _:=p (p (p (p (xb _ rfl))));show _/\_;rw[J,S,z4]at O;rw[U,J]at Z;rw[S]at Y;rw[U]at g2;rw[z4];have tt:∀ {t zs},s.heap.IsTuple t zs->(pN s.heap t1 t2).IsTuple t zs:=λ⟨o,e,r⟩=>#[o,kk _ _ e,r];exact#[#[_,O,rfl],q _ O Z Y #[#[_,g1,rfl,rfl],tt W] #[#[_,g2,rfl,rfl],tt e2] kk]
end
def Eh(K:K_)(a b:so):It:=
  ⟨λi H=>∃xs ys x y,su K H a xs/\su K H b ys/\xs[i]?=Sm x/\ys[i]?=Sm y,
   λi H v H'=>∃t x y,H t=Nn/\v = .ref t/\H'=upd H t (.tup [x,y])/\(∀xs,su K H a xs->xs[i]?=Sm x)/\∀ys,su K H b ys->ys[i]?=Sm y,
   λi H=>∃xs ys,su K H a xs/\su K H b ys/\(xs.length<=i\/ys.length<=i)⟩
def UZ(z TI TO i1 i2 l1 l2:so)(i:Nat)(h:Lv):Prop:=
 MD h z TI TO .none/\Mr h TI (.ref i1) (.ref i2)/\(∃a b,Mr h TO a b)/\h.IsTupleIter i1 l1 i/\h.IsTupleIter i2 l2 i
theorem su.apart{X:Cx}{pins:List (so×Obj)}{σ:St}{s:F_}{a c:so}(I:Inv X pins σ H s)(hf:iZ X pins H c)(h:su X.K H a xs):a≠c:=by
 rintro rfl;rcases h with h | ⟨o,F,n,J,_⟩
 .rcases h with e | ⟨o,e⟩<;>(rw[hf.1]at e;cases e)
 .have e:=I.ok.mod.kin a o J;rcases hf.2.2.2.1 with z | z
  .exact I.ok.noex a o e z
  .exact absurd (oG (yo (I.ok.bs a o e).1) z) (Jw _)
theorem zJ{P:Lw}{w:Lu}{K:K_}{as:LX}{k:Nat}{pos:Pos}{z TI TO i1 i2 l1 l2:so}(D:m_ z TI TO i1 i2):k7 P w K (.Tuple as k pos) (Eh K l1 l2) [z,TI,TO,i1,i2] z (UZ z TI TO i1 i2 l1 l2) where
 mem:='~'
 obj:=λi h st b J=>by
  revert st;refine yB5 ?_;rintro U s2 ⟨_,_,s3⟩ ⟨o4,Z,c4,d4⟩ ⟨o5,Y,c5,d5⟩;simp only[yk,oZ,or_false]at J;rcases J with rfl | rfl | rfl | rfl | rfl
  .exact#[_,U,λv e=>by cases e]
  .exact#[_,s2,λv e=>by cases e]
  .exact#[_,s3,λv e=>by cases e]
  .exact#[_,Z,λv e=>by rw[d4]at e;cases e]
  .exact#[_,Y,λv e=>by rw[d5]at e;cases e]
 keep:=λi h h' st kk=>by
  revert st;refine yB5 ?_;rintro U s2 ⟨a,b,s3⟩ Z Y;exact#[kk z '~' _ U,kk TI '~' _ s2,yI2 a b (kk TO '~' _ s3),Z.at λo e=>kk i1 '~' o e,Y.at λo e=>kk i2 '~' o e]
 item:=by
  intro X hP hw hK hc i pins s σ H E I hf st hg;subst hP hw hK;revert hg;refine yF4 λxs ys x y=>yB4 λq1 q2 hx hy=>?_;refine yE1 (I.tuple q1) λag=>yB3 λab p1 _=>?_;refine yE1 (I.tuple q2) λad=>yB3 λal p2 _=>?_;let#[u1,bg,b0]:=ab.get hx;let#[u2,bh,be]:=al.get hy;have n1:∀c∈[z,TI,TO,i1,i2],l1≠c:=λc F=>su.apart I (hf c F) q1;have S:∀c∈[z,TI,TO,i1,i2],l2≠c:=λc F=>su.apart I (hf c F) q2;have D':ND z TI TO i1 i2 l1 l2:=#[D.TIz,D.TOz,D.i1z,D.i2z,D.TITO,D.TIi1,D.TIi2,D.TOi1,D.TOi2,D.i12,n1 _ '~',n1 _ '~',n1 _ '~',n1 _ '~',S _ '~',S _ '~',S _ '~',S _ '~'];revert st;refine yB5 ?_;rintro U s2 ⟨a,b,s3⟩ Z Y;have e1:s.heap.IsTuple l1 ag.toArray:=p1;have e2:s.heap.IsTuple l2 ad.toArray:=p2;refine y7 D' U s2 s3 #[Z,e1] #[Y,e2] (x:=u1) (y:=u2) (by simpa using bg) (by simpa using bh) λh' a1 a2 a3 a4 a5 a6 kk=>?_;refine#[_,rfl,wpAny_letOwnedTupleGo_zip a1 λa7 bc O=>?_];have lt:∀ {c o},s.heap.get? c=Sm o->s.heap.objs.size≠c:=λe=>II (yo e);have bp:s.heap.objs.size≠z:=lt U;have ac:∀b o,b∉[z,TI,TO,i1,i2]->s.heap.get? b=Sm o->a7.get? b=Sm o:=λb o J e=>by
   simp only[yk,oZ,or_false,not_or]at J;exact O.extBut _ _ J.1 (kk b o J.1 J.2.2.1 J.2.2.2.1 J.2.2.2.2 e)
  have hsz:H s.heap.objs.size=Nn:=I.hok.fresh (zu _);have a9:Mr a7 s.heap.objs.size u1 u2:=O.extBut _ _ bp a5;have bt:∀c∈[z,TI,TO,i1,i2],c≠s.heap.objs.size:=λc F=>by
   let#[o4,e4,_]:=id Z;let#[o5,e5,_]:=id Y;simp only[yk,oZ,or_false]at F;rcases F with rfl | rfl | rfl | rfl | rfl
   .exact(lt U).symm
   .exact(lt s2).symm
   .exact(lt s3).symm
   .exact(lt e4).symm
   .exact(lt e5).symm
  refine⟨.ref s.heap.objs.size,upd H s.heap.objs.size (.tup [x,y]),I.turnedLaid (t':=s.toks) ac hf (zu _) ⟨aJ (by show 2<=1000000;decide),[u1,u2],.cons b0 (.cons be .nil),⟨_,a9,rfl,rfl,0,rfl⟩⟩,rfl,yI3 _ x y ⟨hsz,rfl,rfl,λb2 q'=>?_,λb1 q'=>?_⟩,
   ⟨bc,O.extBut _ _ D.TIz (kk _ _ D.TIz D.TITO D.TIi1 D.TIi2 s2),yI2 _ _ (O.extBut _ _ D.TOz a2),a3.1.extBut O.extBut D.i1z,a4.1.extBut O.extBut D.i2z⟩,λc F=>?_⟩
  .rw[I.tuple_inj q' q1];exact hx
  .rw[I.tuple_inj q' q2];exact hy
  .rw[aw (bt c F)];exact(hf c F).1
 done:=by
  intro X hP hw hK hc i pins s σ H E I hf st hg;subst hP hw hK;revert hg;refine yF2 λxs ys=>yB3 λq1 q2 a8=>?_;refine yE1 (I.tuple q1) λag=>yB3 λab p1 _=>?_;refine yE1 (I.tuple q2) λad=>yB3 λal p2 _=>?_;have l1:=ab.length;have l2:=al.length;have n1:∀c∈[z,TI,TO,i1,i2],_≠c:=λc F=>su.apart I (hf c F) q1;have S:∀c∈[z,TI,TO,i1,i2],_≠c:=λc F=>su.apart I (hf c F) q2;have D':ND z TI TO i1 i2 _ _:=#[D.TIz,D.TOz,D.i1z,D.i2z,D.TITO,D.TIi1,D.TIi2,D.TOi1,D.TOi2,D.i12,n1 _ '~',n1 _ '~',n1 _ '~',n1 _ '~',S _ '~',S _ '~',S _ '~',S _ '~'];revert st;refine yB5 ?_;rintro U s2 ⟨a,b,s3⟩ Z Y;have e1:s.heap.IsTuple _ ag.toArray:=p1;have e2:s.heap.IsTuple _ ad.toArray:=p2;refine AA (I.ok.hd hc) D' U s2 s3 #[Z,e1] #[Y,e2] ?_ λh' kk=>#[rfl,I.turnedL (t':=s.toks) (λb o J e=>?_) hf]
  .rcases a8 with z | z
   .exact .inl (by simp;lia)
   .exact .inr (by simp;lia)
  .simp only[yk,oZ,or_false,not_or]at J;exact kk b o J.1 J.2.2.1 J.2.2.2.1 J.2.2.2.2 e
 self:=λA i s Q E st h=>Ob st.1 h
def DM(K:K_)(ta:TA):TI:=λσ H R=>ta σ H λvs H1=>∃a b:so,vs=[.ref a,.ref b]/\(∃xs,su K H1 a xs)/\(∃ys,su K H1 b ys)/\R (Eh K a b) H1
theorem rB(K:K_)(ta:TA){σ:St}{R:It->Hp->Prop}:DM K ta σ H R=ta σ H λvs H1=>∃a b:so,vs=[.ref a,.ref b]/\(∃xs,su K H1 a xs)/\(∃ys,su K H1 b ys)/\R (Eh K a b) H1:=rfl
theorem we(K:K_){X:Cx}{O:LX}{k:Nat}{S:Pos}{a b:Expr}{ta:TA}{p pos:Pos}(hg:Gl X "zip") (hm:X.mg "zip" = Nn) (ha:PA X [a,b] ta) (hs:Mh [a,b] X.env=[(false,eval a X.env),(false,eval b X.env)]:=by rfl) (hs2:Mh [b] X.env=[(false,eval b X.env)]:=by rfl) (hK:X.K=K:=by rfl) :
  PI X (.Tuple O k S) (.Call (.Name "zip" p) [a,b] [] pos) (DM K ta):=by
 subst hK;intro pins s σ H R I h;refine Call_ (iW I hg hm sU (zaV (bD (ha pos pins s σ H _ I h) λus F ⟨vs,H1,U,r1,q1⟩=>?_) (by rw[hs,hs2]) (by rw[hs2];rfl)));revert q1;refine yF2 λl1 l2=>yB4 ?_;rintro e ⟨xs,h1⟩ ⟨ys,h2⟩ q;subst e;refine yE2 (qJ r1) λu1 u2=>yB3 ?_;rintro rfl r1 r2;cases r1;cases r2;refine yE1 (U.tuple h1) λZ=>yB3 λ_ p1 _=>?_;refine yE1 (U.tuple h2) λY=>yB3 λ_ p2 _=>?_;refine AX (show F.heap.IsTuple l1 Z.toArray from p1) (show F.heap.IsTuple l2 Y.toArray from p2) λh' a1 a2 a3 a4 a5 kk=>?_;refine Ob a1 ⟨_,[F.heap.objs.size+4,F.heap.objs.size+2,F.heap.objs.size+3,F.heap.objs.size,F.heap.objs.size+1],_,_,H1,rfl,U.kept (t':=F.toks) kk,
  zJ (z:=F.heap.objs.size+4) (TI:=F.heap.objs.size+2) (TO:=F.heap.objs.size+3) (i1:=F.heap.objs.size) (i2:=F.heap.objs.size+1) (KN _),⟨a1,a2,yI2 _ _ a3,a4.1,a5.1⟩,λb hb=>?_,q⟩
 have J:F.heap.objs.size<=b:=by
  simp only[yk,oZ,or_false]at hb;rcases hb with rfl | rfl | rfl | rfl | rfl<;>first | exact zu _ | exact za2 _ _
 exact U.fpOk J (U.hok.fresh J)
section
variable{prog:Lw}{w:Lu}{A:Mc}{E:LH}{s:F_}
theorem qE{t O:so}{items:LY}{Y W:KE}{lo hi:LQ}{Q:LH}(J:IsTup s.heap t items)(U:s.heap.IsSliceOf O Y W .none)(pl:PySem.IsPart Y lo)(pu:PySem.IsPart W hi)
  (S:HT.sIx items.size 0 lo=0/\HT.sIx items.size items.size hi=items.size) (q:Q (.ref t) s):G_ (model prog w) A (getItem (.ref t) (.ref O)) Q E s:=by
 refine yE1 (id U) λos=>yB3 λg1 g2 g3=>?_;have ty:s.TypeIs (.ref O) "slice" := #[os,g1,g2];unfold getItem
 try with_reducible refine Ms ?_
 first | refine KL (KP ?_) | skip
 refine KL (wpAny_sequenceKey J.typeIs ∅ (KL (M4 (name:=Str.ofString "__getitem__") J.typeIs zbw (My zbw J.typeIs entry_tuple_getitem ?_ (args_tuple_getitem _ _)))));show G_ _ _ (Oq (.ref t) >>= λ_=>_) _ _ s;refine KL (tupleItemsOf_ J (KL (Nt ty ?_)));rw[KZ ∅];refine KL (HT.sliceApplied_gen U pl pu ?_);have F:((((HT.sIx items.size 0 lo:Nat):Int)==0&&(1:Int)==1&&(HT.sIx items.size items.size hi-HT.sIx items.size 0 lo)==items.size)=true):=by
  rw[S.1,S.2];simp
 show G_ _ _ (if (((HT.sIx items.size 0 lo:Nat):Int)==0&&(1:Int)==1&&(HT.sIx items.size items.size hi-HT.sIx items.size 0 lo)==items.size)=true then _ else _) _ _ s;rw[KZ F];refine KL (m:=Mp.Tuple.tupleIsExact _) (KL (Nt J.typeIs (KP ?_)));have Z:(M5 "tuple" == M5 "tuple")=true:=∅;rw[Z,KZ rfl];exact KL (MB (KP #[_,rfl,KP q]))
end
section
variable{X:Cx}
def xL(K:K_):V->LQ->LQ->Hp->VK->Prop:=λx lo hi H Q=>∃a xs,x = .ref a/\su K H a xs/\
 (HT.sIx xs.length 0 lo=0/\HT.sIx xs.length xs.length hi=xs.length->Q (.ref a) H)/\(¬ (HT.sIx xs.length 0 lo=0/\HT.sIx xs.length xs.length hi=xs.length)->∀p,H p=Nn->Q (.ref p) (upd H p (.tup (dO xs lo hi))))
theorem gY(K:K_)(hK:X.K=K:=by rfl):Do X (xL K):=by
 subst hK;intro pins s σ H x v vl vu lo hi sl Q I J U pl Z h;revert h;refine yF2 λa xs=>yB4 ?_;rintro rfl hx q1 q2;by_cases hw:HT.sIx xs.length 0 lo=0/\HT.sIx xs.length xs.length hi=xs.length
 .have S:=J;cases J;refine yE1 (I.tuple hx) λO=>yB3 λr Y hz=>?_;have F:O.toArray.size=xs.length:=by rw[xU];exact r.length.symm
  exact yI2 ("tuple") _ #[PyProof.Rows.slot_tuple_getitem.lookup,Y.typeIs,qE Y U pl Z (by rw[F];exact hw) (yI2 (.ref a) H #[I,S,q1 hw])]
 .exact Hn pins s σ H _ v vl vu lo hi sl Q I J U pl Z (yI2 a xs #[rfl,hx,hw,q2 hw])
theorem ga{K:K_}{a:so}{lo hi:LQ}(h:su K H a xs)(q:∀p H',sg H H'->su K H' p (dO xs lo hi)->Q (.ref p) H'):xL K (.ref a) lo hi H Q:=by
 refine yI2 a xs #[rfl,h,λF=>?_,λ_ p J=>q p _ (ak J _) (su.of ai)];have e:dO xs lo hi=xs:=by unfold dO;rw[F.1,F.2];simp
 exact q a H (λ_ _ e=>e) (by rw[e];exact h)
theorem v0(xs:LM)(k:Nat):dO xs Nn (Sm (k:Int))=xs.take k:=by
 unfold dO;rw[HT.sIx_none,HT.sIx_nat,List.drop_zero,Nat.sub_zero];exact List.take_eq_take_min.symm
theorem jl(xs:LM)(k:Nat):dO xs (Sm (k:Int)) Nn=xs.drop k:=by
 unfold dO;rw[HT.sIx_none,HT.sIx_nat];rcases Nat.le_total k xs.length with h | h
 .rw[Nat.min_eq_left h,HS (by rw[Jx];lia)]
 .rw[Nat.min_eq_right h,JL,List.take_zero,List.drop_eq_nil_of_le h]
def yg:LM->Hp->VK->Prop:=λxs H Q=>(∃i,xs=[.int i]/\i.natAbs.log2<1920/\Q (.str (toString i)) H)\/∃y,xs=[.str y]/\Q (.str y) H
theorem An:B3 X (.type "str") yg:=by
 intro pins s σ H xs F Q I r h;rcases h with h | ⟨y,rfl,q⟩
 .exact sW pins s σ H xs F Q I r h
 .refine yE1 (dv r) λu=>yB2 ?_;rintro rfl;refine yF1 ?_;rintro t rfl;exact P.str_of_str (yI2 (.str y) H #[I,#[t,rfl],q])
theorem qo(i:Int):yg [.int i] H Q=(i.natAbs.log2<1920/\Q (.str (toString i)) H):=
 propext #[λh=>by rcases h with ⟨_,e,h⟩ | ⟨_,e,_⟩<;>cases e;exact h,λh=>.inl #[i,rfl,h]]
theorem qe(y:Str):yg [.str y] H Q=Q (.str y) H:=
 propext #[λh=>by rcases h with ⟨_,e,h⟩ | ⟨_,e,h⟩<;>cases e;exact h,λh=>.inr #[y,rfl,h]]
theorem wk{x:Str}{d:so}{pos:Pos}(h:X.mg x=Sm (.ref d))(hg:Gl X x:=by first | exact vGg ⋯ | rfl)(hd:(x==("__debug__" : Str))=false:=by decide):PE X (.Name x pos) (tC (.ref d)):=EY hg h rfl hd
theorem eI:Hr X "list.extend" lJ:=zz
theorem gJ(l b:so):lJ (.ref l) [.ref b] H Q=∃xs zs,H l=Sm (.lst xs)/\H b=Sm (.lst zs)/\xs.length+zs.length<=L_/\Q .non (upd H l (.lst (xs++zs))):=
 propext #[λ⟨_,_,xs,zs,F,J,q⟩=>by cases F;cases J;exact yI2 xs zs q,λ⟨xs,zs,q⟩=>yI4 l b xs zs #[rfl,rfl,q]]
theorem iH(K:K_){tg l:Expr}{tl:TE}(hl:PE X l tl)(F:X.K=K:=by rfl):PI X tg l (Dg K tl):=F ▸ Hl hl
theorem vn(K:K_)(tl:TE){σ:St}{R:It->Hp->Prop}:Dg K tl σ H R=tl σ H λx H1=>∃a,x = .ref a/\(∃xs,su K H1 a xs)/\R (wy K a) H1:=rfl
end
section
variable{K:K_}{a b:so}{xs ys:LM}{g:TG}{te:TE}{nT:Nat}{σ:St}{D:so}{Q:VK}{H:Hp}
theorem tf{tb:TS}{D:d0}(F:Nat->St->Hp->Prop)(S:F 0 σ H)(hl:∀i σ H,i<=xs.length->F i σ H->su K H a xs)
  (O:∀i x σ H,xs[i]?=Sm x->F i σ H->g x σ H λU H2=>tb {D with nx:=F (i+1),ct:=F (i+1),bk:=D.nx} U H2) (hd:∀σ H,F xs.length σ H->D.nx σ H):kS (wy K a) g tb D σ H:=by
 refine lj xs.length F S (λi σ H hi p=>yI2 xs (xs[i]) #[hl i σ H (xE hi) p,by simp[hi]]) (λσ H p=>#[xs,hl _ σ H (zu _) p,zu _]) (λi σ H x H' hi p J=>?_) hd;let#[rfl,y]:=J;exact O i x σ _ (y xs (hl i σ _ (xE hi) p)) p
theorem kJ(F:Nat->LM->Hp->Prop)(J:F 0 [] H)(hl:∀i ys H,i<=xs.length->F i ys H->su K H a xs)
  (S:∀i ys H x,xs[i]?=Sm x->i<xs.length->F i ys H->g x (σ++List.replicate nT Nn) H (lm xs.length i F D ys te))
  (hd:∀ys H,F xs.length ys H->Q (.ref D) H):gG (wy K a) g oM te nT σ D Q H:=by
 refine ma xs.length F J (λi ys H hi p=>yI2 xs (xs[i]) #[hl i ys H (xE hi) p,by simp[hi]]) (λys H p=>#[xs,hl _ ys H (zu _) p,zu _]) (λi ys H x H' hi p O=>?_) hd;let#[rfl,y]:=O;exact S i ys _ x (y xs (hl i ys _ (xE hi) p)) hi p
theorem pL{tb:TS}{D:d0}(F:Nat->St->Hp->Prop)(O:xs.length=ys.length)(W:F 0 σ H)(hl:∀i σ H,i<=xs.length->F i σ H->su K H a xs/\su K H b ys)
  (U:∀i x y t σ H,xs[i]?=Sm x->ys[i]?=Sm y->F i σ H->H t=Nn->g (.ref t) σ (upd H t (.tup [x,y])) λσ2 H2=>tb {D with nx:=F (i+1),ct:=F (i+1),bk:=D.nx} σ2 H2) (hd:∀σ H,F xs.length σ H->D.nx σ H):kS (Eh K a b) g tb D σ H:=by
 refine lj xs.length F W (λi σ H hi p=>yI4 xs ys (xs[i]) (ys[i]) #[(hl i σ H (xE hi) p).1,(hl i σ H (xE hi) p).2,by simp[hi],by simp[O ▸ hi]]) (λσ H p=>yI2 xs ys #[(hl _ σ H (zu _) p).1,(hl _ σ H (zu _) p).2,.inl (zu _)]) (λi σ H v H' hi p S=>?_) hd;revert S;refine yF3 λt x y=>yB5 ?_;rintro Z rfl rfl J Y;exact U i x y t σ H (J xs (hl i σ H (xE hi) p).1) (Y ys (hl i σ H (xE hi) p).2) p Z
end
theorem su.same{K:K_}{H':Hp}{a:so}(h:su K H a xs)(sm:sg H H'):su K H' a xs:=by
 rcases h with (h | ⟨o,h⟩) | h
 .exact .inl (.inl (sm _ _ h))
 .exact .inl (.inr #[o,sm _ _ h])
 .exact .inr h
theorem ke{α:Type}{x:α}{xs:List α}:cM (x::xs) 0=Sm x:=ao (j:=0) rfl
theorem su.updL{K:K_}{a l:so}{ys:LM}{o:HO}(h:su K H a xs)(hl:H l=Sm (.lst ys)):su K (upd H l o) a xs:=by
 rcases h with (h | ⟨o',h⟩) | h
 .exact .inl (.inl (by rw[aw (dh h hl (λz=>nomatch z))];exact h))
 .exact .inl (.inr #[o',by rw[aw (dh h hl (λz=>nomatch z))];exact h])
 .exact .inr h
theorem Ko{P:Lw}{w:Lu}{k:aT}{u:KE}(h:(df P w).is k u=true):RelV (kV k) u:=by
 cases k with
 | inl i=>
  let#[t,rfl]:=JK (show NZ i u=true from h);exact#[t,rfl]
 | inr x=>
  let#[t,rfl]:=Om (show Nh x u=true from h);exact#[t,rfl]
section
variable{X:Cx}
def zw:LM->Hp->VK->Prop:=λxs H Q=>∃d kvs,xs=[.ref d]/\H d=Sm (.dK kvs)/\kvs.length<=60000/\∀l,H l=Nn->Q (.ref l) (upd H l (.lst (kvs.map λkv=>kV kv.1)))
theorem pV(d:so):zw [.ref d] H Q=∃kvs,H d=Sm (.dK kvs)/\kvs.length<=60000/\∀l,H l=Nn->Q (.ref l) (upd H l (.lst (kvs.map λkv=>kV kv.1))):=
 propext #[λ⟨_,kvs,e,q⟩=>by cases e;exact#[kvs,q],λ⟨kvs,q⟩=>yI2 d kvs #[rfl,q]]
theorem yV{m:Nat}(hr:Cm m X.A):B3 X (.type "list") zw:=by
 intro pins s σ H xs us Q I r h;revert h;refine yF2 λd kvs=>yB4 ?_;rintro rfl ed hn q;let#[u,rfl,ru]:=dv r;cases ru;refine yA3 (qR I.hok (.inl ed)) λ_ hd=>yF1 λvs=>yB2 λO dd=>?_;let#[ep,hm]:=dd.dictAt;have hs:L_=16777216:=M2;have hl:kvs.length=vs.length:=zaJ O;refine W.kdl_call (W.kdl_dict (knd:=df X.prog X.w) (kvs:=vs) (ep:=ep) hd) hr.hd hm () λh' tk S c' hk hS F=>?_;refine yI2 (.ref s.heap.objs.size) _ #[I.laid hk (zu _) (show BD X.prog X.w _ h' _ (.lst (kvs.map λkv=>kV kv.1)) from #[by simp;lia,yI2 S.toList c' #[?_,by simpa using hS]]),rfl,q _ (I.hok.fresh (zu _))];refine vH _ _ (by simp[F.1,hl]) λj x Z J e2=>?_;refine yE2 (F.2 j Z (by rw[<-Ip];exact e2)) λk y=>yB2 λY U=>?_;rw[yf]at J;cases hkv:kvs[j]? with
 | none=>rw[hkv]at J;cases J
 | some kv=>
  rw[hkv]at J;cases J;have:=(iC O hkv Y).1;show RelV (kV kv.1) Z;rw[this];exact Ko U
end
end L2
namespace L2
open PySem PySem.Spec PyProof.Rows PySem.SeqAt
variable{f:Str}{v:V}
structure Fl (K:K_) (C:so) (f:Str):Prop where
 c:KC K C
 n:G5 K C f
structure Hm (K:K_) (mg:Str->LO) (x:Str) (C:so) (qual:Str) (st:L6):Prop where
 ex:∃f fd,Jn K "__init__" qual st f fd/\Mk K C f/\mg x=Sm (.ref C)
structure u3 (P:Lw) (w:Lu) (K:K_) (mg:Str->LO) (base:Lv) (k:Nat) (x:Str) (C:so) (ps:LI) (sp:Sp):Prop where
 ex:∃f fd,GG P w K mg base kR k f fd ps sp/\Binds K fd ps []/\Mk K C f/\mg x=Sm (.ref C)
section
variable{P:Lw}{w:Lu}{K:K_}{mg:Str->LO}{base:Lv}
theorem Hm.mkal{x:Str}{C:so}{J:Str}{st:L6}{N ps:LI}{k:Nat}{sp:Sp}(D:Hm K mg x C J st)(S:aE N ps (rd st))
  (hb:∀(kV Z pm:KE) (an:LZ) (O ct:KE) (Y:LN),Y.length=ps.length->bindArgs (M3 "__init__" J (Da st) (Cs st) (rd st) .none kV Z pm an O ct) #[Y,[]]=pure (ps.zip Y))
  (len:∀vs H Q E,sp vs H Q E->vs.length=ps.length)
  (U:∀(f:so) (O:KE) (A:Mc) (outer:List Env) (s:F_) (H:Hp) (vs:LM) (Q:VK) (E:XK),Cm k (A.deeper (envOfC J (rd st) s.heap.objs.size f O))->sp vs H Q E->
   ∃t,Hq (kH kR P w K mg base N J (rd st) f O A outer s H E).nox (Cs st) t/\t {nx:=λ_ H'=>Q .non H',rt:=Q} (start N vs) H):u3 P w K mg base (k+1) x C ps sp:=by
 refine yE2 D.ex λf fd=>yB3 λF m g=>?_;exact#[f,fd,F.ok S len λO A outer s H vs Q E hr h=>U f O A outer s H vs Q E hr h,F.binds hb,m,g]
end
def DU(C:so)(f:Str)(ta:TE):TE:=λσ H Q=>ta σ H λx H1=>∃a,x = .ref a/\∃dx fs v,H1 a=Sm (.ins C dx fs)/\fs.lookup f=Sm v/\Q v H1
def DV(C:so)(f:Str)(ta tv:TE):TS:=λD σ H=>tv σ H λy H1=>ta σ H1 λx H2=>∃a,x = .ref a/\∃dx fs,H2 a=Sm (.ins C dx fs)/\fs.length<1000/\D.nx σ (upd H2 a (.ins C dx (bC f y fs)))
def zp(C:so)(sp:Sp)(t:TA):TE:=λσ H Q=>t σ H λvs H1=>∀x dx,H1 x=Nn->H1 dx=Nn->dx≠x->sp (.ref x::vs) (upd (upd H1 dx (.own x)) x (.ins C dx [])) (λv H2=>v = .non/\Q (.ref x) H2) E0
section
variable{X:Cx}{o e value:Expr}{es:LX}{f m:Str}{pos pos' apos p:Pos}{ta tv:TE}{t:TA}{C:so}{x:Str}{ps:LI}{sp:Sp}{j k:Nat}
theorem bK(g:Fl X.K C f)(S:PE X e ta)(F:attributeBase e f X.env (eval e X.env)=eval e X.env:=by rfl):PE X (.Attribute e f pos) (DU C f ta):=by
 intro pins s σ H Q I h;refine EH F (bD (S pins s σ H _ I h) λu Z ⟨x,H1,J,W,a,ex,dx,fs,v,Y,l,q⟩=>?_);subst ex;obtain rfl:u=Ma a:=W;exact xh J Y g.c g.n l λu' s2 U O=>yI2 v H1 #[U,O,q]
theorem lK(g:Fl X.K C f)(Z:PE X o ta)(hv:PE X value tv)(F:swapsWith value (Sm (.Attribute o f pos')) pos.line X.env=pure false:=by rfl):PS X (.Assign [.Attribute o f pos'] value pos) (DV C f ta tv):=by
 intro pins s σ H D I h;refine plainObj_wpAny_Assign_Attribute (bD (hv pins s σ H _ I h) λu U ⟨y,H1,S,Y,q⟩=>bD (Z pins U σ H1 _ S q) λJ s2 ⟨x,H2,I2,O,a,ex,dx,fs,ea,l,q2⟩=>?_) F;subst ex;obtain rfl:J=Ma a:=O;exact yB I2 ea g.c g.n l Y λs3 W=>yI2 σ _ #[W,q2]
theorem JU(c:u3 X.prog X.w X.K X.mg X.base j x C ps sp)(O:Cm k X.A)(U:PA X (e::es) t)(hle:j+1<=k:=by decide)(hg:Gl X x:=by first | exact vGg ⋯ | rfl)(hdb:(x==("__debug__" : Str))=false:=by decide)
  (he:Mh (e::es) X.env=(false,eval e X.env)::Mh es X.env:=by rfl) (hpl:(backTo pos (Mh es X.env)).any (·.1)=false:=by rfl) :
  PE X (.Call (.Name x p) (e::es) [] pos) (zp C sp t):=by
 refine yE2 c.ex λf fd=>yB4 λF b M S=>?_;intro pins s σ H Q I h;refine N7 (nR I hg S ?_ hdb);refine W.callWith_K (h₀:=X.base) I.ok.mod.kin M.kp (bD (U pos pins s σ H _ I h) λY Z ⟨vs,H1,J,r,q⟩=>#[J.kIn,?_]) he hpl;exact CM M F (O.mono hle) b .nil D5 J r (by simpa only[sF] using q)
end
section
variable{C:so}{f m:Str}{sp:Sp}{ta tv:TE}{t:TA}{σ:St}{H:Hp}{Q:VK}
theorem qT:DU C f ta σ H Q=ta σ H λx H1=>∃a,x = .ref a/\∃dx fs v,H1 a=Sm (.ins C dx fs)/\fs.lookup f=Sm v/\Q v H1:=rfl
theorem tF{D:d0}:DV C f ta tv D σ H=tv σ H λy H1=>ta σ H1 λx H2=>∃a,x = .ref a/\∃dx fs,H2 a=Sm (.ins C dx fs)/\fs.length<1000/\D.nx σ (upd H2 a (.ins C dx (bC f y fs))):=rfl
theorem qp:zp C sp t σ H Q=t σ H λvs H1=>∀x dx,H1 x=Nn->H1 dx=Nn->dx≠x->sp (.ref x::vs) (upd (upd H1 dx (.own x)) x (.ins C dx [])) (λv H2=>v = .non/\Q (.ref x) H2) E0:=rfl
end
theorem Gx{fs:List (Str×V)}:List.lookup f ((f,v)::fs)=Sm v:=by simp[List.lookup]
theorem E_{g:Str}{fs:List (Str×V)}(h:(f==g)=false):List.lookup f ((g,v)::fs)=List.lookup f fs:=by simp[List.lookup,h]
theorem Jt:List.lookup f ([]:List (Str×V))=Nn:=rfl
theorem zU{g:Str}{x:V}{r:List (Str×V)}(h:¬ g=f):bC f v ((g,x)::r)=(g,x)::bC f v r:=by simp[bC,h]
theorem Dn:bC f v []=[(f,v)]:=rfl
theorem uu{c:Nat}:∀ {p q t u:LJ},c∉p->c∉q->p++c::t=q++c::u->p=q/\t=u
 | [],[],_,_,_,_,e=>#[rfl,(List.cons.inj e).2]
 | [],b::q,_,_,_,hq,e=>absurd ((List.cons.inj e).1 ▸ yy) hq
 | a::p,[],_,_,hp,_,e=>absurd ((List.cons.inj e).1 ▸ yy) hp
 | a::p,b::q,t,u,hp,hq,e=>by
  let#[F,O]:=List.cons.inj e;let#[J,S]:=uu (p:=p) (q:=q) (λz=>hp (yS _ z)) (λz=>hq (yS _ z)) O;exact#[by rw[F,J],S]
theorem vE{x y:Str}(h:x.cps.toList=y.cps.toList):x=y:=by
 cases x;cases y;exact congrArg _ (Array.toList_inj.mp h)
theorem gi(x y:Str):(x++y).cps.toList=x.cps.toList++y.cps.toList:=oY
theorem nn(m:Nat):NumText.AllDigits ((Nat.toDigits 10 m).map Char.toNat)/\(Nat.toDigits 10 m).map Char.toNat≠[]:=by
 constructor
 .intro c J;let#[ch,F,e]:=K3.mp J;rw[<-e];exact digit_range (Nat.isDigit_of_mem_toDigits ∅ ∅ F)
 .intro e;have h:=tDigits_len_ge 10 m;rw[Lk.mp e]at h;exact absurd h ∅
theorem vI:∀ {vs:LN} {F:LI},StrsAre vs F->∀(i:Nat) (v:KE),vs[i]?=Sm v->∃t,v = .str (F.getD i "") t
 | _,_,.nil,i,v,h=>by simp at h
 | _,_,.cons n t hr,0,v,h=>by simp at h;exact#[t,by rw[<-h];rfl]
 | _,_,.cons n t hr,i+1,v,h=>by
  simp only[zaR]at h;let#[t',e]:=vI hr i v h;exact#[t',by rw[e];rfl]
theorem wH(prog:Lw)(w:Lu)(x:Str)(t:Tok):(strKind prog w).is x (.str x t)=true:=by
 show Nh x (.str x t)=true;simp[Nh]
def DP(K:K_)(SO:so->LI->HO):LM->Hp->VK->Prop:=λxs H Q=>∃p,∃ns:LI,xs=[.ref p]/\ud K H p (ns.map V.str)/\ns.length<=60/\∀(l:so) (ds:LI),H l=Nn->ds.Nodup->(∀x,x∈ds ↔ x∈ns)->ds.length<=ns.length->Q (.ref l) (upd H l (SO l ds))
def pz(SO:so->LI->HO):LM->Hp->VK->Prop:=λxs H Q=>∃p,∃ds:LI,xs=[.ref p]/\H p=Sm (SO p ds)/\ds.length<=60/\∀(l:so) (ts:LI),H l=Nn->ts.Perm ds->sortedS ts=true->Q (.ref l) (upd H l (.lst (ts.map V.str)))
noncomputable def gU(e:Int×KE):Str:=match e.2 with
 | .str d _=>d
 | _ => ""
def KB(w:Lu)(h:Lv)(a:so)(ds:LI):Prop:=∃o es ep t,h.get? a=Sm o/\o.ExactSet/\o.data = .set es ep t/\es.size<scanBound/\t.fits es.size=true/\cU (db w) t/\(∀e∈es.toList,∃tk,e.2 = .str (gU e) tk)/\es.toList.map gU=ds
noncomputable def lD(w:Lu)(a:so)(ds:LI):HO:=.ext λh=>KB w h a ds
theorem Ht{prog:Lw}{w:Lu}{h:Lv}{a:so}{S:Str->Bool}{n:Nat}(x:GX (strKind prog w) (cU (db w)) h a S n):∃ds,KB w h a ds/\ds.Nodup/\(∀k,k∈ds ↔ S k=true)/\ds.length=n:=by
 let#[o,es,ep,t,h1,h2,U,h4,h5,h6,Z,W,Y,O]:=EA (Sh:=λe=>∃F,e.2 = .str (gU e) F) gU (λe k hk=>by
  let#[F,J]:=Om hk;have:gU e=k:=by unfold gU;rw[J]
  rw[this];exact⟨⟨F,J⟩,rfl⟩) (λe ⟨F,J⟩=>by rw[J];exact wH _ _ _ _) x
 exact#[_,yI4 o es ep t #[h1,h2,U,h4,h5,h6,Z,rfl],W,Y,O]
section
variable{X:Cx}
theorem zl{m:Nat}(hr:Cm m X.A){K:K_}(hK:X.K=K):B3 X (.type "set") (DP K (lD X.w)):=by
 subst hK;intro pins s σ H xs us Q I r h;revert h;refine yF2 λp ns=>yB4 ?_;rintro rfl hq ab q;let#[u,rfl,ru]:=dv r;cases ru;refine yE1 (I.list hq) λU=>yB3 λrv pl hz=>?_;have F:U.length=ns.length:=by rw[<-rv.length,ze]
 refine p6 (knd:=strKind X.prog X.w) (λi=>ns.getD i "") hr.hd pl.isList (λi v hv=>by
  let#[t,rfl]:=vI (by simpa using lc rv) i v (by simpa using hv);exact⟨wH _ _ _ _,rfl⟩) (by simp only[xU];unfold scanBound;lia) λh' tk ⟨m,hm,hS⟩ hk=>?_
 refine yE1 (Ht hS) λds=>yB4 λhg S J O=>?_;refine yE4 (id hg) λo es ep t=>yB2 λZ Y=>?_;refine yI2 (.ref s.heap.objs.size) _ #[I.laid (λb o e=>hk b o (yo e) e) (zu _) (show BD X.prog X.w _ h' _ (lD X.w s.heap.objs.size ds) from #[hg,#[o,Z],λh1 h2 g k=>?_]),rfl,q _ ds (I.hok.fresh (zu _)) S (λx=>?_) ?_]
 .revert g;refine yF4 λo es ep t=>yB2 λZ Bv=>?_;exact yI4 o es ep t #[k o Z,Bv]
 .rw[J,xU,F];exact vt ("" : Str) x
 .rw[O,<-F];simpa using hm
end
noncomputable def lu(v:KE):Str:=match v with
 | .str d _=>d
 | _ => ""
theorem vm:∀(l:LN),(∀v∈l,∃F,v = .str (lu v) F)->StrsAre l (l.map lu)
 | [],_=>.nil
 | v::l,h=>by
  let#[F,e]:=h v yy;have r:=vm l λu J=>h u (yS _ J);rw[yX];generalize lu v=d at e |-;subst e;exact .cons d F r
section
variable{prog:Lw}{w:Lu}{A:Mc}{E:LH}{s:F_}
theorem xr{a:so}{o:Obj}{es:Array (Int×KE)}{ep:Nat}{t:Me}{Q:LH}(hh:A.handled=Nn)(ho:s.heap.get? a=Sm o)(hx:o.ExactSet)(hd:o.data = .set es ep t)(hf:t.fits es.size=true)(ac:es.size<64)(hg:cU (db w) t)
  (hint:∀e∈es.toList,∃S,e.2 = .str (gU e) S)
  (hQ:∀h' d' S q out c F,(∀b o,s.heap.get? b=Sm o->h'.get? b=Sm o)->s.heap.objs.size<=q->h'.get? q=Sm (seqObj "list" out c)->StrsAre out.toList F->F.Perm (es.toList.map gU)->sortedS F=true->Q (.ref q) {s with heap:=h',drawn:=d',toks:=S}) :
  G_ (model prog w) A (call (.builtin "sorted") [.ref a]) Q E s:=by
 refine zbu kind_sorted plain_sorted entry_sorted (args_sorted1 _) ?_;unfold Mp.«sorted»;refine KL (m:=checkCount "sorted" 1 1 _) (KP ?_);refine KL (jZ hh ho hx hd hf (by unfold scanBound;lia) hg λh' d' S acc hk W U=>?_);have ab:acc.length=es.size:=by rw[U.length_eq];simp
 have Y:StrsAre acc (acc.map lu):=vm acc λv hv=>by
  let#[e,he,rfl]:=K3.mp (U.mem_iff.mp hv);exact hint e he
 have J:(acc.map lu).Perm (es.toList.map gU):=by
  have:=U.map lu;rw[oq]at this;exact this
 refine KL (wpAny_newList ?_ (by rw[ab,M2];lia));have O:(h'.push (seqObj "list" acc.toArray 0)).get? h'.objs.size=Sm (seqObj "list" acc.toArray 0):=xb _ rfl;show G_ _ _ _ _ _ {s with heap:=h'.push (seqObj "list" acc.toArray 0),drawn:=d',toks:=S};refine KL (Ms (My slot_list_sort #[_,O,rfl] entry_list_sort (list_sort_treeK strKind_oneLt O Y.keysOf (λv₁ v₂ Bv e=>keyKind_strs (by rw[<-e];exact Y)) () λZ b1 b2=>#[_,rfl,?_]) (args_list_sort _)));refine yE1 (sorted_out_str Y b1 b2) λF=>yB3 λa1 a2 a3=>?_;generalize (Ml Z).map (·.2)=out at a1 |-;let#[c,hc]:=sortedHeap_at (out:=out) O
 refine KP #[_,rfl,hQ _ d' S h'.objs.size out c F (λb o e=>?_) (xE W) hc a1 (a2.trans J) a3];have hb:=yo (hk b o e);rw[sortedHeap_old (xg hb) (by rw[tV];exact Jp hb)];exact yK _ (hk b o e)
end
section
variable{X:Cx}
theorem qv{m:Nat}(hr:Cm m X.A):B3 X (.builtin "sorted") (pz (lD X.w)):=by
 intro pins s σ H xs us Q I r h;revert h;refine yF2 λp ds=>yB4 ?_;rintro rfl e S q;let#[u,rfl,ru]:=dv r;cases ru;refine yE4 ((show BD X.prog X.w H s.heap p (lD X.w p ds) from I.hok p _ e).1) λo es ep t=>yB8 λho hx hd W hf hg hint O=>?_;have hz:es.size<=60:=by rw[<-O,ze,ui]at S;exact S
 have hs:L_=16777216:=M2;refine xr hr.hd ho hx hd hf () hg hint λh' d' Z U out c J hk Y hc a1 a2 a3=>?_;have hl:J.length<=60:=by rw[a2.length_eq,ze,ui];exact hz
 have F:=I.laid (t':=Z) (a:=U) (o:=.lst (J.map V.str)) hk Y (show BD X.prog X.w _ h' _ (.lst (J.map V.str)) from #[by rw[ze];lia,yI2 out.toList c #[qj a1,by simpa using hc]]);refine yI2 (.ref U) _ #[?_,rfl,q _ J (I.hok.fresh Y) (by rw[<-O];exact a2) a3];exact#[F.ok,F.os,F.bare,F.base,F.loc,F.cell,F.free,F.freeC,F.pin,F.hok,F.len]
theorem vj{m:Nat}(K:K_)(w:Lu)(F:Cm m X.A)(J:X.K=K:=by rfl)(hw:X.w=w:=by rfl):B3 X (.type "set") (DP K (lD w)):=hw ▸ zl F J
theorem oA{m:Nat}(w:Lu)(F:Cm m X.A)(J:X.w=w:=by rfl):B3 X (.builtin "sorted") (pz (lD w)):=J ▸ qv F
end
end L2
namespace L2
open PySem PySem.Spec PyProof.Rows PySem.SeqAt PySem.Builtin PySem.Builtin.Str PySem.StrLaws
def sP:V->LM->Hp->VK->Prop:=λx xs H Q=>∃s y,x = .str s/\xs=[.str y]/\Q (.bl (decide (0+y.length<=s.length)&&subAt s y 0)) H
theorem lO{H:Hp}{Q:VK}(s y:Str):sP (.str s) [.str y] H Q=Q (.bl (decide (0+y.length<=s.length)&&subAt s y 0)) H:=
 propext #[λ⟨_,_,F,J,q⟩=>by cases F;cases J;exact q,λq=>yI2 s y #[rfl,rfl,q]]
theorem qF{X:Cx}:Hr X "str.startswith" sP:=by
 intro pins s σ H x xs v S Q I O r h;revert h;refine yF2 λz y=>yB3 ?_;rintro rfl rfl q;let#[t,rfl]:=O;let#[u,rfl,J]:=dv r;let#[u,rfl]:=J;exact call_gives F.slot_str_startswith (typeIs_str _ _ _) F.entry_str_startswith (F.args_str_startswith_2 _ _) (gives_str_startswith z y t u) (yI2 (.bl _) H #[I,rfl,q])
theorem ee{X:Cx}(K:K_)(F:X.K=K:=by rfl):Ge X (binaryOp .Add) (qI K):=F ▸ E3
theorem rS{K:K_}{H:Hp}{Q:VK}(a b:so):qI K (.ref a) (.ref b) H Q=∃xs ys,su K H a xs/\su K H b ys/\xs≠[]/\xs.length+ys.length<=L_/\(ys=[]->Q (.ref a) H)/\(ys≠[]->∀p,H p=Nn->Q (.ref p) (upd H p (.tup (xs++ys)))):=
 propext #[λ⟨_,_,xs,ys,F,J,q⟩=>by cases F;cases J;exact yI2 xs ys q,λ⟨xs,ys,q⟩=>yI4 a b xs ys #[rfl,rfl,q]]
end L2
namespace L2
open PySem PySem.Spec PyProof.Rows
abbrev kr:=List LQ
noncomputable def MO(P:Lw)(w:Lu):HeapKind P w (kr):=D6 (fq P w) (show 0<=7 from ∅)
noncomputable def J3(P:Lw)(w:Lu)(a:so)(xs:List (kr×so×KE)):HO:=
 .ext λh=>∃o es ep,h.get? a=Sm o/\o.ExactDict/\o.data = .dict es ep/\es.toList=xs.map (entryOfKey (MO P w))/\(xs.map (·.1)).Nodup
def NW(H:Hp)(k:kr)(b:so):Prop:=H b=Sm (.tup (k.map jV))
def MN(H:Hp)(p:kr×V)(q:kr×so×KE):Prop:=q.1=p.1/\NW H p.1 q.2.1/\RelV p.2 q.2.2
def DO(P:Lw)(w:Lu)(H:Hp)(a:so)(kvs:List (kr×V)):Prop:=
 ∃xs,H a=Sm (J3 P w a xs)/\(a==sysModules)=false/\xs.length<=L_/\LG (MN H) kvs xs
end L2
namespace L2
open PySem PySem.Spec PyProof PyProof.Rows
section
variable{K:K_}{a b:so}{xs ys:LM}{g:TG}{te:TE}{nT:Nat}{σ:St}{D:so}{Q:VK}{H:Hp}
theorem xw{tc:TT}(F:Nat->LM->Hp->Prop)(U:F 0 [] H)(hl:∀i zs H,i<=xs.length->F i zs H->ud K H a xs)
  (S:∀i zs H x t,xs[i]?=Sm x->i<xs.length->F i zs H->H t=Nn->g (.ref t) (σ++List.replicate nT Nn) (upd H t (.tup [.int i,x])) (nG xs.length i F D zs tc te))
  (hd:∀zs H,F xs.length zs H->Q (.ref D) H):gG (Bf K a) g tc te nT σ D Q H:=by
 refine mj xs.length F U (λi zs H hi p=>yI2 xs (xs[i]) #[hl i zs H (xE hi) p,by simp[hi]]) (λzs H p=>#[xs,hl _ zs H (zu _) p,zu _]) (λi zs H v H' hi p O=>?_) hd;revert O;refine yF2 λt x=>yB4 ?_;rintro W rfl rfl J;exact S i zs H x t (J xs (hl i zs H (xE hi) p)) hi p W
end
theorem EK{α:Type}{xs:List α}{v:α}(h:xs[xs.length-1]?=Sm v):cM xs (-1)=Sm v:=by
 have hl:0<xs.length:=by
  refine zbt λF=>?_;rw[Js ()]at h;cases h
 unfold cM ku;rw[KQ ∅,KZ ()];show xs[(-1+(xs.length:Int)).toNat]?=Sm v;rw[show (-1+(xs.length:Int)).toNat=xs.length-1 from ()];exact h
section
variable{prog:Lw}{w:Lu}{A:Mc}{E:LH}{s:F_}
variable{z TI TO i1 i2 t1 t2:so}{xs ys:LY}{k1 k2:Nat}{a b:KE}
noncomputable abbrev KH (h:Lv) (t1:so):Lv:=h.push {cls:=.type "list_iterator",data:=.fields #v[.ref t1,.int 0 0]}
noncomputable abbrev QL (h:Lv) (t1 t2:so):Lv:=(KH h t1).push {cls:=.type "tuple_iterator",data:=.fields #v[.ref t2,.int 0 0]}
end
section
variable{X:Cx}
def EZ:R2:=λx y H Q=>∃a b kvs k,y = .ref a/\x = .ref b/\H a=Sm (.dT kvs)/\H b=Sm (.tup (k.map kV))/\Q (.bl (!(bU kvs k).isSome)) H
theorem k_{n:Nat}(F:Cm n X.A):Ge X (Mq .NotIn) EZ:=by
 intro pins s σ H x y v u Q I U S h;revert h;refine yF4 λa b kvs k=>yB5 ?_;rintro rfl rfl e J q;cases S;exact Fc (by have:=F.un;lia) I (Jg.t e J) U λs' O=>yI2 (.bl _) H #[O,rfl,q]
def Il:nW:=λo i v H Q=>∃a b kvs k,o = .ref a/\i = .ref b/\H a=Sm (.dT kvs)/\H b=Sm (.tup (k.map kV))/\kvs.length<L_/\Q (upd H a (.dT (dk kvs k v)))
theorem Al{n:Nat}(F:Cm n X.A):HR X Il:=by
 intro pins s σ H o i v Z Y u Q I W J S h;revert h;refine yF4 λa b kvs k=>yB6 ?_;rintro rfl rfl e O hl q;cases W;exact p7 (by have:=F.un;lia) I (Hv.t e O hl) J S λs' U=>#[_,U,q]
end
open PySem.SeqAt
end L2
namespace L2
open PySem PySem.Spec PyProof.Rows
abbrev jK:=Sum Str (List LQ)
def xa(prog:Lw)(w:Lu)(h:Lv):jK->KE->Prop
 | .inl u,v=>∃t,v=M1 u t
 | .inr l,v=>Ci (fq prog w) h l v
theorem JR(i j:Str):decide (i=j)=decide ((Sum.inl i:jK)=Sum.inl j):=by
 by_cases z:i=j
 .subst z;simp
 .have F:¬ ((Sum.inl i:jK)=Sum.inl j):=λq=>z (Sum.inl.inj q);rw[decide_eq_false F,decide_eq_false z]
theorem J6(l F:List LQ):decide (l=F)=decide ((Sum.inr l:jK)=Sum.inr F):=by
 by_cases z:l=F
 .subst z;simp
 .have J:¬ ((Sum.inr l:jK)=Sum.inr F):=λq=>z (Sum.inr.inj q);rw[decide_eq_false J,decide_eq_false z]
theorem J9(i:Str)(l:List LQ):decide ((Sum.inl i:jK)=Sum.inr l)=false:=decide_eq_false (λq=>nomatch q)
theorem JV(i:Str)(l:List LQ):decide ((Sum.inr l:jK)=Sum.inl i)=false:=decide_eq_false (λq=>nomatch q)
theorem Kb{prog:Lw}{w:Lu}{A:Mc}{E:LH}{s:F_}{u v:KE}{Q:Bool->F_->Prop}(O:A.units+1<cLine):∀(x y:jK),xa prog w s.heap x u->xa prog w s.heap y v->Q (decide (x=y)) s->
  G_ (model prog w) A (PySem.eqBool u v) Q E s
 | .inl i,.inl j,⟨t,e1⟩,⟨t',e2⟩,h=>by
  subst e1 e2;rw[<-JR]at h;exact wpAny_eqBool_str h
 | .inl i,.inr l,⟨t,e1⟩,hy,h=>by
  subst e1;refine yE2 (Ci.tup (K:=fq prog w) hy) λb F=>yB2 ?_;rintro rfl J;rw[J9]at h;exact SeqAt.EqAt.str_tuple i t J (Nat.lt_of_succ_lt O) prog w E Q h
 | .inr l,.inl j,hx,⟨t,e1⟩,h=>by
  subst e1;refine yE2 (Ci.tup (K:=fq prog w) hx) λb F=>yB2 ?_;rintro rfl J;rw[JV]at h;exact SeqAt.EqAt.tuple_str j t J (Nat.lt_of_succ_lt O) prog w E Q h
 | .inr l,.inr l',hx,hy,h=>by
  rw[<-J6]at h;exact om (K:=fq prog w) (v5 O) hx hy h
noncomputable def Mb(prog:Lw)(w:Lu):IK prog w jK where
 is:=xa prog w
 hash:=λk=>match k with
  | .inl u=>hashStr w u
  | .inr l=>uX (fq prog w) l
 draws:=λk=>match k with
  | .inl _=>1
  | .inr l=>jp (fq prog w) l+1
 deep:=1
 inj:=λ{h v x y} a b=>by
  cases x with
  | inl i=>
   let#[t,rfl]:=(show ∃t,v=M1 i t from a)
   cases y with
   | inl j=>let#[t',e]:=(show ∃t',M1 i t=M1 j t' from b);injection e with e1 _;rw[e1]
   | inr l=>refine yE2 (Ci.tup (show Ci (fq prog w) h l _ from b)) λa _=>yB2 λe _=>?_;cases e
  | inr l=>
   cases y with
   | inl j=>
    let#[t,rfl]:=(show ∃t,v=M1 j t from b)
    refine yE2 (Ci.tup (show Ci (fq prog w) h l _ from a)) λa _=>yB2 λe _=>?_;cases e
   | inr l'=>rw[(tupK (fq prog w)).inj (show Ci (fq prog w) h l v from a) (show Ci (fq prog w) h l' v from b)]
 keeps:=λ{h h' k v d o es ep} a ho hd hs=>by
  cases k with
  | inl i=>exact a
  | inr l=>exact(tupK (fq prog w)).keeps (show Ci (fq prog w) h l v from a) ho hd hs
 pyHash:=λ{A E s k v Q} hu hk h=>by
  cases k with
  | inl i=>
   let#[t,rfl]:=(show ∃t,v=M1 i t from hk)
   exact wpAny_pyHash_str h
  | inr l=>exact kD (K:=fq prog w) (v5 hu) hk h
 eqBool:=λ{A E s x y u v Q} hu hx hy h=>Kb hu x y hx hy h
 quiet:=λ{A E s k v n Q} hk h=>by
  cases k with
  | inl i=>
   let#[t,rfl]:=(show ∃t,v=M1 i t from hk)
   rw[eqIsQuiet_byValue _ rfl];exact KP h
  | inr l=>exact jW (K:=fq prog w) hk h
abbrev oz:=Str×List LQ
noncomputable def sk(k:oz):List jK:=[.inl k.1,.inr k.2]
noncomputable def MS(P:Lw)(w:Lu):HeapKind P w (List jK):=D6 (Mb P w) (show 1<=7 from ∅)
noncomputable def JW(P:Lw)(w:Lu)(a:so)(xs:List (List jK×so×KE)):HO:=
 .ext λh=>∃o es ep,h.get? a=Sm o/\o.ExactDict/\o.data = .dict es ep/\es.toList=xs.map (entryOfKey (MS P w))/\(xs.map (·.1)).Nodup
def Lf(H:Hp)(k:oz)(b:so):Prop:=∃t,H b=Sm (.tup [.str k.1,.ref t])/\H t=Sm (.tup (k.2.map jV))
def Lq(H:Hp)(p:oz×V)(q:List jK×so×KE):Prop:=q.1=sk p.1/\Lf H p.1 q.2.1/\RelV p.2 q.2.2
def DS(P:Lw)(w:Lu)(H:Hp)(a:so)(kvs:List (oz×V)):Prop:=
 ∃xs,H a=Sm (JW P w a xs)/\(a==sysModules)=false/\xs.length<=L_/\LG (Lq H) kvs xs
section
variable{prog:Lw}{w:Lu}{A:Mc}{E:LH}{s:F_}
theorem pJ{it t:so}{items:LY}(F:t≠it):∀(n i:Nat) (s:F_) (Q:LN->F_->Prop),s.heap.IsListIter it t i->s.heap.IsList t items->i+n<=items.size->
  (∀h',h'.IsListIter it t (i+n)->MH it s.heap h'->Q ((items.toList.drop i).take n) {s with heap:=h'})->G_ (model prog w) A (draw (.ref it) n) Q E s
 | 0,i,s,Q,hit,_,_,hQ=>by
  show G_ _ _ (pure []) Q E s;exact KP (by simpa using hQ s.heap hit (Ox ..))
 | n+1,i,s,Q,hit,ht,hle,hQ=>by
  have U:i<items.size:=()
  show G_ _ _ (pyNext (.ref it) >>= _) Q E s;refine KL (wpAny_pyNext_list_item hit ht (x:=items[i]) (by simp[U]) λZ S J=>?_);refine KL (Ms (pJ F n (i+1) _ _ S (ht.extBut J.extBut F) () λY O W=>KP ?_));have hd:items.toList.drop i=items[i]::items.toList.drop (i+1):=by simp[za4,U]
  have:=hQ Y (by rw[show i+(n+1)=i+1+n from ()];exact O) (J.trans W);rw[hd,JP]at this;exact this
theorem mG{t:so}{items:LY}{Q:LN->F_->Prop}(hh:A.handled=Nn)(W:s.heap.IsList t items)
  (hQ:∀h',Nw s.heap.objs.size s.heap h'->Q items.toList {s with heap:=h'}):G_ (model prog w) A (unpackItems (.ref t) items.size Nn) Q E s:=by
 refine yE1 (id W) λo=>yB3 λho hc hd=>?_;have U:t≠s.heap.objs.size:=xg (yo ho);unfold unpackItems;refine KL ?_
 .unfold notIterableAtAll;refine KL (Nu (show s.TypeIs (.ref t) "list" from #[o,ho,hc]) F.slot_list_iter.lookup ?_);refine KP ?_;simp only[td,if_false];refine KL (Ms (wpAny_pyIter_list W ?_));refine KL (Ms (pJ U items.size 0 _ _ #[_,xb _ rfl,rfl,rfl] (Lv.IsList.push W _) () λh₁ S O=>?_));have J:List.take items.size (List.drop 0 items.toList)=items.toList:=by
   rw[List.drop_zero];exact HS '~'
  rw[J];rw[KQ '~'];have Y:h₁.IsList t items:=(Lv.IsList.push W _).extBut O.extBut U;refine KL (Ms (wpAny_pyNext_list_end hh S Y '~' λh₂ Z=>?_));simp only[Option.isSome_none,td,if_false];refine KP (hQ h₂ λb o hb e=>Z b o hb (O.extBut b o hb (yK _ e)))
theorem lM{env:Env}{F:LX}{x1}{pos:Pos}{t:so}{items:LY}{Q:Unit->F_->Prop}(hh:A.handled=Nn)(O:s.heap.IsList t items)
  (S:(assignEach F env).length=items.size) (J:(assignEach F env).findIdx? (·.1)=Nn)
  (h:∀h',Nw s.heap.objs.size s.heap h'->G_ (model prog w) A (assignInOrder ((assignEach F env).map (·.2)) items.toList) Q E {s with heap:=h'}) :
  G_ (model prog w) A (assign (.Tuple F x1 pos) env (.ref t)) Q E s:=by
 rw[assign_Tuple];refine KL (wpAny_standAt ?_);unfold unpack;rw[S,J];exact KL (Ms (mG hh O h))
end
section
variable{X:Cx}
def Jy(K:K_)(n:Nat)(t:gL):TG:=λv σ H Q=>∃a xs,v = .ref a/\ud K H a xs/\xs.length=n/\t xs σ H Q
theorem EU(K:K_)(n:Nat)(t:gL)(v:V){σ:St}{H:Hp}{G:St->Hp->Prop}:Jy K n t v σ H G=∃a xs,v = .ref a/\ud K H a xs/\xs.length=n/\t xs σ H G:=rfl
theorem E7(K:K_){es:LX}{k n:Nat}{t:gL}{pos:Pos}(h:JD X es t)(O:(assignEach es X.env).length=n:=by rfl)(hst:(assignEach es X.env).findIdx? (·.1)=Nn:=by rfl)(hK:X.K=K:=by rfl)(hc:X.calm=true:=by rfl):PG X (.Tuple es k pos) (Jy K n t):=by
 subst hK;intro pins s σ H v u Q I r F;revert F;refine yF2 λa xs=>yB4 λY S hl F=>?_;subst Y;cases r;refine yE1 (I.list S) λZ=>yB3 λJ pl hz=>?_;refine lM (I.ok.hd hc) pl.isList (by simp[O,<-hl,J.length]) hst λh' hx=>?_;have U:Inv X pins σ H {s with heap:=h'}:=I.kept (t':=s.toks) λb o e=>hx b o (xg (yo e)) e;exact h pins _ σ H xs _ Q U (by simpa using J) F
end
noncomputable def bi(n s:Nat):Bool:=n.testBit s
theorem jz(n s:Nat):bi n s=decide (n/2^s%2=1):=Nat.testBit_eq_decide_div_mod_eq
theorem FP(n s:Nat):n &&& 2^s=(if bi n s=true then 2^s else 0):=by
 unfold bi;refine Nat.eq_of_testBit_eq λi=>?_;rw[Nat.testBit_and,za5];by_cases c:s=i
 .subst c;cases h:n.testBit s<;>simp
 .rw[decide_eq_false c,Bool.and_false];split
  .rw[za5,decide_eq_false c]
  .rw[Nat.zero_testBit]
noncomputable def aX(n s:Nat):Nat:=if bi n s=true then n-2^s else n
noncomputable def jv(n s:Nat):Nat:=if bi n s=true then n else n+2^s
theorem fY{n s:Nat}(h:bi n s=true):2^s<=n:=Nat.ge_two_pow_of_testBit h
theorem sx(n s:Nat):n ||| 2^s=jv n s:=by
 unfold jv;by_cases c:bi n s=true
 .rw[KZ c];refine Nat.eq_of_testBit_eq λi=>?_;rw[Nat.testBit_or,za5];by_cases d:s=i
  .subst d;have:n.testBit s=true:=c;rw[this];rfl
  .rw[decide_eq_false d,Bool.or_false]
 .rw[KQ c];have J:n/2^s%2=0:=by
   rw[jz,decide_eq_true_eq]at c;lia
  have O:n%2^(s+1)=n%2^s:=by rw[Nat.mod_pow_succ,J];lia
  have F:n%2^(s+1)<2^s:=by rw[O];exact Nat.mod_lt _ (Nat.two_pow_pos s)
  have e:=Nat.div_add_mod n (2^(s+1));generalize n%2^(s+1)=b at F e;generalize n/2^(s+1)=a at e;have p2:2^(s+1)=2^s+2^s:=by rw[Nat.pow_succ];lia
  have h1:=Nat.two_pow_add_eq_or_of_lt (i:=s+1) (b:=b) () a;have h2:=Nat.two_pow_add_eq_or_of_lt (i:=s+1) (b:=b+2^s) () a;rw[<-e,h1,Nat.or_assoc,Nat.or_two_pow_eq_add_of_lt F,<-h2];lia
theorem iE(x:Int):MR (MR x)=x:=by unfold MR;lia
theorem oR(n:Nat):decide (0<=MR (n:Int))=false:=decide_eq_false (by unfold MR;lia)
theorem u6(n s:Nat):N_ (n:Int) (MR ((2^s:Nat):Int))=(aX n s:Int):=by
 unfold N_;rw[oR,decide_eq_true (Int.natCast_nonneg n)];show (n:Int)-(((n:Int).toNat &&& (MR (MR ((2^s:Nat):Int))).toNat:Nat):Int)=_;rw[iE,mi,mi,FP];unfold aX;split
 .rename_i h;have:=fY h;lia
 .simp
theorem JJ(n s:Nat):N6 (n:Int) ((2^s:Nat):Int)=(jv n s:Int):=by
 unfold N6 N_;rw[oR,oR];show MR (MR (((MR (MR (n:Int))).toNat ||| (MR (MR ((2^s:Nat):Int))).toNat:Nat):Int))=_;rw[iE,iE,iE,mi,mi,sx]
theorem Ij(n s:Nat):N_ ((n:Int)/2^s) 1=if bi n s=true then 1 else 0:=by
 rw[PyProof.Rows.bitAnd_m1,jz];have e:(n:Int)/2^s%2=((n/2^s%2:Nat):Int):=by push_cast;rfl
 rw[e];split
 .rename_i h;rw[of_decide_eq_true h];rfl
 .rename_i h;rw[decide_eq_true_eq]at h;have:n/2^s%2=0:=()
  rw[this];rfl
end L2
namespace L2
open PySem PySem.Spec PyProof PyProof.Rows
def G7(h:Lv)(d:so)(es:Array Nf)(ep:Nat):Prop:=∃o,h.get? d=Sm o/\o.ExactDict/\o.data = .dict es ep
section
variable{prog:Lw}{w:Lu}{A:Mc}{E:LH}{s:F_}{d:so}{es:Array Nf}{ep:Nat}
theorem G7.ty(x:G7 s.heap d es ep):s.TypeIs (.ref d) "dict" := let ⟨o,eo,ex,_⟩:=x;#[o,eo,ex.1]
theorem G7.by{h h':Lv}(x:G7 h d es ep)(k:∀o,h.get? d=Sm o->h'.get? d=Sm o):G7 h' d es ep:=let ⟨o,eo,r⟩:=x;#[o,k o eo,r]
theorem BH{Q:LH}(nd:(d==sysModules)=false)(x:G7 s.heap d es ep)
  (q:Q (.ref s.heap.objs.size) {s with heap:=s.heap.push {cls:=.type "dict_keyiterator",data:=.fields #v[.ref d,.int 0 0,.int es.size 0,.int ep 0]}}):G_ (model prog w) A (pyIter (.ref d)) Q E s:=by
 refine yE1 (id x) λo=>yB3 λO ex J=>?_;have ty:=x.ty;refine wpAny_pyIter_slot ty F.slot_dict_iter (My F.slot_dict_iter ty F.entry_dict_iter ?_ (F.args_dict_iter_1 _));unfold Mp.«dict.__iter__» Mp.Dict.dictSlotNone;refine KL (KL (wpAny_notOrdered_dict ty ?_));show G_ _ _ (pure (Ma d)) _ _ s;refine KP ?_;show G_ _ _ (Mp.Dict.showsAll d >>= _) _ _ s;unfold Mp.Dict.showsAll;rw[KQ (by rw[nd];decide)];refine KL (KP (KL (wpAny_dictEntries O J (KL (wpAny_dictEpoch O J ?_)))));refine KL (MA (KP #[_,rfl,yI2 ("dict_keyiterator") _ #[#[_,xb _ rfl,rfl],F.slot_dict_keyiterator_next.lookup,?_]]));simpa [rawInt] using q
theorem CT{it:so}{i:Nat}{Q:LO->F_->Prop}(Y:s.heap.IsKeyIter it d i es.size ep)(x:G7 s.heap d es ep)(hi:i<es.size)
  (q:∀h',h'.IsKeyIter it d (i+1) es.size ep->MH it s.heap h'->Q (Sm es[i].key) {s with heap:=h'}):G_ (model prog w) A (pyNext (.ref it)) Q E s:=by
 refine yE1 (id Y) λu=>yB3 λS uc J=>?_;refine yE1 (id x) λo=>yB3 λW ex U=>?_;have ty:=Y.typeIs;unfold pyNext;refine KL (Nm (M4 (name:=Str.ofString "__next__") ty zbi (My zbi ty F.entry_dict_keyiterator_next ?_ (F.args_dict_keyiterator_next_1 _))));refine KL (KP (KL (KL ?_)));refine KL (Oi ty (KP (KL (NU S J ?_))));have Z:OG "dict_keyiterator" = false:=∅;simp only[Z,td,if_false];show G_ _ _ (if (Ma d==Mu)=true then _ else _) _ _ s;rw[KQ (show ¬ (Ma d==Mu)=true from λz=>xO z)];refine KL (KP (KL (wpAny_dictEntries W U ?_)));rw[KQ '~'];refine KL (KP (KL (wpAny_dictEpoch W U ?_)));rw[KQ '~'];refine KP ?_;simp only[show ¬ ((i:Int)<0) from (),if_false,mi,la hi];refine KL (KL (Oi ty (KP (KL (wpAny_isOneOf_keyiter ty ?_)))));show G_ _ _ (setField (.ref it) 1 (rawInt ((i:Int)+1)) >>= _) _ _ s;refine KL (Nc S J '~' ?_);have O:(s.heap.update it (NV (·.setIfInBounds 1 (rawInt ((i:Int)+1))))).IsKeyIter it d (i+1) es.size ep:=
  #[_,Iu _ S (zaQ (Jr J _)),(za3 ..).trans uc,by rw[Jr J];simp[rawInt]]
 generalize hz:s.heap.update it (NV (·.setIfInBounds 1 (rawInt ((i:Int)+1))))=h2 at O |-;refine KL (Ms (KL (wpAny_isOneOf_keyiter (s:={s with heap:=h2}) O.typeIs ?_)))
 show G_ _ _ (pure es[i].key) _ _ _;exact KP (KP #[_,rfl,KP (q h2 O (hz ▸ ix ..))])
theorem EJ{it:so}{i:Nat}{Q:LO->F_->Prop}(hh:A.handled=Nn)(W:s.heap.IsKeyIter it d i es.size ep)(x:G7 s.heap d es ep)(hi:es.size<=i)
  (q:∀h',Nw it s.heap h'->Q Nn {s with heap:=h'}):G_ (model prog w) A (pyNext (.ref it)) Q E s:=by
 refine yE1 (id W) λu=>yB3 λU Z J=>?_;refine yE1 (id x) λo=>yB3 λS ex O=>?_;have ty:=W.typeIs;unfold pyNext;refine KL (Nm (M4 (name:=Str.ofString "__next__") ty zbi (My zbi ty F.entry_dict_keyiterator_next ?_ (F.args_dict_keyiterator_next_1 _))));refine KL (KP (KL (KL ?_)));refine KL (Oi ty (KP (KL (NU U J ?_))));have Y:OG "dict_keyiterator" = false:=∅;simp only[Y,td,if_false];show G_ _ _ (if (Ma d==Mu)=true then _ else _) _ _ s;rw[KQ (show ¬ (Ma d==Mu)=true from λz=>xO z)];refine KL (KP (KL (wpAny_dictEntries S O ?_)));rw[KQ '~'];refine KL (KP (KL (wpAny_dictEpoch S O ?_)));rw[KQ '~'];refine KP ?_;simp only[show ¬ ((i:Int)<0) from (),if_false,mi,zbd hi];refine KL (KL (Oi ty (KP ?_)));show G_ _ _ (setField (.ref it) 0 .none >>= _) _ _ s;refine KL (Nc U J '~' ?_);show G_ _ _ (newExc (.type "StopIteration") [] >>= _) _ _ _;simp only[newExc,newTuple];refine KL (KL (MA (KL (m:=firstArgMember _ _) (N1 (a:=Mu) (by first | rfl | (simp only[firstArgMember];rfl)) ?_)) (by size_fits)));refine MA ?_ (by size_fits);simp only[raiseNew];refine KL (wpAny_handled ?_);rw[show A.in1.handled=Nn from hh];refine KL (KP (wpAny_throw ?_));refine KL (NE (b:=true) (T := "StopIteration") #[_,xb _ rfl,rfl] Of ?_);exact KP (q _ (((ix ..).extBut.push _).push _))
theorem Be(hh:A.handled=Nn)(I:so)(ne:d≠I):Walks prog w A I [I,d] [I] es.size (λi v=>∃e,es[i]?=Sm e/\v=e.key) (λi h=>h.IsKeyIter I d i es.size ep/\G7 h d es ep) where
 sub:=λb F=>by simp at F;simp[F]
 frame:=λi h h' st k=>#[let ⟨o,e,r⟩:=st.1;#[o,k I '~' o e,r],st.2.by λo e=>k d '~' o e]
 item:=λi s Q E hi st q=>CT st.1 st.2 hi λh' S J=>q _ h' s.toks #[_,la hi,rfl] #[S,st.2.by λo e=>J.extBut d o ne e] λb o F e=>J.extBut b o (λz=>F (by simp[z])) e
 done:=λs Q E st q=>EJ hh st.1 st.2 (zu _) λh' O=>q h' s.toks λb o F e=>O b o (λz=>F (by simp[z])) e
 self:=λi s Q E st q=>wpAny_pyIter_keyiter st.1 q
theorem FK(nd:(d==sysModules)=false):W.KdlSrc prog w "dict" d d es.size (λi v=>∃e,es[i]?=Sm e/\v=e.key) (λh=>G7 h d es ep) where
 type:=λ_ x=>x.ty
 there:=λ_ x=>let ⟨_,e,_⟩:=x;#[yo e,yo e]
 keep:=λ_ _ x k=>x.by λo e=>k d (.inl rfl) o e
 notList:=∅
 notTuple:=∅
 hint:=λ_ _ _ _ x q=>W.kdl_hint_dict x.ty q
 iter:=λ_ s hh x=>yI2 _ _ #[λ_ _ q=>BH nd x q,Be hh _ (let ⟨_,e,_⟩:=x;xg (yo e)),#[_,xb _ rfl,rfl,rfl],x.by λo e=>yK _ e]
end
section
variable{X:Cx}
theorem E4{H:Hp}{kvs:List (List aT×V)}{ys:List (List aT×so×KE)}(h:LG (λ(p:List aT×V) (q:List aT×so×KE)=>p.1=q.1/\H q.2.1=Sm (.tup (p.1.map kV))/\RelV p.2 q.2.2) kvs ys):LG (λ(p:List aT×V) b=>H b=Sm (.tup (p.1.map kV))) kvs (ys.map (·.2.1)):=by
 induction h with
 | nil=>exact .nil
 | cons a b ih=>exact .cons a.2.1 ih
end
end L2
namespace L2
open PySem
theorem EM(h:Int):Oj h<2^64:=by
 unfold Oj;lia
end L2
namespace L2
open PySem PySem.Spec PyProof.Rows PySem.SeqAt
section
variable{prog:Lw}{w:Lu}{K:Type}[DecidableEq K]{knd:KeyKind prog w K}{A:Mc}{E:LH}{s:F_}{L:Bool}
theorem EF{t:Me}{n:Nat}(h1:t.place.size=n)(h2:t.dummies = #[])(F:n<=t.mask):t.fits n=true:=by
 unfold Me.fits Me.fill;rw[h1,h2];simp;lia
end
variable{α β:Type}{i m ia ib na nb:Nat}{st:Mf}{a b out:Array Mi}
noncomputable def tX(i q:Nat):NR:=#[i,0,i,q,Nn]
theorem IX(i:Nat):Me.runEnd 7 i-i=0:=by unfold Me.runEnd;rw[KQ ()];lia
theorem I_{t:Me}(h:t.mask=7)(i q:Nat):t.advance (tX i q)=tX ((i*5+1+q/32)%8) (q/32):=by
 unfold Ov tX Me.leap;rw[h,KQ '~'];dsimp only;rw[IX]
def Fr(t:Me):Nat->NR->Prop
 | 0,p=>t.slot p.j = .empty
 | n+1,p=>t.slot p.j = .empty\/Fr t n (t.advance p)
noncomputable def Hd:Nat->Nat->Nat
 | 0,i=>i
 | k+1,i=>Hd k ((i*5+1)%8)
theorem Ow:∀i<8,∀e<8,∃k<8,Hd k i=e:=∅
theorem DQ{t:Me}(h:t.mask=7):∀(k n i:Nat),k<=n->t.slot (Hd k i) = .empty->Fr t n (tX i 0)
 | 0,0,_,_,e=>e
 | 0,_+1,_,_,e=>.inl e
 | k+1,n+1,i,hk,e=>.inr (by rw[I_ h];exact DQ h k n _ () e)
theorem K6{t:Me}(h:t.mask=7){e:Nat}(F:e<8)(J:t.slot e = .empty):∀(n i q:Nat),i<8->q<32^n->Fr t (n+8) (tX i q)
 | 0,i,q,hi,hq=>by
  let#[k,O,rfl]:=Ow i hi e F;obtain rfl:q=0:=()
  exact DQ h k _ i () J
 | n+1,i,q,hi,hq=>by
  rw[show n+1+8=n+8+1 from ()];refine .inr ?_;rw[I_ h];exact K6 h F J n _ _ (Nat.mod_lt _ ∅) (by rw[Nat.pow_succ]at hq;lia)
theorem Ec{t:Me}(hd:t.dummies = #[])(j:Nat):t.slot j = .empty\/∃(i:Nat) (hi:i<t.place.size),t.slot j = .live i/\t.place[i]=j:=by
 unfold Me.slot;dsimp only;split
 .rename_i q;rcases HU (MK t.place j) t.place.size with z | z
  .rw[la z]at q;exact .inr #[_,z,rfl,by simpa using q]
  .rw[zbd z]at q;cases q
 .rw[hd];exact .inl rfl
theorem Er{t:Me}(hd:t.dummies = #[])(f:Nat->Int)(h:Int):∀(n F:Nat) (p:NR),p.dummy=Nn->Fr t n p->n<F->(∃j,NS t f h F p=Sm (.empty j Nn)/\t.slot j = .empty)\/∃j i J n',NS t f h F p=Sm (.candidate j i J)/\t.slot j = .live i/\i<t.place.size/\J.dummy=Nn/\Fr t n' J/\n'<n
 | _,0,_,_,_,hf=>absurd hf (Ji _)
 | n,F+1,p,hp,O,hf=>by
  unfold NS;rcases Ec hd p.j with e | ⟨i,hi,e,_⟩
  .rw[e];exact .inl #[p.j,by dsimp only;rw[hp],e]
  .rw[e];dsimp only;cases n with
   | zero=>rw[show t.slot p.j=_ from O]at e;cases e
   | succ n=>
    have O:Fr t n (t.advance p):=O.resolve_left λz=>by rw[z]at e;cases e
    have S:(t.advance p).dummy=Nn:=by unfold Ov;split<;>exact hp
    split
    .exact .inr (yI4 _ _ _ n #[rfl,e,hi,S,O,()])
    .rcases Er hd f h n F _ S O () with z | ⟨j,W,J,n',Z,U,z3,z4,Y,z6⟩
     .exact .inl z
     .exact .inr (yI4 j W J n' #[Z,U,z3,z4,Y,()])
theorem gA{α:Type}[DecidableEq α]:∀ {l m:List α},l.Nodup->(∀x∈l,x∈m)->l.length<=m.length
 | [],m,_,_=>gV _
 | a::l,m,nd,h=>by
  rw[IJ]at nd;have h1:=h a yy;have:=gA (m:=m.erase a) nd.2 λx hx=>(List.mem_erase_of_ne (by rintro rfl;exact nd.1 hx)).mpr (h x (yS _ hx));rw[List.length_erase_of_mem h1]at this;have:=List.length_pos_of_mem h1;rw[ye];lia
theorem C_{t:Me}(hd:t.dummies = #[])(J:t.mask=7)(hz:t.place.size<8)(h:Int):Fr t 21 (t.probeStart h):=by
 have O:∃e,e<8/\t.slot e = .empty:=zbt λS=>by
  have:=gA (m:=t.place.toList) (List.nodup_range (n:=8)) λe F=>by
   rcases Ec hd e with z | ⟨i,hi,_,z⟩
   .exact absurd #[e,Lg.mp F,z] S
   .rw[<-z];exact oy hi
  rw[JB,ui]at this;lia
 let#[e,F,U]:=O;have W:t.probeStart h=tX (Oj h%8) (Oj h):=by
  unfold Me.probeStart tX;rw[J];dsimp only;rw[IX]
 rw[W];exact K6 J F U 13 _ _ (Nat.mod_lt _ ∅) (oG (EM h) ∅)
section
variable{prog:Lw}{w:Lu}{A:Mc}{E:LH}{s:F_}
theorem qX(n:Nat){v:KE}(h:carriedByValue v=true):ofAClassStatement n v=pure false:=by
 cases v<;>first | (cases h;done) | (cases n<;>rfl)
theorem jB{ks:LS}{a:so}{Q:Bool->F_->Prop}(S:Mv (Mg prog w) s.heap ks a)(h:Q false s):G_ (model prog w) A (ofAClassStatement 8 (.ref a)) Q E s:=by
 have U:=S.typeIs;revert S;refine yF3 λo items n=>yB4 λW _ hd hi=>?_;unfold ofAClassStatement;refine KL (Nt U ?_);dsimp only;refine KL ?_;refine KP ?_;simp only[zaN,td,if_false];refine KL (MZ W hd ?_);dsimp only;refine KL ?_;rw[<-zba];refine NQ _ (λBv r s'=>r.1=Nn/\s'=s/\∀v∈Bv,carriedByValue v=true) _ ?_ ?_ _ _ #[rfl,rfl,hi.byValue]
 .rintro v Bv r s' ⟨J,rfl,F⟩;rw[qX _ (F v yy)];refine KL (KP ?_);simp only[td,if_false];exact KP #[rfl,rfl,λu O=>F u (yS _ O)]
 .rintro⟨Y,Z⟩ s' ⟨J,rfl,_⟩;simp only at J;subst J;exact KP h
theorem rM{ks:LS}{a:so}{Q:Bool->F_->Prop}(S:Mv (Mg prog w) s.heap ks a)(h:∀b,Q b s):G_ (model prog w) A (hashByValue 8 (.ref a)) Q E s:=by
 have U:=S.typeIs;revert S;refine yF3 λo items n=>yB4 λW _ hd hi=>?_;unfold hashByValue;refine KL (Nu U F.slot_tuple_hash.lookup ?_);dsimp only;refine KL (MZ W hd ?_);refine KL ?_;show G_ _ _ (forIn items _ _) _ _ s;rw[<-zba];refine NQ _ (λBv r s'=>r.1=Nn/\s'=s/\∃ks,ItemsAre (Mg prog w) ks Bv) _ ?_ ?_ _ _ #[rfl,rfl,_,hi]
 .intro v Bv r s';refine yB3 ?_;rintro O rfl;refine yF1 λ_ J=>?_;cases J with
  | cons q J=>
   let#[t,rfl]:=JK q;refine KL (KP ?_);exact KP #[rfl,rfl,_,J]
 .rintro⟨Y,Z⟩ s' ⟨O,rfl,_⟩;simp only at O;subst O;exact KP (h true)
theorem xT{κ:so->LS}{p:so}{Q:Bool->F_->Prop}(W:Mv (Mg prog w) s.heap (κ p) p)(st:LN)(O:∀v∈st,∃q,v = .ref q/\Mv (Mg prog w) s.heap (κ q) q)(h:Q false s):G_ (model prog w) A (searchCouldBeSeen (.ref p) st) Q E s:=by
 unfold searchCouldBeSeen;refine KL ?_;refine NQ _ (λBv r s'=>r.1=Nn/\s'=s/\∀v∈Bv,∃q,v = .ref q/\Mv (Mg prog w) s.heap (κ q) q) _ ?_ ?_ _ _ #[rfl,rfl,O]
 .rintro v Bv r s' ⟨J,rfl,F⟩;let#[q,rfl,U]:=F v yy;have go:=λu S=>F u (yS _ S);dsimp only;split
  .exact KP #[rfl,rfl,go]
  .refine KL (wpAny_eqIsQuiet_tuple W ?_);refine KL (wpAny_eqIsQuiet_tuple U ?_);refine KL (jB W ?_);refine KL (jB U ?_);exact KP #[rfl,rfl,go]
 .rintro⟨Y,Z⟩ s' ⟨J,rfl,_⟩;simp only at J;subst J;exact KP h
end
section
variable{prog:Lw}{w:Lu}{A:Mc}{E:LH}{s:F_}{f:so->Int}{L:Bool}{κ:so->LS}{a p:so}{o:Obj}{es:Array (Int×KE)}{ep:Nat}{t:Me}{qs:LL}
structure Hz (f:so->Int) (L:Bool) (o:Obj) (es:Array (Int×KE)) (ep:Nat) (t:Me) (qs:LL):Prop where
 ex:o.ExactSet
 dat:o.data = .set es ep t
 el:es.toList=qs.map λq=>(f q,.ref q)
 rise:gw t.place
 psz:t.place.size=qs.length
 nod:t.dummies = #[]
 m7:t.mask=7
 led:t.led=L
 few:qs.length<=4
theorem Hz.sz(T:Hz f L o es ep t qs):es.size=qs.length:=by rw[<-ui,T.el,ze]
theorem Hz.fit(T:Hz f L o es ep t qs):t.fits es.size=true:=EF (T.psz.trans T.sz.symm) T.nod (by rw[T.sz,T.m7];have:=T.few;lia)
theorem Kn{b:Bool}{m:Sem Bool}{u k:Sem α}{Q:α->F_->Prop}(F:∀ {Q:Bool->F_->Prop},Q false s->G_ (model prog w) A m Q E s)(h:G_ (model prog w) A k Q E s):G_ (model prog w) A (if b=true then m >>= λr=>if r=true then u else k else k) Q E s:=by
 split
 .exact KL (F h)
 .exact h
theorem EX{Q:SetFound->F_->Prop}(ho:s.heap.get? a=Sm o)(T:Hz (λq=>MF (Mg prog w) (κ q)) L o es ep t qs)(hq:∀q∈qs,Mv (Mg prog w) s.heap (κ q) q)(hx:Mv (Mg prog w) s.heap (κ p) p)(hu:A.units<cLine)
  (U:(∃q∈qs,κ q=κ p)->Q (.there Nn) s) (Z:∀j,t.slot j = .empty->Q (.free j false) s) :
  ∀(n F:Nat) (J:Option NR),(J.getD (t.probeStart (MF (Mg prog w) (κ p)))).dummy=Nn->Fr t n (J.getD (t.probeStart (MF (Mg prog w) (κ p))))->n<F->n<200->G_ (model prog w) A (setSearchFrom a (.ref p) (MF (Mg prog w) (κ p)) true F J) Q E s:=by
 intro n
 induction n using Nat.strongRecOn with
 | _ n ih=>
  intro F J h1 h2 h3 h4;obtain⟨F,rfl⟩ : ∃g,F=g+1:=⟨F-1,()⟩
  unfold setSearchFrom;refine KL (M9 ho T.dat T.fit ?_);dsimp only;have hg:t.gaveWay=false:=by unfold Me.gaveWay;rw[T.m7];rfl
  rw[hg];simp only[td,if_false];generalize hp:Me.probe t _ (MF (Mg prog w) (κ p)) _=r;have G:=Er T.nod (λi=>(es[i]?.map (·.1)).getD 0) (MF (Mg prog w) (κ p)) n (10*Me.turns t.mask) _ h1 h2 (by rw[T.m7];show n<220;lia);rcases G with ⟨j,e,hj⟩ | ⟨j,i,p',n',e,hs,hi,hd,W,hl⟩
  .obtain rfl:=hp.symm.trans e;exact KP (Z j hj)
  .obtain rfl:=hp.symm.trans e;dsimp only;have O:i<qs.length:=by rw[<-T.psz];exact hi
   have S:es[i]?=Sm (MF (Mg prog w) (κ qs[i]),.ref qs[i]):=by rw[<-Ip,T.el,yf,zg O];rfl
   refine Kn (λz=>xT hx _ (λv hv=>?_) z) ?_
   .let#[e1,h5,rfl]:=K3.mp hv;have h6:=Li.mpr (Array.mem_filter.mp (Li.mp h5)).1;rw[T.el]at h6;let#[q,ab,rfl]:=K3.mp h6;exact#[q,rfl,hq q ab]
   rw[S];dsimp only;refine KL (Ms (wpAny_eqBool_tuple hu (hq _ (xF O)) hx ?_));refine KL (M9 ho T.dat T.fit ?_);by_cases hk:κ qs[i]=κ p
   .rw[KZ (by simp[hk])];exact KP (U #[_,xF O,hk])
   .rw[KQ (by simp[hk])];dsimp only;have Y:t.sameMemory t.moves t.mask=Sm true:=by unfold Me.sameMemory;rw[KZ '~']
    rw[Y];dsimp only;rw[KZ rfl,hs];dsimp only;rw[S];dsimp only;refine KL (wpAny_isSame_ref_self ?_);refine KL (KP ?_);simp only[if_true];rw[KQ (by simp[hk])];exact ih n' hl F _ hd W () ()
def BM(f:so->Int)(L:Bool)(h:Lv)(a:so)(qs:LL):Prop:=∃o es ep t,h.get? a=Sm o/\Hz f L o es ep t qs
theorem tY(xs:Array α)(p:Nat)(x:α)(F:p<=xs.size):(ML xs p x).toList=xs.toList.take p++x::xs.toList.drop p:=by
 unfold ML;rw[oY,Jh,zbj,zbj];simp[List.extract];rw[HS '~']
theorem NB{Q:Bool->F_->Prop}(hS:BM (λq=>MF (Mg prog w) (κ q)) L s.heap a qs)(hq:∀q∈qs,Mv (Mg prog w) s.heap (κ q) q)(hx:Mv (Mg prog w) s.heap (κ p) p)(hu:A.units<cLine)(h3:qs.length<=3)
  (h:∀h' F b,MH a s.heap h'->BM (λq=>MF (Mg prog w) (κ q)) L h' a F->(∀q∈F,q∈p::qs)->(∀k,k∈F.map κ ↔ k∈qs.map κ\/k=κ p)->F.length<=qs.length+1->Q b {s with heap:=h'}) :
  G_ (model prog w) A (setAddHashed a (.ref p) (MF (Mg prog w) (κ p))) Q E s:=by
 revert hS;refine yF4 λo es ep t=>yB2 λU T=>?_;unfold setAddHashed setAddHashedIn;refine Ms (KL (M9 U T.dat T.fit ?_));dsimp only;have al:byScan (.ref p) es=false:=rfl;rw[al];simp only[td,if_false];refine KL ?_;unfold setSearch;refine EX U T hq hx hu (λz=>?_) (λj hj=>?_) 21 100000 Nn rfl (C_ T.nod T.m7 (by rw[T.psz];lia) _) ∅ ∅
 .let#[q,ag,as]:=z;refine KP (h s.heap qs _ (Ox a s.heap) (yI4 o es ep t #[U,T]) (λq hq=>yS _ hq) (λk=>#[.inl,λz=>z.elim id λe=>?_]) ());rw[e,<-as];exact List.mem_map_of_mem ag
 .dsimp only;refine KL (M9 U T.dat T.fit ?_);dsimp only;have Y:=(gK T.rise j).1;have ad:=pO T.rise λi z=>by rw[hj]at z;cases z
  have S:∀b:Bool,G_ (model prog w) A (do
    storeSet a (ML es (t.put j).2 (MF (Mg prog w) (κ p),Ma p)) { (t.put j).1 with plain:=b}
    if (!false&&({ (t.put j).1 with plain:=b}:Me).tooFull)=true then do
      setRelay a (Nv (es.size+1))
      pure true
     else pure true) Q E s:=by
   intro b;have W:(t.put j).1.dummies = #[]:=by
    show (if Me.has t.dummies j then _ else t.dummies) = #[];rw[T.nod];rfl
   have ab:(ML t.place (MK t.place j) j).size=qs.length+1:=by
    rw[<-ui,tY _ _ _ Y,jn,ye,sQ,Jx,ui,T.psz];lia
   have J:(ML es (t.put j).2 (MF (Mg prog w) (κ p),Ma p)).toList=(qs.take (t.put j).2++p::qs.drop (t.put j).2).map λq=>(MF (Mg prog w) (κ q),Ma q):=by
    rw[tY es _ _ (by rw[T.sz,<-T.psz];exact Y),T.el];simp
   have O:(qs.take (t.put j).2++p::qs.drop (t.put j).2).Perm (p::qs):=List.perm_middle.trans (by rw[IE]);generalize qs.take (t.put j).2++p::qs.drop (t.put j).2=F at J O;have ac:F.length=qs.length+1:=O.length_eq;have Z:(ML es (t.put j).2 (MF (Mg prog w) (κ p),Ma p)).size=qs.length+1:=by rw[<-ui,J,ze,ac]
   generalize ML es (t.put j).2 (MF (Mg prog w) (κ p),Ma p)=es' at J Z;refine KL (wpAny_storeSet_of U T.dat ?_ (by rw[Z];have hs:L_=16777216:=M2;lia));have hp:=putSet_of es' { (t.put j).1 with plain:=b} T.dat;have hg:=Iu (Obj.putSet es' { (t.put j).1 with plain:=b}) U (by rw[hp];rfl);rw[hp]at hg;have hf:({ (t.put j).1 with plain:=b}:Me).tooFull=false:=by
    show decide (((ML t.place (MK t.place j) j).size+(t.put j).1.dummies.size)*5>=t.mask*3)=false;rw[ab,W,T.m7];exact decide_eq_false (by show ¬ ((qs.length+1+0)*5>=7*3);lia)
   rw[hf];exact KP (h _ F _ (ix s.heap a _) (yI4 _ es' (ep+1) _ #[hg,T.ex,rfl,J,kF T.rise ad,ab.trans ac.symm,W,T.m7,T.led,()]) (λq hq=>O.mem_iff.mp hq) (λk=>by rw[(O.map κ).mem_iff];simp[or_comm]) ())
  split
  .refine KL (rM hx λb=>?_);cases b with
   | true=>exact S _
   | false=>exact S _
  .refine KL (KP ?_);exact S _
end
theorem iO{prog:Lw}{w:Lu}{h h':Lv}{k:LS}{q:so}(x:Mv (Mg prog w) h k q)(e:∀o,h.get? q=Sm o->h'.get? q=Sm o):Mv (Mg prog w) h' k q:=by
 revert x;refine yF3 λo items n=>yB2 λF r=>?_;exact yI3 o items n #[e o F,r]
def HP(f:so->Int)(κ : so->LS)(L:Bool)(S:so)(ds:LL)(i:Nat)(h:Lv):Prop:=∃qs,BM f L h S qs/\(∀q∈qs,q∈ds)/\(∀k,k∈qs.map κ ↔ k∈(ds.take i).map κ)/\qs.length<=i
theorem HP.mv{f:so->Int}{κ:so->LS}{L:Bool}{S:so}{ds:LL}{h h':Lv}(x:HP f κ L S ds i h)(F:∀o,h.get? S=Sm o->h'.get? S=Sm o):HP f κ L S ds i h':=by
 let#[qs,#[o,es,ep,t,J,T],r]:=x;exact#[qs,yI4 o es ep t #[F o J,T],r]
section
variable{prog:Lw}{w:Lu}{A:Mc}{R:M6->F_->Prop}{I:so}{fp wr:LL}{Gm:Array Nq->Array Nq->Prop}{P:Nat->KE->Prop}{St:Nat->F_->Prop}{L:Bool}
theorem BL{ds:LL}(W:WalksS prog w A.in1 I fp wr Gm ds.length P St)(S:so)(ac:S∉fp)(κ : so->LS)(a5:∀i v,P i v->∃q,ds[i]?=Sm q/\v = .ref q)(hD:∀q∈ds,q∉S::wr)(hn:ds.length<=4)(hu:A.in1.units<cLine) :
  ∀(k i:Nat) (s:F_),ds.length-i=k->i<=ds.length->St i s->(∀q∈ds,Mv (Mg prog w) s.heap (κ q) q)->HP (λq=>MF (Mg prog w) (κ q)) κ L S ds i s.heap->
   (∀s',Moved (S::wr) Gm s s'->HP (λq=>MF (Mg prog w) (κ q)) κ L S ds ds.length s'.heap->R (.ok (.ret .none)) s')->
   codeAny (model prog w) A (.builtin "set.update.loop" #[[.ref S,.ref I],[]]) R s:=by
 have a4:S∉wr:=λh=>ac (W.sub _ h);have F:∀b∈wr,b∈S::wr:=λb hb=>yS _ hb;intro k
 induction k with
 | zero=>
  intro i s hk hi Y hT hS hR;obtain rfl:i=ds.length:=()
  refine Nb zbc ?_;rw[Jd zaO _];show G_ _ A.in1 (pyNext (.ref I) >>= _) _ _ s;refine KL (W.done s _ _ Y λs' hm=>?_);show G_ _ A.in1 (ret Mu) _ _ s';exact KP (hR s' (hm.mono F) (hS.mv λo e=>hm.heap S _ a4 e))
 | succ k ih=>
  intro i s hk hi Y hT hS hR;have as:i<ds.length:=()
  refine Nb zbc ?_;rw[Jd zaO _];show G_ _ A.in1 (pyNext (.ref I) >>= _) _ _ s;refine KL (W.item i s _ _ as Y λv s' hP al hm=>?_);let#[p,hp,rfl]:=a5 i v hP;have Z:=me hp;have J:∀q∈ds,Mv (Mg prog w) s'.heap (κ q) q:=λq O=>iO (hT q O) λo e=>hm.heap q o (λz=>hD q O (F q z)) e;refine yE1 (hS.mv (h':=s'.heap) λo e=>hm.heap S _ a4 e) λqs=>yB4 λbc ag a6 hle=>?_;show G_ _ A.in1 (holding [Ma p] (setAdd S (.ref p)) >>= _) _ _ s';refine KL (Ms ?_);unfold setAdd;refine Ms ?_;refine KL (wpAny_pyHash_tuple hu (J _ Z) ?_);refine NB (s:={s' with toks:=s'.toks+((κ p).length+1)}) bc (λq O=>J q (ag q O)) (J _ Z) hu () λh' a9 b U be a3 ab bg=>?_;refine KP #[NF zaO _,ih (i+1) _ () as (W.frame _ s' _ _ al (za2 _ _) λb hb o e=>?_) (λq O=>iO (J q O) λo e=>?_) #[a9,be,λq O=>?_,λk'=>?_,()] λa8 ad a7=>?_]
  .rw[U.2 b (λh:b=S=>ac (by rw[<-h];exact hb))];exact e
  .show h'.get? q=Sm o;rw[U.2 q (λz=>hD q O (by rw[z];exact yy))];exact e
  .rcases K7.mp (a3 q O) with rfl | z
   .exact Z
   .exact ag q z
  .rw[ab,a6,rT,hp,yH,IZ];simp
  .refine hR a8 (Moved.trans W.gtrans ((hm.mono F).then_heap (za2 _ _) λb o hb e=>?_) ad) a7;rw[U.2 b (λh:b=S=>hb (by rw[h];exact yy))];exact e
end
def Qs(w:Lu)(h:Lv)(a:so)(qs:LL):Prop:=∃o es ep t,h.get? a=Sm o/\o.ExactSet/\o.data = .set es ep t/\es.size<scanBound/\t.fits es.size=true/\cU (db w) t/\es.toList.map (·.2)=qs.map Ma
noncomputable def iF(w:Lu)(a:so)(qs:LL):HO:=.ext λh=>Qs w h a qs
theorem rg(prog:Lw)(w:Lu):∀ {vs:LN} {ns:LS},M7 vs ns->ItemsAre (Mg prog w) ns vs
 | _,_,.nil=>.nil
 | _,_,.cons n t h=>.cons (by show NZ n (.int n t)=true;simp[NZ]) (rg prog w h)
def yY(K:K_)(SO:so->LL->HO):LM->Hp->VK->Prop:=λxs H Q=>∃(p:so) (qs:LL) (κ : so->LS),xs=[.ref p]/\ud K H p (qs.map V.ref)/\(∀q∈qs,su K H q ((κ q).map V.int))/\qs.length<=4/\
 ∀(l:so) (qs':LL),H l=Nn->(∀q∈qs',q∈qs)->(∀k,k∈qs'.map κ ↔ k∈qs.map κ)->qs'.length<=qs.length->Q (.ref l) (upd H l (SO l qs'))
section
variable{X:Cx}
theorem Inv.tupK{pins:List (so×Obj)}{s:F_}{σ:St}{H:Hp}(I:Inv X pins σ H s){q:so}{ns:LS}(h:su X.K H q (ns.map V.int)):Mv (Mg X.prog X.w) s.heap ns q:=by
 refine yE1 (I.tuple h) λF=>yB3 ?_;rintro J ⟨o,e,c,n,d⟩ hz;exact yI3 o F.toArray n #[e,c,d,rg _ _ (by simpa using mT J)]
theorem yN(hr:Cm m X.A){K:PySem.W.Frag}(Z:X.K=K):B3 X (.type "set") (yY K (iF X.w)):=by
 subst Z;intro pins s σ H xs us Q I r h;revert h;refine yF3 λp qs κ=>yB5 ?_;rintro rfl F hT as q;let#[u,rfl,ru]:=dv r;cases ru;refine yE1 (I.list F) λS=>yB3 λrv pl hz=>?_;have Y:S.length=qs.length:=by rw[<-rv.length,ze]
 have Z:∀q∈qs,Mv (Mg X.prog X.w) s.heap (κ q) q:=λq F=>I.tupK (hT q F);have ad:∀q∈qs,q<s.heap.objs.size:=λq F=>by refine yE3 (Z q F) λo _ _=>yB2 λU _=>?_;exact yo U
 have a4:=hr.un;refine ql (items:=S.toArray) (Po:=HP (λq=>MF (Mg X.prog X.w) (κ q)) κ (db X.w) s.heap.objs.size qs qs.length) hr.hd pl.isList (λR s1 J St hJ hS al W h0 ab hR=>?_) λh' tk hS hk=>?_
 .rw[show S.toArray.size=qs.length by simpa using Y]at W;refine BL (L:=db X.w) W _ ab κ (λi v hv=>?_) (λq F z=>?_) as (by show X.A.units+1+1+1<cLine;lia) _ 0 s1 rfl (gV _) h0 (λq F=>iO (Z q F) λo e=>al q o e) #[[],yI4 _ #[] 0 (.fresh 0 0 (db X.w)) #[hS,#[rfl,rfl,rfl],rfl,rfl,λa b ha=>absurd ha (Ji _),rfl,rfl,rfl,rfl,gV _],λq F=>(by cases F),λk=>Iff.rfl,zu _] hR
  .let#[x,hx,rx]:=rv.of (i:=i) (u:=v) (by simpa using hv);rw[yf]at hx;let#[q0,a3,rfl]:=Lb.mp hx;cases rx;exact#[q0,a3,rfl]
  .have:=ad q F;simp only[yk,yT,or_false]at z;exact z.elim (xg this) (by rw[hJ];exact xg (Jp this))
 .revert hS;refine yF1 λds=>yB4 ?_;rintro ⟨o,es,ep,t,U,T⟩ ac O ag;rw[tO]at O;refine yI2 (.ref s.heap.objs.size) _ #[I.laid (λb o e=>hk b o (yo e) e) (zu _) (show BD X.prog X.w _ h' _ (iF X.w s.heap.objs.size ds) from #[yI4 o es ep t #[U,T.ex,T.dat,by rw[T.sz];unfold scanBound;lia,T.fit,#[T.led,T.rise],by rw[T.el,oq];rfl],#[o,U],λh1 h2 g k=>?_]),rfl,q _ ds (I.hok.fresh (zu _)) ac O ag];revert g;refine yF4 λo es ep t=>yB2 λU Bv=>?_;exact yI4 o es ep t #[k o U,Bv]
theorem xY(K:K_)(w:Lu)(F:Cm m X.A)(J:X.K=K:=by rfl)(hw:X.w=w:=by rfl):B3 X (.type "set") (yY K (iF w)):=hw ▸ yN F J
end
noncomputable def zW:LS->LS->Bool
 | [],[]=>false
 | [],_::_=>true
 | _::_,[]=>false
 | a::x,b::y=>if a=b then zW x y else decide (a<b)
section
variable{prog:Lw}{w:Lu}{A:Mc}{E:LH}{s:F_}
theorem qt(b:Bool)(x y:KE):keyLt' (tuples' b) x y=(do
  let xs <-Oz x;let ys <-Oz y
  for ((p,q),i) in (xs.toList.zip ys.toList).zipIdx do
   if !(<-eqBool p q) then return <-oneLt' (b&&i==0) p q
  return decide (xs.size<ys.size)):=rfl
theorem rcLt_int{a b:Int}{t u:Tok}{Q:LH}(h:Q (.bool (decide (a<b))) s):G_ (model prog w) A (richCompare .Lt (.int a t) (.int b u)) Q E s:=by
 exact HT.rcLt_int A s a t b u prog w E Q h
theorem xG{c:Bool}{a b:Int}{t u:Tok}{Q:Bool->F_->Prop}(h:Q (decide (a<b)) s):G_ (model prog w) A (oneLt' c (.int a t) (.int b u)) Q E s:=by
 cases c with
 | true=>exact oneLt_int h
 | false=>
  rw[oneLt'_eq];simp only[td,if_false];exact KL (rcLt_int (N4 h))
theorem Aw{b:Bool}:∀ {x y:LS} {J vs:LN} (i1:ItemsAre (Mg prog w) x J) (i2:ItemsAre (Mg prog w) y vs) (k:Nat),
  G_ (model prog w) A (forIn ((J.zip vs).zipIdx k) ((Nn,Unit.unit):Option Bool×Unit) λx (O:Option Bool×Unit)=>
      match x with
      | ((p,q),i)=>do
       let __do_lift <-eqBool p q
       if (!__do_lift)=true then do
         let __do_lift <-oneLt' (b&&i==0) p q
         pure (ForInStep.done (Sm __do_lift,Unit.unit))
        else pure (ForInStep.yield (Nn,Unit.unit))) (λr s'=>s'=s/\(r.1=Sm (zW x y)\/(r.1=Nn/\zW x y=decide (x.length<y.length)))) E s:=by
 intro x y J vs i1
 induction i1 generalizing y vs with
 | nil=>
  intro i2 k;rw[List.zip_nil_left,List.zipIdx_nil,List.forIn_nil];cases i2<;>exact KP #[rfl,.inr #[rfl,rfl]]
 | @cons m _ x _ h1 i1 ih=>
  intro i2 k;cases i2 with
  | nil=>
   rw[List.zip_nil_right,List.zipIdx_nil,List.forIn_nil];exact KP #[rfl,.inr #[rfl,rfl]]
  | @cons n _ y _ h2 i2=>
   let#[t,rfl]:=JK h1;let#[u,rfl]:=JK h2;rw[zbb,zbg,List.forIn_cons];refine KL ?_;dsimp only;refine KL (wpAny_eqBool_int ?_);unfold zW;by_cases e:m=n
   .subst e;rw[KZ rfl,KQ '~'];refine KP ?_;refine MQ (ih i2 (k+1)) (λr s' F=>?_) λ_ _ e=>e;obtain⟨rfl,F | ⟨F,e⟩⟩:=F
    .exact#[rfl,.inl F]
    .refine#[rfl,.inr #[F,?_]];rw[e,ye,ye];exact decide_eq_decide.mpr ()
   .rw[KQ e,KZ (by simpa using e)];refine KL (xG ?_);refine KP ?_;exact KP #[rfl,.inl rfl]
theorem zj{b:Bool}{x y:LS}{p q:so}{Q:Bool->F_->Prop}(hx:Mv (Mg prog w) s.heap x p)(W:Mv (Mg prog w) s.heap y q)(h:Q (zW x y) s) :
  G_ (model prog w) A (keyLt' (tuples' b) (.ref p) (.ref q)) Q E s:=by
 revert hx;refine yF3 λo1 xs n1=>yB4 λS c1 O i1=>?_;revert W;refine yF3 λY ys n2=>yB4 λU Z J i2=>?_;rw[qt];refine KL (listItems_at S O ?_);refine KL (listItems_at U J ?_);have hsz:decide (xs.size<ys.size)=decide (x.length<y.length):=by
  rw[i1.length,i2.length,ui,ui]
 rw[hsz];clear S U O J hsz;generalize xs.toList=us at i1 |-;generalize ys.toList=vs at i2 |-;refine KL (MQ (Aw (b:=b) i1 i2 0) (λr s' F=>?_) λ_ _ e=>e)
 obtain⟨rfl,F | ⟨F,e⟩⟩:=F
 .dsimp only;rw[F];exact MC h
 .dsimp only;rw[F,<-e];exact MC h
end
section
variable{prog:Lw}{w:Lu}{A:Mc}{E:LH}{s:F_}
theorem yz{α β : Type}(f:α->Sem β)(g:α->β):∀(l:List α),(∀a∈l,∀Q:β->F_->Prop,Q (g a) s->G_ (model prog w) A (f a) Q E s)->∀Q:List β->F_->Prop,Q (l.map g) s->G_ (model prog w) A (l.mapM f) Q E s
 | [],_,Q,h=>by rw[List.mapM_nil];exact KP h
 | a::l,hf,Q,h=>by
  rw[List.mapM_cons];refine KL (hf a yy _ ?_);refine KL (yz f g l (λb F=>hf b (yS _ F)) _ ?_);exact KP h
theorem u_(v:KE):firstOfTuple' v=(do
  if (<-typeOf v) != .type "tuple" then return Nn
  return (<-Oz v)[0]?):=rfl
theorem Kq{qs:LL}{κ:so->LS}{Q:Ny->F_->Prop}(hT:∀q∈qs,Mv (Mg prog w) s.heap (κ q) q/\κ q≠[])(h:∀b,Q (tuples' b) s):G_ (model prog w) A (keyKind' (qs.map Ma).toArray) Q E s:=by
 have F:∀v∈qs.map Ma,∃n t,∀Q:LO->F_->Prop,Q (Sm (.int n t)) s->G_ (model prog w) A (firstOfTuple' v) Q E s:=by
  intro v hv;let#[q,Z,rfl]:=K3.mp hv;let#[Y,J]:=hT q Z;have W:=Y.typeIs;revert Y;refine yF3 λo items n=>yB4 λho hc hd hi=>?_;have:∃n t,items[0]?=Sm (.int n t):=by
   rw[<-Ip];revert hi J;generalize κ q=ks;generalize items.toList=l;intro J hi;cases hi with
   | nil=>exact absurd rfl J
   | cons h1 _=>let#[t,rfl]:=JK h1;exact yI2 _ t rfl
  let#[m,t,e]:=this;refine yI2 m t λQ h=>?_;rw[u_];refine KL (Nt W ?_);simp only[bne_self_eq_false,td,if_false];refine KL (listItems_at ho hd ?_);rw[e];exact KP h
 classical
 let g:KE->LO:=λv=>if hv:v∈qs.map Ma then Sm (.int (Classical.choose (F v hv)) (Classical.choose (zbk (F v hv)))) else Nn
 have hg:∀v∈qs.map Ma,∀Q:LO->F_->Prop,Q (g v) s->G_ (model prog w) A (firstOfTuple' v) Q E s:=λv hv Q h=>by
  refine zbk (zbk (F v hv)) Q ?_;have:g v=Sm (.int (Classical.choose (F v hv)) (Classical.choose (zbk (F v hv)))):=dif_pos hv;rw[<-this];exact h
 have O:∀v∈qs.map Ma,∃n t,g v=Sm (.int n t):=λv hv=>yI2 _ _ (dif_pos hv);generalize g=g at hg O;rw[keyKind'_eq,List.mapM_toArray];refine KL ?_;rw[map_eq_pure_bind];refine KL (yz _ g _ hg _ (KP ?_));have S:((qs.map Ma).map g).toArray.all (·.isSome)=true:=by
  rw[List.all_toArray,zbr];intro x hx;let#[v,hv,rfl]:=K3.mp hx;let#[n,t,e]:=O v hv;rw[e];rfl
 rw[KZ S];refine KL (MB ?_);rw[oneTypeOnly'_eq];have U:((qs.map Ma).map g).toArray.filterMap id=(((qs.map Ma).map g).filterMap id).toArray:='~';rw[U,List.mapM_toArray];refine KL ?_;refine KL ?_;rw[map_eq_pure_bind];refine KL (yz _ (λ_=>M5 "int") _ (λv hv Q h=>?_) _ (KP ?_))
 .let#[x,hx,e]:=List.mem_filterMap.mp hv;let#[u,hu,rfl]:=K3.mp hx;let#[n,t,e2]:=O u hu;rw[e2]at e;obtain rfl:=Option.some.inj e;exact Nt (typeIs_int s n t) h
 .split
  .exact KP (KP (h _))
  .exact KP (KP (h _))
noncomputable def jo(p:Mi):so:=match p.2 with
 | .ref q=>q
 | _=>0
theorem kT{qs:LL}{p:Mi}(h:p∈(pairsOf (qs.map Ma)).toList):jo p∈qs/\p=(.ref (jo p),.ref (jo p)):=by
 rw[pairsOf_toList,List.zip_map,K3]at h;let#[#[a,b],F,rfl]:=h;have e:a=b:=by
  have:∀(l:LL),(a,b)∈l.zip l->a=b:=by
   intro l
   induction l with
   | nil=>intro h;cases h
   | cons x l ih=>
    intro h;rw[zbb]at h;rcases K7.mp h with z | z
    .injection z with z1 z2;rw[z1,z2]
    .exact ih z
  exact this qs F
 subst e;exact#[(List.of_mem_zip F).1,rfl]
theorem zL(qs:LL):(pairsOf (qs.map Ma)).toList.map jo=qs:=by
 rw[pairsOf_toList]
 induction qs with
 | nil=>rfl
 | cons q qs ih=>rw[yX,zbb,yX,ih];rfl
end
theorem k5:∀(qs:LL),Br (qs.map V.ref) (qs.map Ma)
 | []=>.nil
 | q::qs=>.cons rfl (k5 qs)
section
variable{prog:Lw}{w:Lu}{A:Mc}{E:LH}{s:F_}{kd:Ny}{a0:Array Mi}
def kA(prog:Lw)(w:Lu)(s:F_)(kd:Ny)(a0:Array Mi):Prop:=
 ∀(A:Mc) (E:LH) (x y:Mi) (Q:Bool->F_->Prop),x∈a0.toList->y∈a0.toList->(∀b,Q b s)->G_ (model prog w) A (keyLt' kd x.1 y.1) Q E s
structure iP (kd:Ny) (a0:Array Mi) (st:Mf):Prop where
 perm:(Ml st).Perm a0
 kind:kindOf st=kd
 fail:Nz st=Nn
theorem jy(S:kA prog w s kd a0){x y:Mi}{Q:Option Bool->Mf->Prop}(J:kindOf st=kd)(hx:x∈a0.toList)(O:y∈a0.toList)(F:∀b,Q (Sm b) st):wpS (model prog w) A E s (lt' x y) Q st:=by
 rw[lt'_eq];refine Lx (Na ?_);rw[J];refine Lx (NG (Nm (S _ _ _ _ _ hx O λb=>#[rfl,?_])));exact L9 (F b)
theorem dY{arr:Array Mi}{Q:Mi->Mf->Prop}(h:i<arr.size)(F:Q arr[i] st):wpS (model prog w) A E s (elem' arr i) Q st:=by
 rw[elem'_eq,la h];exact L9 F
def Ed(prog:Lw)(w:Lu)(A:Mc)(E:LH)(s:F_)(kd:Ny)(a0:Array Mi)(G:Bool->Mi->Array Mi->Nat->Nat->Nat->StateT Mf Sem LW):Prop:=
 ∀(left:Bool) (key:Mi) (arr:Array Mi) (base n hint:Nat) (Q:LW->Mf->Prop) (st:Mf),key∈a0.toList->(∀x∈arr.toList,x∈a0.toList)->base+n<=arr.size->hint<n->kindOf st=kd->(∀k,k<=n->Q (Sm k) st)->wpS (model prog w) A E s (G left key arr base n hint) Q st
theorem CJ{F:Mf}{Q:PUnit->Mf->Prop}(h:Q ⟨⟩ F):wpS (model prog w) A E s (set F) Q st:=M0 (f:=λ_=>F) h
structure GI (st st':Mf):Prop where
 kind:kindOf st'=kindOf st
 arr:Ml st'=Ml st
 pend:Mo st'=Mo st
 fail:Nz st'=Nz st
theorem GI.rfl'(st:Mf):GI st st:=#[rfl,rfl,rfl,rfl]
theorem GI.trans{a b c:Mf}(h:GI a b)(g:GI b c):GI a c:=#[g.1.trans h.1,g.2.trans h.2,g.3.trans h.3,g.4.trans h.4]
def Kz(prog:Lw)(w:Lu)(A:Mc)(E:LH)(s:F_)(kd:Ny)(a0:Array Mi)(F:Array Mi->Array Mi->StateT Mf Sem (Array Mi)):Prop:=
 ∀(a b:Array Mi) (Q:Array Mi->Mf->Prop) (st:Mf),(∀x∈a.toList,x∈a0.toList)->(∀x∈b.toList,x∈a0.toList)->0<a.size->0<b.size->kindOf st=kd->(∀out st',out.toList.Perm (a.toList++b.toList)->GI st st'->Q out st')->wpS (model prog w) A E s (F a b) Q st
theorem yL(p q r t:List α):((p++q)++(r++t)).Perm ((p++r)++(q++t)):=by
 rw[uP,uP];exact(List.perm_append_left_iff p).mpr (by rw[<-uP,<-uP];exact List.perm_append_comm.append_right t)
theorem Dy{o p q m:List α}(h:o.Perm (p++q)):(o++m).Perm ((p++m)++q):=by
 refine(h.append_right m).trans ?_;have:=yL p q m [];simpa using this
theorem Ce{o p q m:List α}(h:o.Perm (p++q)):(o++m).Perm (p++(q++m)):=by
 rw[<-uP];exact h.append_right m
theorem D_{α:Type}(o:Nat):∀(l:List α) (n:Nat) (arr:Array α),o+n+l.length<=arr.size->((l.zipIdx n).foldl (λa x=>a.setIfInBounds (o+x.2) x.1) arr).toList=arr.toList.take (o+n)++l++arr.toList.drop (o+n+l.length)
 | [],n,arr,h=>'~'
 | x::l,n,arr,h=>by
  rw[zbg,zaS,D_ o l (n+1) _ (by simp at h |-;lia)];have F:o+n<arr.toList.length:=by simp at h |-;lia
  rw[Array.toList_setIfInBounds,List.drop_set_of_lt (),show o+(n+1)=o+n+1 from (),List.take_set,ye];have e:(arr.toList.take (o+n+1)).set (o+n) x=arr.toList.take (o+n)++[x]:=by
   rw[za6 F,List.set_append_right _ _ (by simp;lia)];simp;rw[show o+n-min (o+n) arr.size=0 by simp at F;lia];rfl
  rw[e];simp[show o+n+1+l.length=o+n+(l.length+1) from ()]
theorem x3{arr:Array Mi}{l:List Mi}{o:Nat}(h:o+l.length<=arr.size)(F:l.Perm ((arr.toList.drop o).take l.length)):((l.zipIdx 0).foldl (λa x=>a.setIfInBounds (o+x.2) x.1) arr).Perm arr:=by
 rw[Lj,D_ o l 0 arr ()];refine((F.append_left _).append_right _).trans ?_;rw[Nat.add_zero,<-List.drop_drop,uP,IE,IE]
theorem cT{c:Prop}[Decidable c]{F J:StateT Mf Sem β}{Q:β->Mf->Prop}{st:Mf}(h1:wpS (model prog w) A E s F Q st)(h2:wpS (model prog w) A E s J Q st):wpS (model prog w) A E s (if c then F else J) Q st:=by
 by_cases h:c
 .rw[KZ h];exact h1
 .rw[KQ h];exact h2
def uf(a b out:Array Mi)(ia ib:Nat):Prop:=out.toList.Perm (a.toList.take ia++b.toList.take ib)/\ia+1<a.size/\ib<b.size
theorem fh(a:Array Mi)(i j:Nat):(a.extract i j).toList=(a.toList.drop i).take (j-i):=by simp[List.extract_eq_drop_take]
theorem vq(a:Array Mi)(i:Nat):(a.extract i).toList=a.toList.drop i:=by
 rw[fh,HS '~']
theorem mK(l:List α)(i k:Nat):l.take (i+k)=l.take i++(l.drop i).take k:=by rw[List.take_add]
theorem oh(h:out.toList.Perm (a.toList.take ia++b.toList.take ib)):(out++a.extract ia++b.extract ib).toList.Perm (a.toList++b.toList):=by
 rw[oY,oY,vq,vq,uP];refine(h.append_right _).trans ((yL _ _ _ _).trans ?_);rw[IE,IE]
theorem yC(h:out.toList.Perm (a.toList.take ia++b.toList.take ib)):(out++b.extract ib++a.extract ia).toList.Perm (a.toList++b.toList):=by
 refine List.Perm.trans ?_ (oh h);rw[oY,oY,oY,oY,uP,uP];exact List.perm_append_comm.append_left _
theorem Ee(h:out.toList.Perm (a.toList.take ia++b.toList.take ib))(hi:ia<a.size):(out.push a[ia]).toList.Perm (a.toList.take (ia+1)++b.toList.take ib):=by
 rw[Jh,za6 (by simpa using hi)];exact Dy h
theorem xc(h:out.toList.Perm (a.toList.take ia++b.toList.take ib))(hi:ib<b.size):(out.push b[ib]).toList.Perm (a.toList.take ia++b.toList.take (ib+1)):=by
 rw[Jh,za6 (by simpa using hi)];exact Ce h
theorem Ng(k:Nat)(h:out.toList.Perm (a.toList.take ia++b.toList.take ib)):(out++a.extract ia (ia+k)).toList.Perm (a.toList.take (ia+k)++b.toList.take ib):=by
 rw[oY,fh,mK,zbl];exact Dy h
theorem GR(k:Nat)(h:out.toList.Perm (a.toList.take ia++b.toList.take ib)):(out++b.extract ib (ib+k)).toList.Perm (a.toList.take ia++b.toList.take (ib+k)):=by
 rw[oY,fh,mK,zbl];exact Ce h
def rh(a b out:Array Mi)(na nb:Nat):Prop:=out.toList.Perm (a.toList.drop na++b.toList.drop nb)/\0<na/\1<nb/\na<=a.size/\nb<=b.size
theorem vF(a:Array Mi)(i:Nat):(a.extract 0 i).toList=a.toList.take i:=by rw[fh];rfl
theorem n6(h:out.toList.Perm (a.toList.drop na++b.toList.drop nb)):(a.extract 0 na++b.extract 0 nb++out.reverse).toList.Perm (a.toList++b.toList):=by
 rw[oY,oY,vF,vF,Array.toList_reverse];refine(((List.reverse_perm _).trans h).append_left _).trans ((yL _ _ _ _).trans ?_);rw[IE,IE]
theorem yu(h:out.toList.Perm (a.toList.drop na++b.toList.drop nb)):(b.extract 0 nb++a.extract 0 na++out.reverse).toList.Perm (a.toList++b.toList):=by
 refine List.Perm.trans ?_ (n6 h);rw[oY,oY,oY,oY];exact List.perm_append_comm.append_right _
theorem Jf{o p q m m':List α}(h:o.Perm (p++q))(e:m'.Perm m):(o++m').Perm ((m++p)++q):=(Dy h).trans (((e.append_left p).trans List.perm_append_comm).append_right q)
theorem GF{o p q m m':List α}(h:o.Perm (p++q))(e:m'.Perm m):(o++m').Perm (p++(m++q)):=(Ce h).trans (((e.append_left q).trans List.perm_append_comm).append_left p)
theorem x8(h:out.toList.Perm (a.toList.drop na++b.toList.drop nb))(F:0<na)(hi:na-1<a.size):(out.push a[na-1]).toList.Perm (a.toList.drop (na-1)++b.toList.drop nb):=by
 have e:a.toList.drop (na-1)=[a[na-1]]++a.toList.drop na:=by rw[za4 (by simpa using hi),show na-1+1=na from ()];rfl
 rw[Jh,e];exact Jf h (.refl _)
theorem Ef(h:out.toList.Perm (a.toList.drop na++b.toList.drop nb))(F:0<nb)(hi:nb-1<b.size):(out.push b[nb-1]).toList.Perm (a.toList.drop na++b.toList.drop (nb-1)):=by
 have e:b.toList.drop (nb-1)=[b[nb-1]]++b.toList.drop nb:=by rw[za4 (by simpa using hi),show nb-1+1=nb from ()];rfl
 rw[Jh,e];exact GF h (.refl _)
theorem uZ(l:List α){j:Nat}(h:i<=j):l.drop i=(l.drop i).take (j-i)++l.drop j:=by
 have:=(IE (j-i) (l.drop i)).symm;rw[List.drop_drop,show i+(j-i)=j from ()]at this;exact this
theorem PN{k:Nat}(h:out.toList.Perm (a.toList.drop na++b.toList.drop nb))(F:k<=na):(out++(a.extract k na).reverse).toList.Perm (a.toList.drop k++b.toList.drop nb):=by
 rw[oY,Array.toList_reverse,fh];refine(Jf h (List.reverse_perm _)).trans ?_;rw[<-uZ a.toList F]
theorem OS{k:Nat}(h:out.toList.Perm (a.toList.drop na++b.toList.drop nb))(F:k<=nb):(out++(b.extract k nb).reverse).toList.Perm (a.toList.drop na++b.toList.drop k):=by
 rw[oY,Array.toList_reverse,fh];refine(GF h (List.reverse_perm _)).trans ?_;rw[<-uZ b.toList F]
theorem iL{G:Bool->Mi->Array Mi->Nat->Nat->Nat->StateT Mf Sem LW}{f:LW->StateT Mf Sem β}{left:Bool}{F:Mi}{arr:Array Mi}{base n hint:Nat}{Q:β->Mf->Prop}(J:Ed prog w A E s kd a0 G)(h1:F∈a0.toList)(h2:∀x∈arr.toList,x∈a0.toList)(O:base+n<=arr.size)(W:hint<n)(S:kindOf st=kd)
  (r:Ed prog w A E s kd a0 G->∀k,k<=n->wpS (model prog w) A E s (f (Sm k)) Q st):wpS (model prog w) A E s (G left F arr base n hint >>= f) Q st:=
 Lx (J left F arr base n hint _ st h1 h2 O W S λk U=>r J k U)
theorem vS{F:Array Mi->Array Mi->StateT Mf Sem (Array Mi)}{f:Array Mi->StateT Mf Sem β}{Q:β->Mf->Prop}(m:Kz prog w A E s kd a0 F)(h1:∀x∈a.toList,x∈a0.toList)(h2:∀x∈b.toList,x∈a0.toList)(J:0<a.size)(O:0<b.size)(S:kindOf st=kd)
  (r:∀out st',out.toList.Perm (a.toList++b.toList)->GI st st'->wpS (model prog w) A E s (f out) Q st'):wpS (model prog w) A E s (F a b >>= f) Q st:=
 Lx (m a b _ st h1 h2 J O S r)
theorem qY{c:Prop}[Decidable c]{F J:StateT Mf Sem β}{Q:β->Mf->Prop}{st:Mf}(h1:c->wpS (model prog w) A E s F Q st)(h2:¬ c->wpS (model prog w) A E s J Q st):wpS (model prog w) A E s (if c then F else J) Q st:=by
 by_cases h:c
 .rw[KZ h];exact h1 h
 .rw[KQ h];exact h2 h
theorem dZ{x y:Nat}{F J:StateT Mf Sem β}{Q:β->Mf->Prop}(h1:x=y->wpS (model prog w) A E s F Q st)(h2:¬ x=y->wpS (model prog w) A E s J Q st):wpS (model prog w) A E s (if (x==y)=true then F else J) Q st:=
 qY (λh=>h1 (by simpa using h)) λh=>h2 (by simpa using h)
theorem D9{P:α->Mf->Prop}{K:α->StateT Mf Sem β}{m:StateT Mf Sem β}{Q:β->Mf->Prop}(h2:(∀x st',P x st'->wpS (model prog w) A E s (K x) Q st')->wpS (model prog w) A E s m Q st)(h1:∀x st',P x st'->wpS (model prog w) A E s (K x) Q st'):wpS (model prog w) A E s m Q st:=h2 h1
theorem qL{γ: Type}{P:α->γ->Prop}{K:α->γ->StateT Mf Sem β}{m:StateT Mf Sem β}{Q:β->Mf->Prop}(h2:(∀x y,P x y->wpS (model prog w) A E s (K x y) Q st)->wpS (model prog w) A E s m Q st)(h1:∀x y,P x y->wpS (model prog w) A E s (K x y) Q st):wpS (model prog w) A E s m Q st:=h2 h1
theorem GH(hC:kA prog w s kd a0){sa p sb p2:Nat}(h:iP kd a0 st)(h1:(Mo st)[i]?=Sm (sa,na,p))(h2:(Mo st)[i+1]?=Sm (sb,nb,p2))(bp:sb=sa+na)(a9:0<na)(bh:0<nb)(hsz:sb+nb<=a0.size){Q:Bool->Mf->Prop}
  (hq:∀F,iP kd a0 F->Mo F=((Mo st).setIfInBounds i (sa,na+nb,p)).eraseIdxIfInBounds (i+1)->Q true F):wpS (model prog w) A E s (mergeAt' i) Q st:=by
 have hs:(Ml st).size=a0.size:=h.perm.size_eq;have O:∀x∈(Ml st).toList,x∈a0.toList:=λx hx=>(Lj.mp h.perm).mem_iff.mp hx;have a6:∀j (hj:j<(Ml st).size),(Ml st)[j]∈a0.toList:=λj hj=>O _ (oy hj);refine Lx (Na ?_);rw[h1,h2];refine Lx (CJ ?_);refine Lx (dY (arr:=Ml st) () ?_);refine iL (arr:=Ml st) (base:=sa) (n:=na) (hint:=0) ?gal (a6 _ _) O () a9 h.kind λa4 k hk=>?_
 .clear a6 O hs hq hsz bh a9 bp h2 h1 h;intro left cc arr base n hint Q J hk O h3 h4 h5 hq;have cn:∀i,i<n->∀x,arr[base+i]?=Sm x->x∈a0.toList:=λi hi x hx=>O x (Li.mpr (Array.mem_of_getElem? hx));refine Lx (Mm (Q:=λr F=>J=F/\∃b:Bool,r=Sm b) ?_ ?_)
  .exact Lx (dY (arr:=arr) () (cT (jy hC h5 (O _ (oy _)) hk λb=>#[rfl,b,rfl]) (Lx (jy hC h5 hk (O _ (oy _)) λb=>L9 #[rfl,!b,rfl]))))
  rintro r F ⟨rfl,b,rfl⟩;dsimp only;by_cases c0:b=true
  .rw[KZ c0];refine Lx (Mm (MG (I:=λx c F=>J=F/\∃l o,c=(Nn,l,o)/\hint+l<n) (Q:=λc F=>J=F/\∃l o,c=(Nn,l,o)/\hint+l<n) ?_ (λ_ _ z=>z) #[rfl,yI2 0 1 #[rfl,()]]) ?_)
   .intro x c F _ hx;refine yB2 ?_;rintro rfl;refine yF2 λl o=>yB2 ?_;rintro rfl hl;refine qY (λ_=>L9 #[rfl,yI2 l o #[rfl,hl]]) λc1=>?_;refine Lx (Mm (Q:=λr U=>J=U/\∃b:Bool,r=Sm b) ?_ ?_)
    .exact Lx (dY (arr:=arr) () (cT (jy hC h5 (O _ (oy _)) hk λb=>#[rfl,b,rfl]) (Lx (jy hC h5 hk (O _ (oy _)) λb=>L9 #[rfl,!b,rfl]))))
    rintro r U ⟨rfl,b,rfl⟩;exact cT (L9 #[rfl,yI2 l o #[rfl,hl]]) (L9 #[rfl,yI2 _ _ #[rfl,()]])
   intro c F;refine yB2 ?_;rintro rfl;refine yF2 λl o=>yB2 ?_;rintro rfl hl;refine Lx (Mm (MG (I:=λx c F=>J=F/\∃l o,c=(Nn,l,o)/\o<=n) (Q:=λc F=>J=F/\∃l o,c=(Nn,l,o)/\o<=n) ?_ (λ_ _ z=>z) #[rfl,yI2 _ _ #[rfl,()]]) ?_)
   .intro x c F _ hx;refine yB2 ?_;rintro rfl;refine yF2 λl o=>yB2 ?_;rintro rfl hl;refine qY (λ_=>L9 #[rfl,yI2 l o #[rfl,hl]]) λc1=>?_;refine Lx (Mm (Q:=λr U=>J=U/\∃b:Bool,r=Sm b) ?_ ?_)
    .exact Lx (dY (arr:=arr) () (cT (jy hC h5 (O _ (oy _)) hk λb=>#[rfl,b,rfl]) (Lx (jy hC h5 hk (O _ (oy _)) λb=>L9 #[rfl,!b,rfl]))))
    rintro r U ⟨rfl,b,rfl⟩;exact cT (L9 #[rfl,yI2 _ _ #[rfl,hl]]) (L9 #[rfl,yI2 _ _ #[rfl,()]])
   intro c F;refine yB2 ?_;rintro rfl;refine yF2 λl o=>yB2 ?_;rintro rfl hl;exact L9 (hq o hl)
  .rw[KQ c0];refine Lx (Mm (MG (I:=λx c F=>J=F/\∃l o,c=(Nn,l,o)/\l<=hint) (Q:=λc F=>J=F/\∃l o,c=(Nn,l,o)/\l<=hint) ?_ (λ_ _ z=>z) #[rfl,yI2 0 1 #[rfl,()]]) ?_)
   .intro x c F _ hx;refine yB2 ?_;rintro rfl;refine yF2 λl o=>yB2 ?_;rintro rfl hl;refine qY (λ_=>L9 #[rfl,yI2 l o #[rfl,hl]]) λc1=>?_;refine Lx (Mm (Q:=λr U=>J=U/\∃b:Bool,r=Sm b) ?_ ?_)
    .exact Lx (dY (arr:=arr) () (cT (jy hC h5 (O _ (oy _)) hk λb=>#[rfl,b,rfl]) (Lx (jy hC h5 hk (O _ (oy _)) λb=>L9 #[rfl,!b,rfl]))))
    rintro r U ⟨rfl,b,rfl⟩;exact cT (L9 #[rfl,yI2 l o #[rfl,hl]]) (L9 #[rfl,yI2 _ _ #[rfl,()]])
   intro c F;refine yB2 ?_;rintro rfl;refine yF2 λl o=>yB2 ?_;rintro rfl hl;refine Lx (Mm (MG (I:=λx c F=>J=F/\∃l o,c=(Nn,l,o)/\o<=n) (Q:=λc F=>J=F/\∃l o,c=(Nn,l,o)/\o<=n) ?_ (λ_ _ z=>z) #[rfl,yI2 _ _ #[rfl,()]]) ?_)
   .intro x c F _ hx;refine yB2 ?_;rintro rfl;refine yF2 λl o=>yB2 ?_;rintro rfl hl;refine qY (λ_=>L9 #[rfl,yI2 l o #[rfl,hl]]) λc1=>?_;refine Lx (Mm (Q:=λr U=>J=U/\∃b:Bool,r=Sm b) ?_ ?_)
    .exact Lx (dY (arr:=arr) () (cT (jy hC h5 (O _ (oy _)) hk λb=>#[rfl,b,rfl]) (Lx (jy hC h5 hk (O _ (oy _)) λb=>L9 #[rfl,!b,rfl]))))
    rintro r U ⟨rfl,b,rfl⟩;exact cT (L9 #[rfl,yI2 _ _ #[rfl,hl]]) (L9 #[rfl,yI2 _ _ #[rfl,()]])
   intro c F;refine yB2 ?_;rintro rfl;refine yF2 λl o=>yB2 ?_;rintro rfl hl;exact L9 (hq o hl)
 .dsimp only;refine dZ (λ_=>L9 (hq _ #[h.perm,h.kind,h.fail] rfl)) λc1=>?_;refine Lx (dY (arr:=Ml st) () ?_);refine iL (arr:=Ml st) (base:=sb) (n:=nb) (hint:=nb-1) a4 (a6 _ _) O () () h.kind λ_ k2 ab=>?_;refine dZ (λ_=>L9 (hq _ #[h.perm,h.kind,h.fail] rfl)) λc2=>?_;have hx:∀o e x,x∈((Ml st).extract o e).toList->x∈a0.toList:=λo e x hx=>O x (Li.mpr (by let#[j,hj,e]:=Array.mem_iff_getElem.mp (Li.mp hx);rw[Array.getElem_extract]at e;rw[<-e];exact Array.getElem_mem _));have b2:∀(out:Array Mi) (F:Mf),out.toList.Perm (((Ml st).extract (sa+k) sb).toList++((Ml st).extract sb (sb+k2)).toList)->(out.toList.zipIdx.foldl (λa x=>a.setIfInBounds (sa+k+x.2) x.1) (Ml st)).Perm a0:=λout F hp=>by
   have hl:out.toList.length=sb-(sa+k)+k2:=by rw[hp.length_eq,jn,ui,ui,Jl,Jl];lia
   refine(x3 () ?_).trans h.perm;rw[hl,mK,List.drop_drop,show sa+k+(sb-(sa+k))=sb from ()];rw[fh,fh,zbl]at hp;exact hp
  have al:∀(out:Array Mi) (F:Mf),out.toList.Perm (((Ml st).extract (sa+k) sb).toList++((Ml st).extract sb (sb+k2)).toList)->GI (setPending st (((Mo st).setIfInBounds i (sa,na+nb,p)).eraseIdxIfInBounds (i+1))) F->Q (Nz F).isNone (Mf.mk' (kindOf F) (out.toList.zipIdx.foldl (λa x=>a.setIfInBounds (sa+k+x.2) x.1) (Ml F)) (Mo F) (gallopOf F) (Nz F)):=λout F hp J=>by
   rw[show Nz F=Nn from J.fail.trans h.fail];refine hq _ #[?_,J.kind.trans h.kind,rfl] J.pend;show (List.foldl _ (Ml F) _).Perm a0;rw[show Ml F=Ml st from J.arr];exact b2 out F hp
  by_cases c3:na-k<=k2
  .rw[KZ c3];refine vS (a:=(Ml st).extract (sa+k) sb) (b:=(Ml st).extract sb (sb+k2)) ?mlo (hx _ _) (hx _ _) (by rw[Jl];lia) (by rw[Jl];lia) h.kind λout F hp J=>?_
   .clear al b2 hx c3 c2 ab c1 hk a6 O hs hq hsz bh a9 bp h2 h1 h;intro a b Q J ha hb h3 h4 h5 hq;refine Lx (NG (MB #[rfl,?_]));refine Lx (dY (arr:=b) h4 ?_);have p0:(#v[b[0]]:Array Mi).toList.Perm (a.toList.take 0++b.toList.take (0+1)):=xc (a:=a) (b:=b) (out:=#[]) (ia:=0) (ib:=0) '~' h4;refine dZ (λ_=>L9 (hq _ _ (oh p0) (GI.rfl' _))) λd1=>?_;refine dZ (λ_=>L9 (hq _ _ (yC p0) (GI.rfl' _))) λd2=>?_;refine Lx (Na ?_);refine Lx (Mm (MG (I:=λx c F=>GI J F/\∃out ia ib mg,c=(Nn,out,ia,ib,mg)/\uf a b out ia ib/\x<=ia+ib) (Q:=λc F=>GI J F/\∃r Bv,c=(Sm r,Bv)/\r.toList.Perm (a.toList++b.toList)) ?_ ?_ #[GI.rfl' _,yI4 _ 0 1 _ #[rfl,#[p0,(),()],gV _]]) ?_)
    .intro x c a5 _ hx;refine yB2 λg1=>yF4 λout ia ib mg=>yB3 ?_;rintro rfl i1 b3;refine Lx (Mm (MG (I:=λy c F=>GI J F/\∃o2 Z jb ac bc,c=(Nn,o2,Z,jb,ac,bc)/\uf a b o2 Z jb/\ia+ib+y<=Z+jb)
      (Q:=λc F=>GI J F/\((∃r Bv,c=(Sm r,Bv)/\r.toList.Perm (a.toList++b.toList))\/∃o2 Z jb ac bc,c=(Nn,o2,Z,jb,ac,bc)/\uf a b o2 Z jb/\ia+ib+1<=Z+jb)) ?_ ?_ ⟨g1,yI5 out ia ib 0 0 ⟨rfl,i1,zu _⟩⟩) ?_)
     .intro y c as _ hy;refine yB2 λg2=>yF5 λo2 Z jb ac bc=>yB3 ?_;rintro rfl ⟨q1,q2,q3⟩ ag;refine Lx (dY (arr:=b) q3 ?_);refine Lx (dY (arr:=a) (show Z<a.size from ()) ?_);refine Lx (jy hC (g2.kind.trans h5) (hb _ (oy _)) (ha _ (oy _)) λa3=>?_);dsimp only;by_cases d3:a3=true
      .rw[KZ d3];refine Lx (dY (arr:=b) q3 ?_);have pb:=xc q1 q3;refine dZ (λ_=>L9 #[g2,.inl (yI2 _ _ #[rfl,oh pb])]) λd4=>?_;exact cT (L9 #[g2,.inr (yI5 _ _ _ _ _ #[rfl,#[pb,q2,()],()])]) (L9 #[g2,yI5 _ _ _ _ _ #[rfl,#[pb,q2,()],()]])
      .rw[KQ d3];refine Lx (dY (arr:=a) (show Z<a.size from ()) ?_);have pa:=Ee q1 (show Z<a.size from ());refine dZ (λ_=>L9 #[g2,.inl (yI2 _ _ #[rfl,yC pa])]) λd4=>?_;exact cT (L9 #[g2,.inr (yI5 _ _ _ _ _ #[rfl,#[pa,(),q3],()])]) (L9 #[g2,yI5 _ _ _ _ _ #[rfl,#[pa,(),q3],()]])
     .intro c as;refine yB2 λg2=>yF5 λo2 Z jb ac bc=>yB3 ?_;rintro rfl i2 ag;exact#[g2,.inr (yI5 _ _ _ _ _ #[rfl,i2,()])]
     rintro c as ⟨g2,(⟨r,Bv,rfl,hr⟩ | ⟨o2,Z,jb,ac,bc,rfl,i2,ag⟩)⟩
     .exact L9 #[g2,yI2 r _ #[rfl,hr]]
     refine Lx (NG (MB #[rfl,?_]));refine Lx (Mm (MG (I:=λy c F=>GI J F/\∃o3 Y S mg' ac bc,c=(Nn,o3,Y,S,mg',ac,bc)/\uf a b o3 Y S/\ia+ib+1<=Y+S)
      (Q:=λc F=>GI J F/\((∃r Bv,c=(Sm r,Bv)/\r.toList.Perm (a.toList++b.toList))\/∃o3 Y S mg' ac bc,c=(Nn,o3,Y,S,mg',ac,bc)/\uf a b o3 Y S/\ia+ib+1<=Y+S)) ?_ (λc F z=>⟨z.1,.inr z.2⟩) ⟨g2,yI6 _ _ _ _ _ _ ⟨rfl,i2,ag⟩⟩) ?_)
     .intro y c bt _ hy;refine yB2 λg3=>yF6 λo3 Y S a7 be bg=>yB3 ?_;rintro rfl ⟨q1,q2,q3⟩ b0;apply D9 (P:=λ(_:Nat) F=>GI J F)
      case h2=>
       intro hK;generalize a7=a8;refine cT ?_ ?_;rotate_left
       .exact Lx (Mm (Q:=λ_ F=>GI J F) (M0 (g3.trans #[rfl,rfl,rfl,rfl])) λ_ ad W=>hK a8 _ W)
       exact Lx (Mm (Q:=λ_ F=>GI J F) (M0 (g3.trans #[rfl,rfl,rfl,rfl])) λ_ ad W=>hK (a8-1) _ W)
      intro cb ad W;refine Lx (dY (arr:=b) q3 ?_);refine iL (arr:=a) (base:=Y) (n:=a.size-Y) (hint:=0) a4 (hb _ (oy _)) ha () () (W.kind.trans h5) λ_ k1 b1=>?_;apply qL (P:=λ(o:Array Mi) (k:Nat)=>o.toList.Perm (a.toList.take k++b.toList.take S)/\k+1<a.size/\Y<=k)
      case h2=>
       intro hK;refine cT ?_ ?_;rotate_left
       .have r1:=q1;have r2:=q2;generalize hk:Y=k4 at r1 r2 |-;generalize o3=o4 at r1 |-;exact hK o4 k4 #[r1,r2,()]
       have pa:=Ng k1 q1;exact dZ (λ_=>L9 #[W,.inl (yI2 _ _ #[rfl,yC pa])]) λd4=>dZ (λ_=>L9 #[W,.inl (yI2 _ _ #[rfl,oh pa])]) λd5=>hK _ _ #[pa,(),()]
      intro o4 k4 z;let#[pa,q5,b4]:=z;refine Lx (dY (arr:=b) q3 ?_);have pb:=xc pa q3;refine dZ (λ_=>L9 #[W,.inl (yI2 _ _ #[rfl,oh pb])]) λd6=>?_;refine Lx (dY (arr:=a) (show k4<a.size from ()) ?_);refine iL (arr:=b) (base:=S+1) (n:=b.size-(S+1)) (hint:=0) a4 (ha _ (oy _)) hb () () (W.kind.trans h5) λ_ k2 ab=>?_;have q6:S<S+1/\S+1<b.size:=()
      generalize o4.push b[S]=o5 at pb |-;generalize S+1=kc at pb ab q6 |-
      apply qL (P:=λ(o:Array Mi) (k:Nat)=>o.toList.Perm (a.toList.take k4++b.toList.take k)/\k<b.size/\kc<=k)
      case h2=>
       intro hK;refine cT ?_ ?_;rotate_left
       .have r1:=pb;generalize hk:kc=k6 at r1 |-;generalize o5=o6 at r1 |-;exact hK o6 k6 #[r1,(),()]
       exact dZ (λ_=>L9 #[W,.inl (yI2 _ _ #[rfl,oh (GR k2 pb)])]) λd8=>hK _ _ #[GR k2 pb,(),()]
      intro o6 k6 z;let#[pc,q7,ca]:=z;refine Lx (dY (arr:=a) (show k4<a.size from ()) ?_);have pd:=Ee pc (show k4<a.size from ());refine dZ (λ_=>L9 #[W,.inl (yI2 _ _ #[rfl,yC pd])]) λd9=>?_;exact cT (L9 #[W,.inr (yI6 _ _ _ _ _ _ #[rfl,#[pd,(),()],()])]) (L9 #[W,yI6 _ _ _ _ _ _ #[rfl,#[pd,(),()],()]])
     rintro c bt ⟨g3,(⟨r,Bv,rfl,hr⟩ | ⟨o3,Y,S,a7,be,bg,rfl,i3,b0⟩)⟩
     .exact L9 #[g3,yI2 r _ #[rfl,hr]]
     refine Lx (Mm (Q:=λ_ F=>GI J F) (M0 (g3.trans #[rfl,rfl,rfl,rfl])) ?_);rintro _ ad W;exact L9 #[W,yI4 _ _ _ _ #[rfl,i3,()]]
    .intro c a5;refine yB2 λg1=>yF4 λout ia ib mg=>yB3 ?_;rintro rfl ⟨_,i2,i3⟩ b3;lia
    .intro c a5;refine yB2 λg1=>yF2 λr Bv=>yB2 ?_;rintro rfl hr;exact L9 (hq _ _ hr g1)
   .refine Lx (M0 ?_);refine Lx (Na ?_);exact L9 (al out F hp J)
  .rw[KQ c3];refine vS (a:=(Ml st).extract (sa+k) sb) (b:=(Ml st).extract sb (sb+k2)) ?mhi (hx _ _) (hx _ _) (by rw[Jl];lia) (by rw[Jl];lia) h.kind λout F hp J=>?_
   .clear al b2 hx c3 c2 ab c1 hk a6 O hs hq hsz bh a9 bp h2 h1 h;intro a b Q J ha hb h3 h4 h5 hq;refine Lx (NG (MB #[rfl,?_]));refine Lx (dY (arr:=a) (i:=a.size-1) () ?_);have p0:(#v[a[a.size-1]]:Array Mi).toList.Perm (a.toList.drop (a.size-1)++b.toList.drop b.size):=x8 (a:=a) (b:=b) (out:=#[]) (na:=a.size) (nb:=b.size) '~' h3 ();refine dZ (λ_=>L9 (hq _ _ (n6 p0) (GI.rfl' _))) λd1=>?_;refine dZ (λ_=>L9 (hq _ _ (yu p0) (GI.rfl' _))) λd2=>?_;refine Lx (Na ?_);refine Lx (Mm (MG (I:=λx c F=>GI J F/\∃na nb out mg,c=(Nn,na,nb,out,mg)/\rh a b out na nb/\x+(na+nb)<=a.size+b.size) (Q:=λc F=>GI J F/\∃r Bv,c=(Sm r,Bv)/\r.toList.Perm (a.toList++b.toList)) ?_ ?_ #[GI.rfl' _,yI4 _ _ _ _ #[rfl,#[p0,(),(),(),()],()]]) ?_)
    .intro x c a5 _ hx;refine yB2 λg1=>yF4 λia ib out mg=>yB3 ?_;rintro rfl i1 b3;refine Lx (Mm (MG (I:=λy c F=>GI J F/\∃Z jb o2 ac bc,c=(Nn,Z,jb,o2,ac,bc)/\rh a b o2 Z jb/\y+(Z+jb)<=ia+ib)
      (Q:=λc F=>GI J F/\((∃r Bv,c=(Sm r,Bv)/\r.toList.Perm (a.toList++b.toList))\/∃Z jb o2 ac bc,c=(Nn,Z,jb,o2,ac,bc)/\rh a b o2 Z jb/\1+(Z+jb)<=ia+ib)) ?_ ?_ ⟨g1,yI5 ia ib out 0 0 ⟨rfl,i1,()⟩⟩) ?_)
     .intro y c as _ hy;refine yB2 λg2=>yF5 λZ jb o2 ac bc=>yB3 ?_;rintro rfl ⟨q1,q2,q3,q4,q5⟩ ag;refine Lx (dY (arr:=b) (i:=jb-1) () ?_);refine Lx (dY (arr:=a) (i:=Z-1) () ?_);refine Lx (jy hC (g2.kind.trans h5) (hb _ (oy _)) (ha _ (oy _)) λa3=>?_);dsimp only;by_cases d3:a3=true
      .rw[KZ d3];refine Lx (dY (arr:=a) (i:=Z-1) () ?_);have pa:=x8 q1 q2 ();refine dZ (λ_=>L9 #[g2,.inl (yI2 _ _ #[rfl,n6 pa])]) λd4=>?_;exact cT (L9 #[g2,.inr (yI5 _ _ _ _ _ #[rfl,#[pa,(),(),(),()],()])]) (L9 #[g2,yI5 _ _ _ _ _ #[rfl,#[pa,(),(),(),()],()]])
      .rw[KQ d3];refine Lx (dY (arr:=b) (i:=jb-1) () ?_);have pb:=Ef q1 () ();refine dZ (λ_=>L9 #[g2,.inl (yI2 _ _ #[rfl,yu pb])]) λd4=>?_;exact cT (L9 #[g2,.inr (yI5 _ _ _ _ _ #[rfl,#[pb,(),(),(),()],()])]) (L9 #[g2,yI5 _ _ _ _ _ #[rfl,#[pb,(),(),(),()],()]])
     .intro c as;refine yB2 λg2=>yF5 λZ jb o2 ac bc=>yB3 ?_;rintro rfl i2 ag;exact#[g2,.inr (yI5 _ _ _ _ _ #[rfl,i2,()])]
     rintro c as ⟨g2,(⟨r,Bv,rfl,hr⟩ | ⟨Z,jb,o2,ac,bc,rfl,i2,ag⟩)⟩
     .exact L9 #[g2,yI2 r _ #[rfl,hr]]
     refine Lx (NG (MB #[rfl,?_]));refine Lx (Mm (MG (I:=λy c F=>GI J F/\∃Y S o3 mg' ac bc,c=(Nn,Y,S,o3,mg',ac,bc)/\rh a b o3 Y S/\1+(Y+S)<=ia+ib)
      (Q:=λc F=>GI J F/\((∃r Bv,c=(Sm r,Bv)/\r.toList.Perm (a.toList++b.toList))\/∃Y S o3 mg' ac bc,c=(Nn,Y,S,o3,mg',ac,bc)/\rh a b o3 Y S/\1+(Y+S)<=ia+ib)) ?_ (λc F z=>⟨z.1,.inr z.2⟩) ⟨g2,yI6 _ _ _ _ _ _ ⟨rfl,i2,ag⟩⟩) ?_)
     .intro y c bt _ hy;refine yB2 λg3=>yF6 λY S o3 a7 be bg=>yB3 ?_;rintro rfl ⟨q1,q2,q3,q4,q5⟩ b0;apply D9 (P:=λ(_:Nat) F=>GI J F)
      case h2=>
       intro hK;generalize a7=a8;refine cT ?_ ?_;rotate_left
       .exact Lx (Mm (Q:=λ_ F=>GI J F) (M0 (g3.trans #[rfl,rfl,rfl,rfl])) λ_ ad W=>hK a8 _ W)
       exact Lx (Mm (Q:=λ_ F=>GI J F) (M0 (g3.trans #[rfl,rfl,rfl,rfl])) λ_ ad W=>hK (a8-1) _ W)
      intro cb ad W;refine Lx (dY (arr:=b) (i:=S-1) () ?_);refine iL (arr:=a) (base:=0) (n:=Y) (hint:=Y-1) a4 (hb _ (oy _)) ha () () (W.kind.trans h5) λ_ k1 b1=>?_;dsimp only;generalize Y-k1=cm;apply qL (P:=λ(o:Array Mi) (k:Nat)=>o.toList.Perm (a.toList.drop k++b.toList.drop S)/\0<k/\k<=Y)
      case h2=>
       intro hK;refine cT ?_ ?_;rotate_left
       .have r1:=q1;have r2:=q2;generalize hk:Y=k4 at r1 r2 |-;generalize o3=o4 at r1 |-;exact hK o4 k4 #[r1,r2,()]
       have pa:=PN q1 b1;exact dZ (λ_=>L9 #[W,.inl (yI2 _ _ #[rfl,n6 pa])]) λd4=>hK _ _ #[pa,(),b1]
      intro o4 k4 z;let#[pa,q6,b4]:=z;refine Lx (dY (arr:=b) (i:=S-1) () ?_);have pb:=Ef pa () (show S-1<b.size from ());refine dZ (λ_=>L9 #[W,.inl (yI2 _ _ #[rfl,yu pb])]) λd6=>?_;refine Lx (dY (arr:=a) (i:=k4-1) () ?_);refine iL (arr:=b) (base:=0) (n:=S-1) (hint:=S-1-1) a4 (ha _ (oy _)) hb () () (W.kind.trans h5) λ_ k2 ab=>?_;dsimp only;have q7:S-1<S/\1<S-1:=()
      generalize o4.push b[S-1]=o5 at pb |-;generalize S-1=kc at pb ab q7 |-;generalize kc-k2=cd
      apply qL (P:=λ(o:Array Mi) (k:Nat)=>o.toList.Perm (a.toList.drop k4++b.toList.drop k)/\1<k/\k<=kc)
      case h2=>
       intro hK;refine cT ?_ ?_;rotate_left
       .have r1:=pb;generalize hk:kc=k6 at r1 |-;generalize o5=o6 at r1 |-;exact hK o6 k6 #[r1,(),()]
       have pc:=OS pb ab;exact dZ (λ_=>L9 #[W,.inl (yI2 _ _ #[rfl,yu pc])]) λd8=>dZ (λ_=>L9 #[W,.inl (yI2 _ _ #[rfl,n6 pc])]) λd9=>hK _ _ #[pc,(),ab]
      intro o6 k6 z;let#[pc,q8,ca]:=z;refine Lx (dY (arr:=a) (i:=k4-1) () ?_);have pd:=x8 pc () (show k4-1<a.size from ());refine dZ (λ_=>L9 #[W,.inl (yI2 _ _ #[rfl,n6 pd])]) λce=>?_;exact cT (L9 #[W,.inr (yI6 _ _ _ _ _ _ #[rfl,#[pd,(),(),(),()],()])]) (L9 #[W,yI6 _ _ _ _ _ _ #[rfl,#[pd,(),(),(),()],()]])
     rintro c bt ⟨g3,(⟨r,Bv,rfl,hr⟩ | ⟨Y,S,o3,a7,be,bg,rfl,i3,b0⟩)⟩
     .exact L9 #[g3,yI2 r _ #[rfl,hr]]
     refine Lx (Mm (Q:=λ_ F=>GI J F) (M0 (g3.trans #[rfl,rfl,rfl,rfl])) ?_);rintro _ ad W;exact L9 #[W,yI4 _ _ _ _ #[rfl,i3,()]]
    .intro c a5;refine yB2 λg1=>yF4 λna nb out mg=>yB3 ?_;rintro rfl ⟨_,i2,i3,i4,i5⟩ b3;lia
    .intro c a5;refine yB2 λg1=>yF2 λr Bv=>yB2 ?_;rintro rfl hr;exact L9 (hq _ _ hr g1)
   .refine Lx (M0 ?_);refine Lx (Na ?_);exact L9 (al out F hp J)
end
section
variable{prog:Lw}{w:Lu}{A:Mc}{E:LH}{s:F_}{kd:Ny}{a0:Array Mi}
def jj(kd:Ny)(a0:Array Mi)(pd:Array (Nat×Nat×Nat))(st:Mf):Prop:=iP kd a0 st/\Mo st=pd
theorem lg(S:kA prog w s kd a0)(h:iP kd a0 st){j:Nat}{Q:Option Bool->Mf->Prop}(hi:i<a0.size)(W:j<a0.size)(O:∀b,Q (Sm b) st):wpS (model prog w) A E s (ltAt' i j) Q st:=by
 have U:(Ml st).size=a0.size:=h.perm.size_eq;have F:∀k (J:k<(Ml st).size),(Ml st)[k]∈a0.toList:=λk J=>(Lj.mp h.perm).mem_iff.mp (oy J);rw[ltAt'_eq];refine Lx (Na ?_);exact Lx (dY (arr:=Ml st) () (Lx (dY (arr:=Ml st) () (jy S h.kind (F _ _) (F _ _) O))))
theorem sr{F:Array (Nat×Nat×Nat)}(h:jj kd a0 F st){j:Nat}{Q:PUnit->Mf->Prop}(J:∀st',jj kd a0 F st'->Q ⟨⟩ st'):wpS (model prog w) A E s (reverseSlice' i j) Q st:=by
 rw[reverseSlice'_eq];exact M0 (J _ #[#[(mirror_perm _ _ _ _).trans h.1.perm,h.1.kind,h.1.fail],h.2])
theorem Gz(hC:kA prog w s kd a0){W:Array (Nat×Nat×Nat)}(h:jj kd a0 W st){lo J:Nat}{Q:LW->Mf->Prop}(hn:lo+J<=a0.size)(h1:1<=J)
  (hq:∀m F,jj kd a0 W F->1<=m->m<=J->Q (Sm m) F):wpS (model prog w) A E s (countRun' lo J) Q st:=by
 refine Lx (Mm (MG (I:=λx c F=>jj kd a0 W F/\c=(Nn,x)) (Q:=λc F=>jj kd a0 W F/\∃m,c=(Nn,m)/\1<=m/\m<=J) ?_ ?_ #[h,rfl]) ?_)
 .rintro x c S Y hx2 ⟨O,rfl⟩;dsimp only;refine Lx (lg hC O.1 () () λb=>?_);exact cT (L9 #[O,x,rfl,Y,()]) (L9 #[O,rfl])
 .rintro c S ⟨O,rfl⟩;exact#[O,_,rfl,(),()]
 intro c S;refine yB2 λO=>yF1 λn=>yB3 ?_;rintro rfl n1 n2;dsimp only;by_cases c1:n=J
 .rw[KZ (by simpa using c1)];exact L9 (hq n S O n1 n2)
 rw[KQ (by simpa using c1)];by_cases c2:n>1
 case' pos=>
  rw[KZ c2];refine Lx (lg hC O.1 () () λb=>?_);dsimp only;refine cT (L9 (hq n S O n1 n2)) (Lx (sr O λad g2=>?_))
 case' neg=>
  rw[KQ c2];have g2:=O;generalize S=ad at g2 |-
 all_goals
  refine Lx (NG (MB #[rfl,?_]));refine Lx (Mm (MG (I:=λx c F=>jj kd a0 W F/\∃q,c=(Nn,x,q)) (Q:=λc F=>jj kd a0 W F/\∃m q,c=(Nn,m,q)/\1<=m/\m<=J) ?_ ?_ #[g2,0,rfl]) ?_)
  .rintro x c ac Y hx2 ⟨U,q,rfl⟩;dsimp only;refine Lx (lg hC U.1 () () λb=>?_);dsimp only;refine cT (cT (Lx (sr U λal g4=>L9 #[g4,_,rfl])) (L9 #[U,_,rfl])) ?_;refine Lx (lg hC U.1 () () λb=>?_);exact cT (L9 #[U,yI2 x _ #[rfl,(),()]]) (L9 #[U,_,rfl])
  .rintro c ac ⟨U,q,rfl⟩;exact#[U,yI2 _ _ #[rfl,(),()]]
  intro c ac;refine yB2 λU=>yF2 λm q=>yB3 ?_;rintro rfl m1 m2;dsimp only;refine cT (Lx (sr U λal g4=>Lx (sr g4 λag g5=>?_))) (Lx (sr U λag g5=>?_))
  all_goals
   refine Lx (Mm (MG (I:=λx c F=>jj kd a0 W F/\c=(Nn,x)) (Q:=λc F=>jj kd a0 W F/\∃m,c=(Nn,m)/\1<=m/\m<=J) ?_ ?_ #[g5,rfl]) ?_)
   .rintro x c ab Y hx2 ⟨Z,rfl⟩;dsimp only;refine Lx (lg hC Z.1 () () λb=>?_);exact cT (L9 #[Z,x,rfl,(),()]) (L9 #[Z,rfl])
   .rintro c ab ⟨Z,rfl⟩;exact#[Z,_,rfl,(),()]
   intro c ab;refine yB2 λZ=>yF1 λn=>yB3 ?_;rintro rfl n1 n2;exact L9 (hq n ab Z n1 n2)
theorem Od(hC:kA prog w s kd a0){S:Array (Nat×Nat×Nat)}(h:jj kd a0 S st){lo n ok:Nat}{Q:Bool->Mf->Prop}(hn:lo+n<=a0.size)(h0:0<n)
  (Y:∀F,jj kd a0 S F->Q true F):wpS (model prog w) A E s (binarySort' lo n ok) Q st:=by
 rw[binarySort'_eq];refine Lx (Mm (MG (I:=λx c F=>jj kd a0 S F/\c=(Nn,Unit.unit)) (Q:=λc F=>jj kd a0 S F/\c=(Nn,Unit.unit)) ?_ (λ_ _ z=>z) #[h,rfl]) ?_)
 .rintro k c J ab Z ⟨O,rfl⟩;refine Lx (Mm (MG (I:=λx c F=>J=F/\∃l r,c=(Nn,l,r)/\r<=k) (Q:=λc F=>J=F/\∃l r,c=(Nn,l,r)/\r<=k) ?_ (λ_ _ z=>z) #[rfl,yI2 0 k #[rfl,zu _]]) ?_)
  .intro x c U _ hx;refine yB2 ?_;rintro rfl;refine yF2 λl r=>yB2 ?_;rintro rfl W;dsimp only;by_cases z:l>=r
   .rw[KZ z];exact L9 #[rfl,yI2 l r #[rfl,W]]
   rw[KQ z];refine Lx (lg hC O.1 () () λb=>?_);exact cT (L9 #[rfl,yI2 _ _ #[rfl,()]]) (L9 #[rfl,yI2 _ _ #[rfl,W]])
  .intro c U;refine yB2 ?_;rintro rfl;refine yF2 λl r=>yB2 ?_;rintro rfl W;dsimp only;rw[moveDown'_eq];refine Lx (M0 ?_);exact L9 #[#[#[(bubble_perm _ _ _).trans O.1.perm,O.1.kind,O.1.fail],O.2],rfl]
 .rintro c J ⟨O,rfl⟩;exact L9 (Y J O)
def Cp:List (Nat×Nat×Nat)->Nat->Nat->Prop
 | [],x,y=>x=y
 | r::l,x,y=>r.1=x/\0<r.2.1/\Cp l (x+r.2.1) y
theorem Cp.le:∀ {l:List (Nat×Nat×Nat)} {x y:Nat},Cp l x y->x<=y
 | [],x,y,h=>by cases h;exact zu _
 | _::_,x,y,h=>by have:=h.2.2.le;lia
theorem Cp.at_:∀ {l:List (Nat×Nat×Nat)} {x y i:Nat} {a b:Nat×Nat×Nat},Cp l x y->l[i]?=Sm a->l[i+1]?=Sm b->b.1=a.1+a.2.1/\0<a.2.1/\0<b.2.1/\b.1+b.2.1<=y/\Cp ((l.set i (a.1,a.2.1+b.2.1,a.2.2)).eraseIdx (i+1)) x y
 | [],x,y,i,a,b,h,h1,h2=>by cases h1
 | [r],x,y,i,a,b,h,h1,h2=>by cases h2
 | r::t::l,x,y,0,a,b,h,h1,h2=>by
  cases h1;cases h2;revert h;refine yB5 λF J S U O=>?_;refine#[(),J,U,by have:=O.le;lia,F,by show 0<_+_;lia,?_];show Cp l (x+(r.2.1+t.2.1)) y;rw[<-oS];exact O
 | r::t::l,x,y,i+1,a,b,h,h1,h2=>by
  let#[F,J,S]:=h;refine yA5 (S.at_ (i:=i) h1 h2) λY Z W f4 f5=>?_;exact#[Y,Z,W,f4,F,J,f5]
theorem Cp.pow:∀ {l:List (Nat×Nat×Nat)} {x y:Nat} (i p:Nat),Cp l x y->Cp (l.modify i λr=>(r.1,r.2.1,p)) x y
 | [],x,y,i,p,h=>by cases i<;>exact h
 | r::l,x,y,0,p,h=>h
 | r::l,x,y,i+1,p,h=>#[h.1,h.2.1,h.2.2.pow i p]
theorem Cp.snoc:∀ {l:List (Nat×Nat×Nat)} {x y:Nat} {n p:Nat},Cp l x y->0<n->Cp (l++[(y,n,p)]) x (y+n)
 | [],x,y,n,p,h,hn=>by cases h;exact#[rfl,hn,rfl]
 | r::l,x,y,n,p,h,hn=>#[h.1,h.2.1,h.2.2.snoc hn]
theorem Ay(Z:kA prog w s kd a0){lo:Nat}(h:iP kd a0 st)(U:Cp (Mo st).toList 0 lo)(J:lo<=a0.size)(hi:i+1<(Mo st).size){Q:Bool->Mf->Prop}(hq:∀F,iP kd a0 F->Cp (Mo F).toList 0 lo->Q true F):wpS (model prog w) A E s (mergeAt' i) Q st:=by
 have O:(Mo st)[i]?=Sm (Mo st)[i]:=la ();have S:(Mo st)[i+1]?=Sm (Mo st)[i+1]:=la hi;refine yA5 (U.at_ (i:=i) (by rw[Ip];exact O) (by rw[Ip];exact S)) λf1 f2 W f4 f5=>?_;refine GH Z h O S f1 f2 W (xH f4 J) λF h' Y=>hq F h' ?_;rw[Y,Array.toList_eraseIdxIfInBounds,Array.toList_setIfInBounds];exact f5
theorem Kw(hC:kA prog w s kd a0)(h:iP kd a0 st)(hp:Mo st = #[]){Q:Unit->Mf->Prop}
  (hq:∀F,(Ml F).Perm a0->Nz F=Nn->Q Unit.unit F):wpS (model prog w) A E s sortRuns' Q st:=by
 rw[sortRuns'_eq];refine Lx (Na ?_);have hs:(Ml st).size=a0.size:=h.perm.size_eq;simp only[hs];generalize minRun' a0.size a0.size 0=mr;refine Lx (Mm (MG (I:=λx c F=>∃lo,c=(Nn,lo)/\lo<=a0.size/\iP kd a0 F/\Cp (Mo F).toList 0 lo) (Q:=λc F=>∃lo,c=(Nn,lo)/\lo<=a0.size/\iP kd a0 F/\Cp (Mo F).toList 0 lo) ?_ (λ_ _ z=>z) #[0,rfl,gV _,h,by rw[hp];rfl]) ?_)
 .intro x c ad _ hx;refine yF1 λlo=>yB4 ?_;rintro rfl U g1 r1;dsimp only;by_cases c1:lo>=a0.size
  .rw[KZ c1];exact L9 #[lo,rfl,U,g1,r1]
  rw[KQ c1];refine Lx (Gz hC #[g1,rfl] () () λm ac g2 m1 m2=>?_);dsimp only;by_cases c2:m<mr
  case' pos=>
   rw[KZ c2];refine Lx (NG (MB #[rfl,?_]));refine Lx (Od hC g2 () () λab g3=>?_);rw[KQ '~'];have n1:0<min (a0.size-lo) mr:=()
   have n2:lo+min (a0.size-lo) mr<=a0.size:=()
   generalize min (a0.size-lo) mr=n at n1 n2 |-
  case' neg=>
   rw[KQ c2];have g3:=g2;have n1:0<m:=m1;have n2:lo+m<=a0.size:=()
   generalize ac=ab at g3 |-;generalize m=n at n1 n2 |-
  all_goals
   let#[g3,e3]:=g3;have r3:Cp (Mo ab).toList 0 lo:=by rw[e3];exact r1
   refine Lx (Na ?_);have push:∀J,iP kd a0 J->Cp (Mo J).toList 0 lo->wpS (model prog w) A E s (modify λs=>setPending s ((Mo s).push (lo,n,0))) (λ_ F=>iP kd a0 F/\Cp (Mo F).toList 0 (lo+n)) J:=λJ O S=>M0 #[#[O.perm,O.kind,O.fail],by show Cp ((Mo J).push (lo,n,0)).toList 0 (lo+n);rw[Jh];exact S.snoc n1];split
   .refine Lx (Mm (MG (I:=λx c F=>c=(Nn,Unit.unit)/\iP kd a0 F/\Cp (Mo F).toList 0 lo) (Q:=λc F=>c=(Nn,Unit.unit)/\iP kd a0 F/\Cp (Mo F).toList 0 lo) ?_ (λ_ _ z=>z) #[rfl,g3,r3]) ?_)
    .rintro y c J _ hy ⟨rfl,O,S⟩;refine Lx (Na ?_);by_cases c3:(Mo J).size>1
     .rw[KZ c3,la ()];dsimp only;refine cT (L9 #[rfl,O,S]) ?_;refine Lx (Ay hC O S U () λW Y Z=>?_);rw[KQ '~'];exact L9 #[rfl,Y,Z]
     .rw[KQ c3];exact L9 #[rfl,O,S]
    .rintro c J ⟨rfl,O,S⟩;dsimp only;refine Lx (M0 ?_);refine Lx (Mm (push _ #[O.perm,O.kind,O.fail] ?_) ?_)
     .show Cp (Array.modify _ _ _).toList 0 lo;rw[Array.toList_modify];exact S.pow _ _
     .rintro _ W ⟨Y,Z⟩;exact L9 #[_,rfl,n2,Y,Z]
   .refine Lx (Mm (push _ g3 r3) ?_);rintro _ W ⟨Y,Z⟩;exact L9 #[_,rfl,n2,Y,Z]
 intro c ad;refine yF1 λlo=>yB4 ?_;rintro rfl U g1 r1;dsimp only;refine Lx (Mm (MG (I:=λx c F=>c=(Nn,Unit.unit)/\iP kd a0 F/\Cp (Mo F).toList 0 lo) (Q:=λc F=>c=(Nn,Unit.unit)/\iP kd a0 F/\Cp (Mo F).toList 0 lo) ?_ (λ_ _ z=>z) #[rfl,g1,r1]) ?_)
 .rintro y c J _ hy ⟨rfl,O,S⟩;refine Lx (Na ?_);by_cases c3:(Mo J).size<=1
  .rw[KZ c3];exact L9 #[rfl,O,S]
  rw[KQ c3];have hle:∀(c:Prop) [Decidable c] (n:Nat),(if c then n-1 else n)<=n:=λc _ n=>by split<;>lia
  refine Lx (Ay hC O S U (Nat.lt_of_le_of_lt (Nat.add_le_add_right (hle _ _) 1) ()) λW Y Z=>?_);rw[KQ '~'];exact L9 #[rfl,Y,Z]
 .rintro c J ⟨rfl,O,S⟩;exact L9 (hq J O.perm O.fail)
end
section
variable{prog:Lw}{w:Lu}{A:Mc}{E:LH}{s:F_}
theorem Kg{qs:LL}{xs:Array Mi}(J:xs.Perm (pairsOf (qs.map Ma))):∃qs':LL,qs'.Perm qs/\xs.map (·.2)=(qs'.map Ma).toArray:=by
 have hl:=Lj.mp J;refine#[xs.toList.map jo,?_,?_]
 .have:=hl.map jo;rw[zL]at this;exact this
 .apply Array.toList_inj.mp;rw[Array.toList_map];show xs.toList.map (·.2)=(xs.toList.map jo).map Ma;rw[oq];refine List.map_congr_left λp F=>?_;have:=(kT (hl.mem_iff.mp F)).2;show p.2=Ma (jo p);exact congrArg Prod.snd this
theorem Kl{a:so}{qs:LL}{κ:so->LS}{n:Nat}{P:Fin->F_->Prop}(ho:s.heap.get? a=Sm (seqObj "list" (qs.map Ma).toArray n)) (hT:∀q∈qs,Mv (Mg prog w) s.heap (κ q) q/\κ q≠[]) (hz:qs.length<=L_)
  (h:∀O:LL,O.Perm qs->P (.done (.ret .none)) {s with heap:=sortedHeap s.heap a (qs.map Ma) (O.map Ma).toArray}) :
  G_ (model prog w) A (Mp.«list.sort» #[[.ref a],[]]) P E s:=by
 rw[list_sort_plain];have ha:a<s.heap.objs.size:=yo ho;refine KL (listItems_at ho rfl (KL (listUpdate_at ho rfl ?_)));have W:=get?_update_seq ho (λ_=>#[]);refine KL (seqEpoch_at W rfl (KL (wpAny_newTuple (KL (wpAny_newList (Ms ?_))))));have keep:∀q o,q≠a->s.heap.get? q=Sm o->(((s.heap.update a (MW λ_=>#[])).push (seqObj "tuple" (qs.map Ma).toArray 0)).push (seqObj "list" #[] 0)).get? q=Sm o:=λq o Z e=>
  yK _ (yK _ (by rw[zaZ _ _ (uW Z)];exact e))
 have J:=yK (seqObj "list" #[] 0) (yK (seqObj "tuple" (qs.map Ma).toArray 0) W);have S:∀q∈qs,Mv (Mg prog w) (((s.heap.update a (MW λ_=>#[])).push (seqObj "tuple" (qs.map Ma).toArray 0)).push (seqObj "list" #[] 0)) (κ q) q/\κ q≠[]:=λq Z=>by
  let#[hk,ab]:=hT q Z;refine#[iO hk λo e=>keep q o (λz=>?_) e,ab];revert hk;refine yF3 λo1 _ _=>yB3 λg1 c1 _=>?_;rw[z,ho]at g1;obtain rfl:=Option.some.inj g1;have U:("list" : String) = "tuple" := by injection c1
  exact absurd U ∅
 show G_ (model prog w) A _ P E {s with heap:=((s.heap.update a (MW λ_=>#[])).push (seqObj "tuple" (qs.map Ma).toArray 0)).push (seqObj "list" #[] 0)};have Y:∀F:Mf,(Ml F).Perm (pairsOf (qs.map Ma))->P (.done (.ret .none)) {s with heap:=sortedHeap s.heap a (qs.map Ma) ((Ml F).map (·.2))}:=λF hp=>by
  let#[O,q1,q3]:=Kg hp;rw[q3];exact h O q1
 have ac:(pairsOf (qs.map Ma)).size=qs.length:=by rw[pairsOf_size,ze]
 dsimp only;by_cases U:(qs.map Ma).toArray.size<2
 .rw[KZ U,KZ U];refine KL (KP ?_);rw[StateT.run_pure];refine KL (KP ?_);dsimp only;refine KL (seqEpoch_at J rfl (KL (listUpdate_at J rfl ?_ (hsz2:=by rw[Array.size_map];show (pairsOf (qs.map Ma)).size<=_;lia))));simp only[bne_self_eq_false,td,if_false];exact KP (Y (Mf.mk' general' (pairsOf (qs.map Ma)) #[] 7 Nn) (Array.Perm.refl _))
 .rw[KQ U,KQ U];refine KL (Kq (s:={s with heap:=((s.heap.update a (MW λ_=>#[])).push (seqObj "tuple" (qs.map Ma).toArray 0)).push (seqObj "list" #[] 0)}) S λb=>?_);have hC:kA prog w {s with heap:=((s.heap.update a (MW λ_=>#[])).push (seqObj "tuple" (qs.map Ma).toArray 0)).push (seqObj "list" #[] 0)} (tuples' b) (pairsOf (qs.map Ma)):=λA E x y Q hx hy Z=>by
   let#[x1,x2]:=kT hx;let#[y1,y2]:=kT hy;have e1:x.1 = .ref (jo x):=congrArg Prod.fst x2;have e2:y.1 = .ref (jo y):=congrArg Prod.fst y2;rw[e1,e2];exact zj (S _ x1).1 (S _ y1).1 (Z _)
  refine KL (MQ (Kw (Q:=λ_ F=>(Ml F).Perm (pairsOf (qs.map Ma))/\Nz F=Nn) hC (st:=Mf.mk' (tuples' b) ((qs.map Ma).toArray.zip (qs.map Ma).toArray) #[] 7 Nn) #[Array.Perm.refl _,rfl,rfl] rfl λF a1 a2=>#[a1,a2]) ?_ λ_ _ e=>e);rintro⟨⟨⟩,F⟩ s' ⟨rfl,a1,a2⟩;dsimp only;refine KL (seqEpoch_at J rfl (KL (listUpdate_at J rfl ?_ (hsz2:=by rw[Array.size_map,a1.size_eq];lia))));rw[a2];simp only[bne_self_eq_false,td,if_false];exact KP (Y F a1)
theorem BF{T:String}{r d:so}{n:Nat}{P:Nat->KE->Prop}{OK:Lv->Prop}{Q:LN->F_->Prop}(ab:W.KdlSrc prog w T r d n P OK)(hh:A.handled=Nn)(hok:OK s.heap)(U:OK (s.heap.push {cls:=.type "list",data:=.seq ([]:LN).toArray})) (hr:r<s.heap.objs.size) (hd:d<s.heap.objs.size) (hn:n<=L_)
  (hQ:∀h' S acc,(∀b o,s.heap.get? b=Sm o->h'.get? b=Sm o)->s.heap.objs.size<h'.objs.size->ItemsOf P acc n->Q acc.toList {s with heap:=h',toks:=S}):G_ (model prog w) A (collect (.ref r)) Q E s:=by
 have ext:∀R:M6->F_->Prop,(∀h' S J Y,(∀b o,s.heap.get? b=Sm o->h'.get? b=Sm o)->h'.get? s.heap.objs.size=Sm {cls:=.type "list",dict:=Nn,data:=.seq J Y,slots:=#[]}->ItemsOf P J n->R (.ok (.ret (.ref s.heap.objs.size))) {s with heap:=h',toks:=S})->
   codeAny (model prog w) A (.builtin "proto.collect" #[[.ref r],[]]) R s:=λR hR=>by
  refine Nb F.entry_proto_collect ?_;rw[Jd F.plain_proto_collect _];show G_ _ A.in1 (newList [] >>= λl=>again (.builtin "list.__iadd__" #[[l,.ref r],[]])) _ _ s;refine KL (MA ?_);refine KP #[NF zbe _,Nb F.entry_list_iadd ?_];rw[Jd zbe _];show G_ _ A.in1 (Og (.ref s.heap.objs.size) (.ref r) (.ref s.heap.objs.size)) _ _ _;refine W.kdl_extend (R:=R) (s:={s with heap:=s.heap.push {cls:=.type "list",data:=.seq ([]:LN).toArray}}) ab hh U s.heap.objs.size (II hr) (II hd) _ 0 (xb _ rfl) (λh' S J Y hk O Z=>?_) hn;exact hR h' S J Y (λb o e=>hk b o (xg (yo e)) (yK _ e)) O Z
 unfold collect;refine KL (wpAny_runValue (ext _ λh' S J Y hk O Z=>?_));show G_ _ A (load s.heap.objs.size >>= _) _ _ _;refine KL (wpAny_load O ?_);exact KP (hQ h' S J hk (yo O) Z)
theorem wF{a:so}{qs:LL}{κ:so->LS}{Q:LH}(hh:A.handled=Nn)(hz:qs.length<=L_)(hT:∀q∈qs,Mv (Mg prog w) s.heap (κ q) q/\κ q≠[])
  (U:∀(A:Mc) (E:LH) (R:LN->F_->Prop),A.handled=Nn->(∀h' d' S (rs:LL),(∀b o,s.heap.get? b=Sm o->h'.get? b=Sm o)->s.heap.objs.size<h'.objs.size->rs.Perm qs->R (rs.map Ma) {s with heap:=h',drawn:=d',toks:=S})->G_ (model prog w) A (collect (.ref a)) R E s)
  (hQ:∀h' d' S q c (F:LL),(∀b o,s.heap.get? b=Sm o->h'.get? b=Sm o)->s.heap.objs.size<=q->h'.get? q=Sm (seqObj "list" (F.map Ma).toArray c)->F.Perm qs->Q (.ref q) {s with heap:=h',drawn:=d',toks:=S}) :
  G_ (model prog w) A (call (.builtin "sorted") [.ref a]) Q E s:=by
 refine zbu kind_sorted plain_sorted entry_sorted (args_sorted1 _) ?_;unfold Mp.«sorted»;refine KL (m:=checkCount "sorted" 1 1 _) (KP ?_);refine KL (U _ _ _ hh λh' d' S rs W Y J=>?_);refine KL (wpAny_newList ?_ (by rw[ze,J.length_eq];exact hz));have O:(h'.push (seqObj "list" (rs.map Ma).toArray 0)).get? h'.objs.size=Sm (seqObj "list" (rs.map Ma).toArray 0):=xb _ rfl;show G_ _ _ _ _ _ {s with heap:=h'.push (seqObj "list" (rs.map Ma).toArray 0),drawn:=d',toks:=S};refine KL (Ms (My slot_list_sort #[_,O,rfl] entry_list_sort (Kl (κ:=κ) O (λq hq=>?_) (by rw[J.length_eq];exact hz) λF b1=>#[_,rfl,?_]) (args_list_sort _)))
 .let#[k1,k2]:=hT q (J.mem_iff.mp hq);exact#[iO k1 λo e=>yK _ (W q o e),k2]
 .let#[c,U]:=sortedHeap_at (out:=(F.map Ma).toArray) O;refine KP #[_,rfl,hQ _ d' S h'.objs.size c F (λb o e=>?_) (xE Y) U (b1.trans J)];have Z:=yo (W b o e);rw[sortedHeap_old (xg Z) (by rw[tV];exact Jp Z)];exact yK _ (W b o e)
end
noncomputable def DX(v:V):Int:=match v with
 | .int i=>i
 | _=>0
noncomputable def nj(H:Hp)(q:so):LS:=match H q with
 | some (.tup xs)=>xs.map DX
 | _=>[]
def Ig(K:K_):LM->Hp->VK->Prop:=λxs H Q=>∃(d:so) (kvs:List (List aT×V)),xs=[.ref d]/\H d=Sm (.dT kvs)/\(∀p∈kvs,p.1≠[]/\∃ks:LS,p.1=ks.map Sum.inl)/\kvs.length<=60000/\∀(l:so) (bs bs':LL),H l=Nn->LG (λ(p:List aT×V) b=>H b=Sm (.tup (p.1.map kV))) kvs bs->bs'.Perm bs->Q (.ref l) (upd H l (.lst (bs'.map V.ref)))
def kz(K:K_)(SO:so->LL->HO):LM->Hp->VK->Prop:=λxs H Q=>∃(p:so) (qs:LL) (κ : so->LS),xs=[.ref p]/\H p=Sm (SO p qs)/\qs.length<=60/\(∀q∈qs,su K H q ((κ q).map V.int)/\κ q≠[])/\
 ∀(l:so) (qs':LL),H l=Nn->qs'.Perm qs->Q (.ref l) (upd H l (.lst (qs'.map V.ref)))
section
variable{X:Cx}
theorem yc(K:K_)(hr:Cm m X.A)(hK:X.K=K:=by rfl):B3 X (.builtin "sorted") (Ig K):=by
 subst hK;intro pins s σ H xs us Q I r h;revert h;refine yF2 λd kvs=>yB5 ?_;rintro rfl ed ad hn q;let#[u,rfl,ru]:=dv r;cases ru;refine yA3 (show BD X.prog X.w H s.heap d (.dT kvs) from I.hok d _ ed) λ_ nd=>yF1 λys=>yB2 λab=>yF3 λo es ep=>yB5 λeo ex od he _=>?_;have hs:L_=16777216:=M2;have hl:kvs.length=ys.length:=zaJ ab;have hz:es.size=ys.length:=by rw[<-ui,he,ze]
 have hb:=E4 ab;have hT:∀a∈ys.map (·.2.1),Mv (Mg X.prog X.w) s.heap (nj H a) a/\nj H a≠[]:=λa ha=>by
  let#[j,U,rfl]:=Le.mp ha;have Y:j<kvs.length:=by rw[hl];simpa using U
  have hp:=iC hb (zg Y) (zg U);let#[h1,ks,h2]:=ad _ (xF Y);rw[h2]at hp h1;have e:nj H (ys.map (·.2.1))[j]=ks:=by
   unfold nj;rw[hp];show ((ks.map Sum.inl).map kV).map DX=ks;rw[oq,oq];exact List.map_id ks
  rw[e];refine#[I.tupK (su.of (hp.trans ?_)),λz=>h1 (by rw[z];rfl)];rw[oq];rfl
 refine wF (κ:=nj H) hr.hd (by rw[ze];lia) hT (λA E R hh hR=>?_) λh' d' tk qa c F hk hq hc a1=>?_
 .have Z:G7 s.heap d es ep:=#[o,eo,ex,od];refine BF (FK (es:=es) (ep:=ep) nd) hh Z (Z.by λo e=>yK _ e) (yo eo) (yo eo) () λh' tk acc hk ac J=>?_;have e:acc.toList=(ys.map (·.2.1)).map Ma:=by
   refine List.ext_getElem? λj=>?_;by_cases U:j<ys.length
   .have S:j<acc.size:=by rw[J.1];lia
    let#[e,z1,z2]:=J.2 j acc[j] (la S);rw[<-Ip,he,yf,zg U]at z1;cases z1;rw[Ip,la S,yf,yf,zg U,z2];rfl
   .rw[Js (by rw[ui,J.1];lia),Js (by simp;lia)]
  have:=hR h' s.drawn tk (ys.map (·.2.1)) hk ac (.refl _);rw[<-e]at this;exact this
 .have ag:F.length=ys.length:=by rw[a1.length_eq,ze]
  have O:=I.laid (t':=tk) (a:=qa) (o:=.lst (F.map V.ref)) hk hq (show BD X.prog X.w _ h' _ (.lst (F.map V.ref)) from #[by rw[ze];lia,yI2 (F.map Ma) c #[k5 F,by simpa using hc]]);refine yI2 (.ref qa) _ #[?_,rfl,q _ _ F (I.hok.fresh hq) hb a1];exact#[O.ok,O.os,O.bare,O.base,O.loc,O.cell,O.free,O.freeC,O.pin,O.hok,O.len]
theorem qu(hr:Cm m X.A){K:K_}(hK:X.K=K):B3 X (.builtin "sorted") (kz K (iF X.w)):=by
 subst hK;intro pins s σ H xs us Q I r h;revert h;refine yF3 λp qs κ=>yB5 ?_;rintro rfl e ad hT q;let#[u,rfl,ru]:=dv r;cases ru;refine yE4 ((show BD X.prog X.w H s.heap p (iF X.w p qs) from I.hok p _ e).1) λo es ep t=>yB7 λho hx hd ag hf hg S=>?_;have hz:es.size=qs.length:=by have:=congrArg List.length S;simpa using this
 have hs:L_=16777216:=M2;refine wF (κ:=κ) hr.hd () (λq U=>#[I.tupK (hT q U).1,(hT q U).2]) (λA E R hh hR=>?_) λh' d' tk qa c F hk U hc a1=>?_
 .refine jZ hh ho hx hd hf (by unfold scanBound;lia) hg λh' d' tk acc hk Z Y=>?_;rw[S]at Y;have O:∃rs:LL,rs.Perm qs/\acc=rs.map Ma:=by
   have hv:∀v∈acc,∃q,v=Ma q:=λv hv=>by
    let#[q,_,rfl]:=K3.mp (Y.mem_iff.mp hv);exact#[q,rfl]
   let f:KE->so:=λv=>match v with | .ref q=>q | _=>0
   refine#[acc.map f,?_,?_]
   .have:=Y.map f;rw[oq]at this;have e:(qs.map (f ∘ Ma))=qs:=by rw[show (f ∘ Ma)=id from rfl,List.map_id]
    rw[e]at this;exact this
   .rw[oq];have:acc.map (Ma ∘ f)=acc.map id:=List.map_congr_left λv ab=>by let#[q,rfl]:=hv v ab;rfl
    rw[this,List.map_id]
  let#[rs,ac,rfl]:=O;exact hR h' d' tk rs hk Z ac
 .have hl:F.length<=60:=by rw[a1.length_eq];exact ad
  have J:=I.laid (t':=tk) (a:=qa) (o:=.lst (F.map V.ref)) hk U (show BD X.prog X.w _ h' _ (.lst (F.map V.ref)) from #[by rw[ze];lia,yI2 (F.map Ma) c #[k5 F,by simpa using hc]]);refine yI2 (.ref qa) _ #[?_,rfl,q _ F (I.hok.fresh U) a1];exact#[J.ok,J.os,J.bare,J.base,J.loc,J.cell,J.free,J.freeC,J.pin,J.hok,J.len]
theorem nY(K:K_)(w:Lu)(F:Cm m X.A)(J:X.K=K:=by rfl)(hw:X.w=w:=by rfl):B3 X (.builtin "sorted") (kz K (iF w)):=hw ▸ qu F J
end
theorem X1{K:K_}{H:Hp}{p:so}{xs:List V}{i:Int}{v:V}{R:V->Prop}(h:su K H p xs)(e:cM xs i=Sm v)(k:R v):∃xs v,(ud K H p xs\/su K H p xs)/\cM xs i=Sm v/\R v:=#[xs,v,.inr h,e,k]
theorem X2{K:K_}{H:Hp}{p:so}{xs:List V}{i:Int}{v:V}{R:V->Prop}(h:ud K H p xs)(e:cM xs i=Sm v)(k:R v):∃xs v,(ud K H p xs\/su K H p xs)/\cM xs i=Sm v/\R v:=#[xs,v,.inl h,e,k]
end L2
section
open PySem PySem.Spec PyProof.Rows L2
seal L2.PE L2.PT L2.PW L2.PA L2.PS L2.Hq L2.PG L2.JD L2.HR L2.PI L2.Ib L2.Ge L2.UnR L2.B3 L2.Hw L2.Hr L2.Do L2.PO L2.PPs
local macro_rules | `(tactic| walk_at "z")=>`(tactic| exact fun _ _ _ _ _ _ us hl=>by first | (obtain ⟨_,e⟩:=L2.zu1 us hl;subst e;rfl) | (obtain ⟨_,_,e⟩:=L2.zu2 us hl;subst e;rfl) | (obtain ⟨_,_,_,e⟩:=L2.zu3 us hl;subst e;rfl) | (obtain ⟨_,_,_,_,e⟩:=L2.zu4 us hl;subst e;rfl) | (obtain ⟨_,_,_,_,_,e⟩:=L2.zu5 us hl;subst e;rfl))
local macro_rules | `(tactic| walk_at "v")=>`(tactic| exact fun _ _ _ _ h=>by repeat first | (obtain ⟨e,_⟩:=h;subst e;exact rfl) | obtain ⟨_,h⟩:=h)
local macro_rules | `(tactic| walk_at "r")=>do
 let f:=λ(p:Lean.Name) (s:String)=>(s.splitOn " ").toArray.mapM λx=>`(Lean.Parser.Tactic.simpLemma| $(Lean.mkCIdent (p++x.toName)):term)
 `(tactic| try simp only [$((<-f `L2 "wZ nN lS ut wv wn rL v7 uM w9 sK vG wK vB El zA A0 tN EC wD Bh vY Ba zv sy wX vU wO ux Bj v3 qT tF qp lO rS zK r_ nH t0 v1 wa uV tS wM se vZ rP tH qf tz tG u0 uk ww qZ z9 Ei pZ pU kP pS qr wY tm rO ph vQ ED nv uI uU qV ur lX lY pE qg rJ tT rA nM ul vV wI qo qe gJ vn pV rB sf ub uO uo vA wC v6 start V.int.injEq V.ref.injEq V.str.injEq V.bl.injEq zY v4")++(<-f .anonymous "List.map_cons List.map_nil List.length_cons List.length_nil List.replicate List.cons_append List.nil_append List.append_nil List.getElem?_cons_zero List.getElem?_cons_succ List.set_cons_zero List.set_cons_succ Nat.reduceAdd Nat.reduceSub Option.some.injEq exists_eq_left' exists_eq_left and_true true_and decide_eq_true_eq Bool.not_true Bool.not_false if_true Bool.false_eq_true if_false ite_true ite_false")),*])
local macro_rules | `(tactic| walk_at "g")=>`(tactic| (generalize hG:upd _ _ _=HG; have sG:=FY hG (by assumption); have eG:=Kh hG; clear hG))
local macro_rules | `(tactic| walk_at "n")=>`(tactic| ((first | rw [og] | (dsimp only; rw [og])); walk_at "r"))
local macro_rules | `(tactic| walk_at "lk")=>`(tactic| repeat (first | exact Gx | exact Jt | rw [E_ (by decide +kernel)]))
local macro_rules | `(tactic| walk_at "pf")=>`(tactic| repeat (first | rw [putF_hit] | rw [Dn] | rw [zU (by decide +kernel)]))
namespace K56
open PySem L2
variable{α:Type}{i d n a l m j N:Nat}{S:so->Prop}{H H':Hp}{p q J:so}{xs:LM}{o:HO}{K:K_}{ws nm:LI}{y:Str}{ts:LJ}{sd:Int}
abbrev wAK(mg:Str->Option KE):=mg "len"=Nn
variable{P:Lw}{w:Lu}{K:K_}{mg:Str->LO}{base:Lv}
noncomputable abbrev qAA:List Str:=["_law_code_here","_law_rule_here","_law_come_here","_law_rows","_law_waiting","_law_at","_law_here","_law_token","_law_found","_law_behind_here"]
noncomputable abbrev qAB:List Str:=["_law_script","_law_second","_law_words_here","_law_cells","_law_sides","_law_rule_here","_law_code_here","_law_come_here","_law_paper","_law_tokens","_law_known","_law_token"]
noncomputable abbrev qAC:List Str:=["_law_script","_law_start","_law_sides","_law_words_here","_law_first","_law_second","_law_names","_law_program_here"]
noncomputable abbrev qAD:List Str:=["_law_cell","_law_many","_law_letters","_law_size","_law_at","_law_rest","_law_base","_law_k","_law_words_here"]
noncomputable abbrev qAE:List Str:=["code","rule","found","waiting","at","place"]
noncomputable abbrev qAF:List Str:=["_law_rule_here","_law_row","_law_token"]
noncomputable abbrev qAG:List Str:=["open","lend","back","end"]
noncomputable abbrev qAH:List Str:=["_law_rule_here","_law_room_here","_law_text"]
noncomputable abbrev qAI:List Str:=["code","rule","at","token","row","count","behind","room"]
noncomputable abbrev qAJ:List Str:=["one","other","tokens","unlike"]
noncomputable abbrev qAK:List Str:=["steps","at","slots","turned"]
noncomputable abbrev qAL:List Str:=["_law_cells","_law_names","_law_words_here","_law_lends","_law_deep"]
noncomputable abbrev qAM:List Str:=["step","at","slots","turned"]
noncomputable abbrev qAN:List Str:=["_law_script","_law_start","_law_sides","_law_words_here"]
noncomputable abbrev qAO:List Str:=["_law_tokens","_law_rows","_law_come_here","_law_waiting"]
noncomputable abbrev qAP:List Str:=["program","lines","step","block","closer"]
noncomputable abbrev qAQ:List Str:=["_law_cells","_law_sides","_law_words_here","_law_most"]
noncomputable abbrev qAR:List Str:=["code","rule","at","token"]
noncomputable abbrev qAS:List Str:=["slot","held"]
noncomputable abbrev qAT:List Str:=["self","head","lines","blocks"]
noncomputable abbrev qAU:List Str:=["steps","line"]
noncomputable abbrev qAV:List Str:=["_law_row","_law_token","_law_sides"]
noncomputable abbrev qAW:List Str:=["_law_pile","_law_step_here"]
noncomputable abbrev qAX:List Str:=["_law_held","_law_slot"]
noncomputable abbrev qAY:List Str:=["_law_cell","_law_names","_law_words_here"]
noncomputable abbrev qAZ:List Str:=["_law_rule_here","_law_row","_law_tokens"]
noncomputable abbrev qAa:List Str:=["_law_script","_law_k"]
noncomputable abbrev qAb:List Str:=["row","token","slot","word"]
noncomputable abbrev qAc:List Str:=["code","rule","at","tokens"]
noncomputable abbrev qAd:List Str:=["_law_code_here","_law_at"]
noncomputable abbrev qAe:List Str:=["open","copy","drop"]
noncomputable abbrev qAf:List Str:=["row","token"]
noncomputable abbrev qAg:List Str:=["_law_code_here","_law_rule_here"]
noncomputable abbrev qAh:List Str:=["_law_cell","_law_many"]
noncomputable abbrev qAi:List Str:=["_law_row","_law_held"]
noncomputable abbrev qAj:List Str:=["step","slots","line"]
noncomputable abbrev qAk:List Str:=["rule","room","text"]
noncomputable abbrev qAl:List Str:=["rule","row","token"]
noncomputable abbrev qAm:List Str:=["lend","if","while"]
noncomputable abbrev qAn:List Str:=["one","other","tokens","unlike","token"]
noncomputable abbrev qAo:List Str:=["program","turned"]
noncomputable abbrev qAp:List Str:=["found","rows","tokens"]
noncomputable abbrev qAq:List Str:=["rule","slot","tokens"]
noncomputable abbrev qAr:List Str:=["one","other","tokens"]
noncomputable abbrev qAs:List Str:=["open","do","copy","drop","tie"]
noncomputable abbrev qAt:List Str:=["rule","room","row"]
noncomputable abbrev qAu:List Str:=["step","at","slots"]
noncomputable abbrev qAv:List Str:=["name","name"]
noncomputable abbrev qAw:List Str:=["row","held"]
noncomputable abbrev qAx:List Str:=["1.end","2.end"]
noncomputable abbrev qAy:List Str:=["2.end","1.end"]
noncomputable abbrev dz:L6:=top 1
theorem GW:aE ["rule","room","text","words"] qAk (rd dz):=DG
abbrev IP (s : L6) (n : Str) : Prop:=(rd s).names.lookup n=Sm .globalImplicit
theorem oIn {a b : Prop} (h : a) : a \/ b:=.inl h
noncomputable abbrev cV:L6:=top 2
theorem Gu:aE ["rule","room","row","text"] qAt (rd cV):=DG
noncomputable abbrev jF:L6:=top 4
theorem BJ:aE qAS qAS (rd jF):=DG
noncomputable abbrev iq:L6:=top 5
theorem yb:aE qAS qAS (rd iq):=DG
noncomputable abbrev dj:L6:=top 6
theorem ox:aE qAw qAw (rd dj):=DG
noncomputable abbrev fM:L6:=top 7
theorem tI:aE ["token"] ["token"] (rd fM):=DG
noncomputable abbrev gv:L6:=top 8
theorem ve:aE ["token"] ["token"] (rd gv):=DG
noncomputable abbrev bu:L6:=top 9
theorem Gq:aE qAb qAf (rd bu):=DG
theorem KR:ap (rd bu) "token" := Or.inr (Or.inl ⋯)
theorem Rv:ap (rd bu) "slot" := Or.inr (Or.inl ⋯)
theorem Qx:aK (rd bu) "slot" := Or.inr ⋯
theorem Q2:ap (rd bu) "word" := Or.inr (Or.inl ⋯)
theorem QO:aK (rd bu) "word" := Or.inr ⋯
noncomputable abbrev ef:L6:=top 10
theorem va:aE qAf qAf (rd ef):=DG
noncomputable abbrev c_:L6:=top 11
theorem n9:aE qAl qAl (rd c_):=DG
noncomputable abbrev bb:L6:=top 12
theorem B1:aE ["rule","slot","tokens","new","room","begun","token","held"] qAq (rd bb):=DG
noncomputable abbrev aW:L6:=top 13
theorem GE:aE qAJ qAr (rd aW):=DG
theorem Re:(rd aW).names.lookup ("unlike" : Str)=Sm .local:=⋯
noncomputable abbrev bS:L6:=top 14
theorem Dq:aE ["code","rule","at","tokens","row","begun"] qAc (rd bS):=DG
noncomputable abbrev bf:L6:=top 15
theorem Du:aE qAI qAR (rd bf):=DG
theorem Ja:ap (rd bf) "row" := Or.inr (Or.inl ⋯)
theorem Qu:aK (rd bf) "row" := Or.inr ⋯
noncomputable abbrev cK:L6:=top 16
theorem GK:aE ["code","at","row"] ["code","at"] (rd cK):=DG
noncomputable abbrev cR:L6:=top 18
theorem GT:aE ["code","rule","at","token","begun","behind"] qAR (rd cR):=DG
noncomputable abbrev fV:L6:=top 19
theorem Hk:aE ["found","rows","tokens","new","at","token"] qAp (rd fV):=DG
noncomputable abbrev bj:L6:=top 20
theorem Dk:aE qAE ["code","rule"] (rd bj):=DG
theorem Rh:(rd bj).names.lookup ("found" : Str)=Sm .local:=⋯
theorem QE:IP bj "range":=⋯
noncomputable abbrev fw:L6:=top 24
theorem qD:aE ["kind"] ["kind"] (rd fw):=DG
noncomputable abbrev gf:L6:=top 25
theorem xJ:aE ["step"] ["step"] (rd gf):=DG
abbrev eX:L6:=top 26
theorem rY:aE ["step"] ["step"] (rd eX):=DG
noncomputable abbrev bP:L6:=top 27
theorem CA:aE ["program","steps","step","block"] ["program"] (rd bP):=DG
noncomputable abbrev b9:L6:=top 28
theorem F6:aE ["steps","names","step","part","kind"] ["steps"] (rd b9):=DG
theorem M_:IP b9 "zip":=⋯
abbrev bA:L6:=top 29
theorem Dj:aE qAP ["program"] (rd bA):=DG
theorem PP:IP bA "zip":=⋯
abbrev fC:L6:=top 30
theorem vh:aE ["program"] ["program"] (rd fC):=DG
abbrev bm:L6:=inClass (top 32) 0
theorem i8:aE qAT qAT (rd bm):=DG
noncomputable abbrev dH:L6:=top 33
theorem oI:aE qAU qAU (rd dH):=DG
noncomputable abbrev ba:L6:=top 34
theorem B9:aE ["step","line","lines","blocks","block","steps"] ["step","line"] (rd ba):=DG
noncomputable abbrev bL:L6:=top 35
theorem CW:aE ["steps","line","numbered","step"] qAU (rd bL):=DG
noncomputable abbrev bW:L6:=top 37
theorem qw:aE ["program"] ["program"] (rd bW):=DG
theorem NX:IP bW "enumerate":=⋯
noncomputable abbrev cC:L6:=top 38
theorem Gj:aE ["program","slots","slot","holder"] ["program"] (rd cC):=DG
theorem NK:IP cC "enumerate":=⋯
abbrev bR:L6:=top 39
theorem GO:aE qAj ["step","slots"] (rd bR):=DG
theorem Ld:ap (rd bR) "slots" := Or.inr (Or.inl ⋯)
abbrev bn:L6:=top 40
theorem B8:aE ["step","at","slots","turned","line","back","giver","taker","lent","ahead","within"] qAM (rd bn):=DG
noncomputable abbrev bM:L6:=top 41
theorem Ep:aE ["step","at","slots","turned","more","jump","rest","behind","test"] qAM (rd bM):=DG
noncomputable abbrev ck:L6:=top 42
theorem Gy:aE ["step","at","slots","within","behind"] qAu (rd ck):=DG
noncomputable abbrev bF:L6:=top 43
theorem F4:aE ["step","at","slots","turned","first","loop","behind"] qAM (rd bF):=DG
abbrev bV:L6:=top 44
theorem Gd:aE ["steps","at","slots","turned","rows","step","place"] qAK (rd bV):=DG
noncomputable abbrev bY:L6:=top 45
theorem GD:aE ["program","turned","steps"] qAo (rd bY):=DG
noncomputable abbrev ie:L6:=top 46
theorem xx:aE ["program"] ["program"] (rd ie):=DG
noncomputable abbrev eQ:L6:=top 47
theorem o0:aE ["program"] ["program"] (rd eQ):=DG
noncomputable abbrev dF:L6:=top 49
theorem oJ:aE qAa qAa (rd dF):=DG
noncomputable abbrev aZ:L6:=top 50
theorem BR:aE qAD qAh (rd aZ):=DG
theorem MY:aK (rd aZ) "_law_letters" := Or.inr ⋯
theorem MJ:aK (rd aZ) "_law_at" := Or.inr ⋯
theorem Lz:ap (rd aZ) "_law_base" := Or.inr (Or.inl ⋯)
theorem NP:aK (rd aZ) "_law_base" := Or.inr ⋯
theorem JQ:aK (rd aZ) "_law_k" := Or.inr ⋯
theorem CS:IP aZ "range":=⋯
noncomputable abbrev bQ:L6:=top 51
theorem Co:aE ["_law_cell","_law_names","_law_words_here","_law_x","_law_y","_law_word","_law_bound","_law_some"] qAY (rd bQ):=DG
noncomputable abbrev ij:L6:=top 52
theorem xK:aE qAW qAW (rd ij):=DG
noncomputable abbrev cy:L6:=top 53
theorem Dp:aE ["_law_pile","_law_head","_law_first","_law_second","_law_side"] ["_law_pile"] (rd cy):=DG
noncomputable abbrev bq:L6:=top 54
theorem C4:aE ["_law_cells","_law_names","_law_words_here","_law_lends","_law_deep","_law_pile","_law_cell","_law_step_here"] qAL (rd bq):=DG
noncomputable abbrev aY:L6:=top 55
theorem Bs:aE ["_law_cells","_law_sides","_law_words_here","_law_most","_law_texts_here","_law_k","_law_bits","_law_many","_law_share","_law_rooms","_law_rest","_law_room_here","_law_text","_law_digit"] qAQ (rd aY):=DG
theorem Gw:IP aY "range":=⋯
abbrev h_:L6:=top 56
theorem zi:aE qAX qAX (rd h_):=DG
noncomputable abbrev b8:L6:=top 57
theorem DC:aE ["_law_row","_law_held","_law_rest"] qAi (rd b8):=DG
noncomputable abbrev fB:L6:=top 58
theorem vd:aE qAH qAH (rd fB):=DG
noncomputable abbrev dN:L6:=top 59
theorem q_:aE qAV qAV (rd dN):=DG
noncomputable abbrev cL:L6:=top 60
theorem Gp:aE ["_law_rule_here","_law_row","_law_token","_law_room_here","_law_text"] qAF (rd cL):=DG
noncomputable abbrev bX:L6:=top 61
theorem F0:aE ["_law_rule_here","_law_row","_law_token","_law_first","_law_room_here"] qAF (rd bX):=DG
noncomputable abbrev bI:L6:=top 62
theorem Cr:aE ["_law_rule_here","_law_row","_law_tokens","_law_room_here","_law_found","_law_token","_law_old"] qAZ (rd bI):=DG
noncomputable abbrev fU:L6:=top 63
theorem qW:aE qAd qAd (rd fU):=DG
noncomputable abbrev bv:L6:=top 64
theorem Dm:aE qAC qAN (rd bv):=DG
abbrev cg:L6:=top 65
theorem Gc:aE ["_law_tokens","_law_rows","_law_come_here","_law_waiting","_law_to","_law_token"] qAO (rd cg):=DG
abbrev aO:L6:=top 66
theorem BC:aE qAA qAg (rd aO):=DG
theorem Rt:(rd aO).names.lookup ("_law_come_here" : Str)=Sm .local:=⋯
theorem tR:ap (rd aO) "_law_rows" := Or.inr (Or.inl ⋯)
theorem HV:aK (rd aO) "_law_rows" := Or.inr ⋯
abbrev bx:L6:=top 67
theorem F8:aE qAB ["_law_script"] (rd bx):=DG
theorem Jo:ap (rd bx) "_law_script" := Or.inr (Or.inl ⋯)
theorem Q0:(rd bx).names.lookup ("_law_cells" : Str)=Sm .local:=⋯
theorem Pm:IP bx "range":=⋯
theorem O_:IP bx "zip":=⋯
noncomputable def bH(k:Str):LI:=if k = "lend" then ["back"] else if k = "if" then ["else","fi"] else if k = "while" then ["done"] else []
def kI:V->Str->Prop
 | .str y,x=>x=y
 | .int i,x=>i.natAbs.log2<1920/\x=Str.ofString (toString i)
 | _,_=>False
noncomputable def cf:List LI->LI->LI
 | i::is,c::cs=>(i++[c])++cf is cs
 | _,_=>[]
structure IU (LA:so->LI->Prop) (H:Hp) (a:so) (kind:Str) (hs:LM) (ws:LI) (bs:LL) (ins:List LI):Prop where
 at':H a=Sm (.tup (.str kind::hs++bs.map V.ref))
 parts:LG kI hs ws
 size:((kind::ws).map (·.length)).sum+(kind::ws).length<=10000
 bl:bs.length=(bH kind).length
 inn:LG LA bs ins
def mW(LA:so->LI->Prop)(H:Hp)(a:so)(ls:LI):Prop:=∃kind hs ws bs ins,IU LA H a kind hs ws bs ins/\ls=Mj " " (kind::ws)::cf ins (bH kind)
def DD:Nat->Hp->so->LI->Prop
 | 0=>λ_ _ _=>False
 | d+1=>λH p L=>∃(as:LL) (Ls:List LI),H p=Sm (.lst (as.map V.ref))/\LG (mW (DD d H) H) as Ls/\L=Ls.flatten
theorem DD.mono:∀(d:Nat) {H H':Hp} {p:so} {L:LI},DD d H p L->sg H H'->DD d H' p L
 | 0,_,_,_,_,h,_=>h.elim
 | d+1,H,H',p,L,⟨as,Ls,h1,h2,h3⟩,sm=>by
  refine yI2 as Ls #[sm _ _ h1,LG.imp' (λa S z=>?_) h2,h3];revert z;refine yF5 λkind O ws bs ins=>yB2 λF J=>?_;exact yI5 kind O ws bs ins #[#[sm _ _ F.at',F.parts,F.size,F.bl,LG.imp' (λb i y=>DD.mono d y sm) F.inn],J]
theorem cP{α β : Type}{R:α->β->Prop}:∀ {xs:List α} {ys:List β} {i:Nat} {x:α},LG R xs ys->xs[i]?=Sm x->∃y,ys[i]?=Sm y/\R x y
 | _,_,_,_,.nil,e=>by simp at e
 | _,_,0,_,.cons (b:=b) h _,e=>#[b,rfl,by have:=Option.some.inj e;subst this;exact h]
 | _,_,i+1,_,.cons _ t,e=>by
  rw[zaR]at e;let#[y,h1,h2]:=cP t e;exact#[y,by rw[zaR];exact h1,h2]
theorem aQ{α β : Type}{R:α->β->Prop}:∀ {xs:List α} {ys:List β},LG R xs ys->xs.length=ys.length
 | _,_,.nil=>rfl
 | _,_,.cons _ t=>by rw[ye,ye,aQ t]
theorem lW:∀ {ins:List LI} {cs:LI} {j:Nat} {i:LI} {c:Str},ins[j]?=Sm i->cs[j]?=Sm c->cf (ins.take (j+1)) (cs.take (j+1))=cf (ins.take j) (cs.take j)++(i++[c])
 | [],_,_,_,_,h,_=>by simp at h
 | _::_,[],_,_,_,_,h=>by simp at h
 | a::ins,b::cs,0,i,c,h,h'=>by
  have F:a=i:=by simpa using h
  have J:b=c:=by simpa using h'
  subst F J;show (a++[b])++cf [] []=cf [] []++(a++[b])
  simp[cf]
 | a::ins,b::cs,j+1,i,c,h,h'=>by
  have ih:=lW (ins:=ins) (cs:=cs) (j:=j) (i:=i) (c:=c) (by simpa using h) (by simpa using h');show (a++[b])++cf (ins.take (j+1)) (cs.take (j+1))=((a++[b])++cf (ins.take j) (cs.take j))++(i++[c])
  rw[ih,uP (a++[b])]
theorem nE:∀ {ins:List LI} {cs:LI} (j:Nat),(cf (ins.take j) (cs.take j)).length<=(cf ins cs).length
 | [],_,j=>by simp[cf]
 | _::_,[],j=>by cases j<;>simp[cf]
 | a::ins,b::cs,0=>by simp[cf]
 | a::ins,b::cs,j+1=>by
  have ih:=nE (ins:=ins) (cs:=cs) j;show ((a++[b])++cf (ins.take j) (cs.take j)).length<=((a++[b])++cf ins cs).length;simp only[jn];lia
theorem nU{α:Type}:∀(F:List (List α)) (i:Nat),(F.take i).flatten.length<=F.flatten.length
 | [],i=>'~'
 | a::F,0=>'~'
 | a::F,i+1=>by
  have ih:=nU F i;rw[JP,List.flatten_cons,List.flatten_cons,jn,jn];lia
theorem AC{F:List (List α)}{l:List α}(h:F[i]?=Sm l):(F.take (i+1)).flatten=(F.take i).flatten++l:=by
 rw[rT,h,List.flatten_append];simp
def kK(K:K_):Sp:=λvs H Q _=>∃k:Str,vs=[.str k]/\∀(p:so) (H':Hp),sg H H'->su K H' p ((bH k).map V.str)->Q (.ref p) H'
def kO(K:K_):Sp:=λvs H Q _=>∃(a:so) (k:Str) (xs:LM),vs=[.ref a]/\su K H a (.str k::xs)/\(bH k).length<=xs.length+1/\
 ∀(p:so) (H':Hp),sg H H'->su K H' p ((V.str k::xs).take (xs.length+1-(bH k).length))->Q (.ref p) H'
def jd(K:K_):Sp:=λvs H Q _=>∃(a:so) (k:Str) (xs:LM),vs=[.ref a]/\su K H a (.str k::xs)/\(bH k).length<=xs.length+1/\
 ∀(p:so) (H':Hp),sg H H'->su K H' p ((V.str k::xs).drop (xs.length+1-(bH k).length))->Q (.ref p) H'
def wG(d:Nat):Sp:=λvs H Q _=>∃(p:so) (L:LI),vs=[.ref p]/\DD d H p L/\L.length<=10000/\∀(q:so) (H':Hp),sg H H'->H q=Nn->H' q=Sm (.lst (L.map V.str))->Q (.ref q) H'
theorem x6(D:xn K mg "closers_of" fw) {d a0 a1 a2:so} (J:mg "CLOSERS" = Sm (.ref d)) (m:Hc w K d [("lend",.ref a0),("if",.ref a1),("while",.ref a2)])
  (W:∀H:Hp,su K H a0 [.str "back"]) (O:∀H:Hp,su K H a1 [.str "else",.str "fi"]) (Z:∀H:Hp,su K H a2 [.str "done"]):aH P w K mg base 1 "closers_of" ["kind"] (kK K):=by
 refine D.cal qD (λf Y A outer s H vs Q E hr h=>?_);let#[k,rfl,q]:=h;refine#[_,(aj (aA (JA w K F.plainAttrs_dict F.slot_dict_get F.type_dict_get (FW w K) (wk J) (aa (pv 0) (aa (aN ae) ae))))),?_];cbv;refine#[yI2 d _ #[rfl,m],∅,λp S=>?_];refine yI4 d _ k (.ref p) #[rfl,rfl,m,?_];have sm:=ak S (.tup []);unfold bH at q;by_cases h0:k = "lend"
 .subst h0;exact q _ _ sm (W _)
 rw[KQ h0]at q;by_cases h1:k = "if"
 .subst h1;exact q _ _ sm (O _)
 rw[KQ h1]at q;by_cases h2:k = "while"
 .subst h2;exact q _ _ sm (Z _)
 rw[KQ h2]at q;have e:bU [(("lend" : Str),V.ref a0),("if",.ref a1),("while",.ref a2)] k=Nn:=by simp[bU,uW h0,uW h1,uW h2]
 rw[e];exact q _ _ sm (su.of ai)
theorem FO(D:xn K mg "head_of" gf) (J:wAK mg) (F:aH P w K mg base 1 "closers_of" ["kind"] (kK K)):aH P w K mg base 2 "head_of" ["step"] (kO K):=by
 refine D.cal xJ (λf ab A outer s H vs Q E W h=>?_);revert h;refine yF3 λa k xs=>yB4 ?_;rintro rfl S hl q;refine#[_,(aj (aA (fe (gY K) (pv 0) gS (fG (ar fR (br (aU K) J bG (aa (pv 0) ae)) (br (aU K) J bG (aa (ax F W (aa (am (au K) (pv 0) af) ae)) ae))))))),?_];cbv;refine#[_,.inr S,?_];refine yI2 _ _ #[.inr S,ke,?_];refine#[k,rfl,λp H1 O Y=>?_];cbv;refine#[_,.inr Y,?_];cbv;have e:((xs.length+1:Nat):Int)-((((bH k).map V.str).length:Nat):Int)=((xs.length+1-(bH k).length:Nat):Int):=by
  rw[ze];lia
 rw[e];refine ga (S.same O) λp2 H2 U h2=>q p2 H2 (O.trans U) ?_;rw[v0]at h2;exact h2
theorem zS(D:xn K mg "blocks_of" eX) (J:wAK mg) (F:aH P w K mg base 2 "head_of" ["step"] (kO K)):aH P w K mg base 3 "blocks_of" ["step"] (jd K):=by
 refine D.cal rY (λf ab A outer s H vs Q E W h=>?_);revert h;refine yF3 λa k xs=>yB4 ?_;rintro rfl U hl q;refine#[_,(aj (aA (fe (gY K) (pv 0) (fG (br (aU K) J bG (aa (ax F W (aa (pv 0) ae)) ae))) gS))),?_];cbv;refine yI3 a k xs #[rfl,U,hl,λp H1 O Y=>?_];cbv;refine#[_,.inr Y,?_];have e:(((V.str k::xs).take (xs.length+1-(bH k).length)).length:Int)=((xs.length+1-(bH k).length:Nat):Int):=by
  rw[sQ,ye];lia
 rw[e];refine ga (U.same O) λp2 H2 S h2=>q p2 H2 (O.trans S) ?_;rw[jl]at h2;exact h2
theorem rW(D:xn K mg "lines_of" bA) (ad:mg "str" = Nn) (ac:mg "zip" = Nn) (J:aH P w K mg base 1 "closers_of" ["kind"] (kK K)) (S:aH P w K mg base 2 "head_of" ["step"] (kO K)) (O:aH P w K mg base 3 "blocks_of" ["step"] (jd K)) :
  ∀d:Nat,aH P w K mg base (d+4) "lines_of" ["program"] (wG d)
 | 0=>D.cal (k:=3) Dj (λf c5 A outer s H vs Q E hr h=>by revert h;refine yF2 λp L=>yB3 ?_;rintro rfl z _;exact z.elim)
 | d+1=>by
  have U:=rW D ad ac J S O d;refine D.cal (k:=d+4) Dj (λf c5 A outer s H vs Q E hr h=>?_);revert h;refine yF2 λp L=>yB4 ?_;rintro rfl ⟨as,Ls,h1,h2,rfl⟩ hL q;have dV:=aQ h2;refine⟨_,(ah (av 1 Dj.nd (aI ae))
   (ah (bT xm rfl (bJ K (pv 0)) (aV 2 Dj.nd) (ah (bo (bB K xl mB mF bw (pv 1) (aa (bB K zbv F.slot_str_join F.type_str_join (si K) ay (aa (eV (C5.to (fsc:=(rd bA)) (N:=qAP) (N0:=qAP) (T:=["part"])) rfl (iH K (ax S hr (aa (pv 2) ae) (hle:=()))) (λ_ _ _ _=>(aV 5 (show (["program","lines","step","block","closer","part"]:LI).Nodup from ⋯))) (cN (show (qAP:LI).length<=5 from ∅)) (λ_ _ _ _=>eJ) (λ_ _ _ _=>(fS An ad Ir (aa (pv 5) ae)))) ae)) ae)))
   (aj (bT xm rfl (we K PP ac (aa (ax O hr (aa (pv 2) ae) (hle:=())) (aa (ax J hr (aa (am (au K) (pv 2) af) ae) (hle:=())) ae))) (iM K (n:=2) (cG (aV 3 Dj.nd) (cG (aV 4 Dj.nd) gT))) (ah (bo (bB K xl KJ KG eI (pv 1) (aa (ax U hr (aa (pv 3) ae) (hle:=())) ae)))
   (aj (bo (bB K xl mB mF bw (pv 1) (aa (pv 4) ae)))))))))
   (aj (aA (pv 1))))),?_⟩
  cbv;refine#[∅,λlp a4=>?_];∎;rename_i H1 sm1 e1;rw?;refine#[#[_,ud.of (sm1 _ _ h1)],?_];refine b6 (xs:=as.map V.ref) (λi σ H'=>∃o2 o3 o4:LR,σ=[Sm (.ref p),Sm (.ref lp),o2,o3,o4]/\sg H H'/\H' lp=Sm (.lst ((Ls.take i).flatten.map V.str)))
   (yI3 Nn Nn Nn #[rfl,sm1,e1]) (λi σ H' _ h=>by revert h;refine yF3 λ_ _ _=>yB3 λ_ sm _=>?_;exact ud.of (sm _ _ h1)) ?_ ?_
  .intro i v σ H' hv;refine yF3 λo2 o3 o4=>yB3 ?_;rintro rfl sm hl;have hi:i<as.length:=by have:=(KO.mp hv).1;simpa using this
   rw[yf,zg hi]at hv;cases hv;refine yE1 (cP h2 (zg hi)) λls=>yB2 λcB=>yF5 λkind W ws bs ins=>yB2 ?_;rintro st rfl;have ag:=AC cB;have b2:=nU Ls (i+1);rw[ag]at b2 |-
   generalize (Ls.take i).flatten=pre at hl b2 ag |-;rw[jn,ye]at b2
   have da:su K H' as[i] (.str kind::(W++bs.map V.ref)):=su.of (sm _ _ st.at');have cc:(bH kind).length<=(W++bs.map V.ref).length+1:=by rw[jn,ze,st.bl];lia
   have bc:(W++bs.map V.ref).length+1-(bH kind).length=W.length+1:=by rw[jn,ze,st.bl];lia
   have dm:=aQ st.parts;have hsz:=st.size;cbv;refine#[#[_,ud.of hl],yI3 (as[i]) kind (W++bs.map V.ref) #[rfl,da,cc,λhp H2 dl a9=>?_]];rw[bc]at a9;have dt:(V.str kind::(W++bs.map V.ref)).take (W.length+1)=V.str kind::W:=by rw[JP,List.take_left'];rfl
   rw[dt]at a9;cbv;refine#[#[_,a9],λC hC=>?_];refine kJ (xs:=V.str kind::W) (λj ys H3=>sg H2 H3/\H3 C=Sm (.lst ys)/\ys=((kind::ws).take j).map V.str) #[ak hC _,ai,rfl] (λj ys H3 _ h=>a9.same h.1) ?_ ?_
   .rintro j ys H3 x hx hj ⟨bt,b1,rfl⟩;let#[y,hy,ab]:=cP (R:=kI) (.cons (show kI (.str kind) kind from rfl) st.parts) hx;have c1:j<(kind::ws).length:=(KO.mp hy).1;have cv:jQ (V.str kind::W).length j (λj ys H3=>sg H2 H3/\H3 C=Sm (.lst ys)/\ys=((kind::ws).take j).map V.str) C (((kind::ws).take j).map V.str) (.str y) H3:=by
     refine iD hj (by rw[ze,sQ];lia) (aJ (by simp only[ye]at hsz c1 |-;lia)) b1 #[bt.upd hC _,ai,?_];rw[rT,hy,yH];rfl
    match x,ab with
    | .str z,ab=>
     have e:y=z:=ab;subst e;cbv;exact cv
    | .int z,ab=>
     let#[g1,rfl]:=ab;cbv;exact#[g1,cv]
   rintro ys H3 ⟨bt,b1,rfl⟩;have b4:H3 C=Sm (.lst ((kind::ws).map V.str)):=by
    rw[b1,ye,dm,HS '~']
   have cn:=dl.trans bt;have dP:(Str.ofString " ").length=1:=∅;cbv;refine#[kind::ws,ud.of b4,by rw[dP];lia,?_];refine#[_,cn _ _ hl,by rw[ze];exact cI (),?_];generalize hH4:upd H3 lp _=H4;have cb:sg H H4:=λb o e=>by
    have nb:b≠lp:=λz=>by subst z;rw[a4]at e;cases e
    rw[<-hH4,aw nb];exact cn _ _ (sm _ _ e)
   have e4:H4 lp=Sm (.lst ((pre++[Mj " " (kind::ws)]).map V.str)):=by rw[<-hH4,ai,yH];rfl
   have bg:su K H4 as[i] (.str kind::(W++bs.map V.ref)):=su.of (cb _ _ st.at');rw?;refine yI3 (as[i]) kind (W++bs.map V.ref) #[rfl,bg,cc,λbp H5 cd a6=>?_];rw[bc]at a6;have c2:(V.str kind::(W++bs.map V.ref)).drop (W.length+1)=bs.map V.ref:=by rw[List.drop_succ_cons,List.drop_left'];rfl
   rw[c2]at a6;cbv;refine yI2 _ _ #[.inr (bg.same cd),ke,kind,rfl,λcp H6 b0 ca=>?_];cbv;refine#[#[_,a6.same b0],#[_,ca],?_];have bh:=cd.trans b0;have d3:=aQ st.inn;have c9:=st.bl;refine pL (xs:=bs.map V.ref) (ys:=(bH kind).map V.str) (λj σ H'=>∃o3 o4:LR,σ=[Sm (.ref p),Sm (.ref lp),Sm (.ref as[i]),o3,o4]/\sg H H'/\su K H' bp (bs.map V.ref)/\su K H' cp ((bH kind).map V.str)/\
     H' lp=Sm (.lst ((pre++([Mj " " (kind::ws)]++cf (ins.take j) ((bH kind).take j))).map V.str)))
    (by rw[ze,ze];exact c9) (yI2 o3 o4 #[rfl,cb.trans bh,a6.same b0,ca,by rw[bh _ _ e4];simp[cf]]) (λj σ H' _ h=>by revert h;refine yF2 λ_ _=>yB5 λ_ _ z1 z2 _=>?_;exact#[z1,z2]) ?_ ?_
   .intro j x y t σ H7 hx hy;refine yF2 λo3 o4=>yB5 ?_;rintro rfl a7 c4 c3 a8;intro ht;have hj:j<bs.length:=by have:=(KO.mp hx).1;simpa using this
    have cz:j<(bH kind).length:=()
    rw[yf,zg hj]at hx;cases hx;rw[yf,zg cz]at hy;cases hy;let#[il,ce,cA]:=cP st.inn (zg hj);have cm:=lW ce (zg cz);have a3:=nE (ins:=ins) (cs:=bH kind) (j+1);rw[cm]at a3 |-
    rw[jn,jn]at a3;generalize cf (ins.take j) ((bH kind).take j)=Y at a8 cm a3 |-;∎
    rename_i H8 st7 et7;have a5:=st7 _ _ a8;cbv;refine yI2 t _ #[rfl,su.of et7,rfl,?_];cbv;refine#[#[_,ud.of a5],yI2 (bs[j]) il #[rfl,DD.mono d cA (a7.trans st7),(),λr H9 Z d2 dc=>?_]];cbv;refine yI2 _ _ #[Z _ _ a5,dc,aJ (by simp only[ze,jn,ye,yU];lia),?_];have b3:=((c4.same st7).same Z).updL (Z _ _ a5) (o:=.lst ((pre++([Mj " " (kind::ws)]++Y)).map V.str++il.map V.str));have cq:=((c3.same st7).same Z).updL (Z _ _ a5) (o:=.lst ((pre++([Mj " " (kind::ws)]++Y)).map V.str++il.map V.str));have be:sg H (upd H9 lp (.lst ((pre++([Mj " " (kind::ws)]++Y)).map V.str++il.map V.str))):=((a7.trans st7).trans Z).upd a4 _;have al:upd H9 lp (.lst ((pre++([Mj " " (kind::ws)]++Y)).map V.str++il.map V.str)) lp=Sm (.lst ((pre++([Mj " " (kind::ws)]++Y)).map V.str++il.map V.str)):=ai;generalize upd H9 lp (.lst ((pre++([Mj " " (kind::ws)]++Y)).map V.str++il.map V.str))=d1 at b3 cq be al |-;rw?;refine#[#[_,ud.of al],_,al,cI (by simp only[ze,jn,ye,yU];lia),?_]
    refine yI2 _ _ #[rfl,be.upd a4 _,b3.updL al,cq.updL al,?_];rw[ai];simp only[yH,yX,IT,uP,ir,List.nil_append]
   .intro σ H7;refine yF2 λo3 o4=>yB5 ?_;rintro rfl a7 _ _ a8;refine yI3 _ _ _ #[rfl,a7,?_];rw[a8,ze,HS (),HS ()];rfl
  .intro σ H';refine yF3 λo2 o3 o4=>yB3 ?_;rintro rfl sm hl;rw?;rw[ze,HS ()]at hl;exact q lp H' sm a4 hl
noncomputable abbrev Gg:Str := "abcdefghijklmnopqrstuvwxyz"
def qH(K:K_):Sp:=λvs H Q _=>∃(a:so) (ns:LS),vs=[.ref a]/\ud K H a (ns.map V.int)/\ns.length<=63/\∀H',Q (.bl true) H'
def sv(K:K_):Sp:=λvs H Q _=>∃(a:so) (ns:LS) (k:Int),vs=[.ref a,.int k]/\ud K H a (ns.map V.int)/\0<=k/\Q (.int (ns.getD k.toNat 0)) H
theorem rj:∀(cs:LJ) (acc:Lr),((cs.map λc=>(#[#v[c]] : Str)).foldl (λacc p=>acc++(Str.ofString "").cps++p.cps) acc).toList=acc.toList++cs
 | [],acc=>'~'
 | c::cs,acc=>by
  rw[yX,zaS,rj cs];have e:(Str.ofString "").cps = #[]:=⋯;rw[e];simp
theorem uH(cs:LJ):(Mj "" (cs.map λc=>(#[#v[c]] : Str))).cps.toList=cs:=by
 cases cs with
 | nil=>rfl
 | cons c cs=>
  show (((c::cs).map λc=>(#[#v[c]] : Str)).drop 1 |>.foldl (λacc p=>acc++(Str.ofString "").cps++p.cps) (((c::cs).map λc=>(#[#v[c]] : Str)).headD Nr).cps).toList=c::cs;rw[yX,List.drop_one,List.tail_cons,rj];rfl
theorem CV(cs:LJ):(Mj "" (cs.map λc=>(#[#v[c]] : Str))).length=cs.length:=by
 have e:=congrArg List.length (uH cs);simpa [Str.length] using e
theorem jN(b:Nat):∀(F:LI),(∀s∈F,s.length<=b)->(F.map (·.length)).sum<=F.length*b
 | [],_=>'~'
 | s::F,h=>by
  have h1:=jN b F λx hx=>h x (yS _ hx);have h2:=h s yy;rw[yX,iS,ye,Nat.succ_mul];lia
theorem AS(z:Int):∃c,Gg.length<=L_/\cM Gg.cps.toList (z%26)=Sm c/\c∈Gg.cps.toList:=by
 have hz:(z%26).toNat<Gg.cps.toList.length:=by
  show (z%26).toNat<26;lia
 refine#[Gg.cps.toList[(z%26).toNat],∅,?_,xF hz];have q:=ao (zg hz)
 rwa [show (((z%26).toNat:Nat):Int)=z%26 from ()]at q
theorem Fz(D:xn K mg "_law_cell_at" dF) (F:wAK mg):aH P w K mg base 1 "_law_cell_at" qAa (sv K):=by
 refine D.cal oJ (λf U A outer s H vs Q E W h=>?_);revert h;refine yF3 λa ns k=>yB4 ?_;rintro rfl J S q;refine⟨_,(ah (aS (az rX (pv 1) (br (aU K) F bG (aa (pv 0) ae)) (aB _)) (aj (aA (am (au K) (pv 0) (pv 1)))) aL)
   (aj (aA af))),?_⟩
 try simp only[og,wZ,nN,lS,ut,wv,wn,rL,v7,uM,w9,sK,vG,wK,vB,El,zA,A0,tN,EC,wD,Bh,vY,Ba,zv,sy,wX,vU,wO,ux,Bj,v3,qT,tF,qp,lO,rS,zK,r_,nH,t0,v1,wa,uV,tS,wM,se,vZ,rP,tH,qf,tz,tG,u0,uk,ww,qZ,z9,Ei,pZ,pU,kP,pS,qr,wY,tm,rO,ph,vQ,ED,nv,uI,uU,qV,ur,lX,lY,pE,qg,rJ,tT,rA,nM,ul,vV,wI,qo,qe,gJ,vn,pV,rB,sf,ub,uO,uo,vA,wC,v6,L2.start,yX,IT,ye,yU,List.replicate,ir,List.nil_append,sF,List.getElem?_cons_zero,zaR,List.set_cons_zero,List.set_cons_succ,Nat.reduceAdd,Nat.reduceSub,Option.some.injEq,exists_eq_left',exists_eq_left,V.int.injEq,V.ref.injEq,V.str.injEq,V.bl.injEq,zY,v4,and_true,true_and,decide_eq_true_eq,zaN,Bool.not_false,if_true,td,if_false,ite_true,ite_false]
 refine#[_,.inl J,aP (λc=>?_) (λc=>?_)]
 .rw[ze]at c;refine yI2 _ (.int (ns.getD k.toNat 0)) #[.inl J,nI S ?_,q];rw[xV,zg ()];rfl
 .rw[ze]at c;have e:ns.getD k.toNat 0=0:=by
   rw[xV,Js ()];rfl
  rw[e]at q;exact q
theorem zn(F k:Str)(ws:LI):Mj F (k::ws)=ws.foldl (λa x=>a++F++x) k:=by
 have go:∀(ws:LI) (a:Str),(#[ws.foldl (λacc p=>acc++F.cps++p.cps) a.cps] : Str)=ws.foldl (λa x=>a++F++x) a:=by
  intro ws
  induction ws with
  | nil=>intro a;rfl
  | cons x ws ih=>intro a;rw[zaS,zaS];exact ih (a++F++x)
 exact go ws k
noncomputable def dw:LI:=["open","copy","drop","tie","do"]
structure ig (ws:LI):Prop where
 two:2<=ws.length
 three:ws.length<=3
 kind:ws.headD "" ∈ dw
 len:∀x∈ws,x.length<=20
def J4(H:Hp)(a:so)(ws:LI):Prop:=H a=Sm (.tup (ws.map V.str))/\ig ws
def jM(xs:List α)(lo hi:LQ):List α:=(xs.drop (HT.sIx xs.length 0 lo)).take (HT.sIx xs.length xs.length hi-HT.sIx xs.length 0 lo)
theorem ES(f:α->V)(xs:List α)(lo hi:LQ):dO (xs.map f) lo hi=(jM xs lo hi).map f:=by
 unfold dO jM;rw[ze,List.map_take,List.map_drop]
theorem y4{H:Hp}{a:so}{ws:LI}{O:so->LI->Prop}(h:J4 H a ws):mW O H a [Mj " " ws]:=by
 let#[h1,two,three,kd,len]:=h;cases ws with
 | nil=>simp at two
 | cons k ws=>
  have F:k∈dw:=kd;have J:bH k=[]:=by
   simp only[dw,yk,oZ,or_false]at F;rcases F with rfl | rfl | rfl | rfl | rfl<;>decide
  have S:∀ws:LI,LG kI (ws.map V.str) ws:=λws=>by
   induction ws with
   | nil=>exact .nil
   | cons x ws ih=>exact .cons (show kI (.str x) x from rfl) ih
  refine yI5 k (ws.map V.str) ws ([]) ([]) #[#[by rw[IT,sF];exact h1,S ws,?_,by rw[J];rfl,.nil],by rw[J];rfl];have:=jN 20 (k::ws) len;simp only[ye]at this two three |-
  lia
theorem eY{α β : Type}{R:α->β->Prop}{x:α}{y:β}(F:R x y):∀ {xs:List α} {ys:List β},LG R xs ys->LG R (xs++[x]) (ys++[y])
 | _,_,.nil=>.cons F .nil
 | _,_,.cons h t=>.cons h (eY F t)
set_option genSizeOf false in
inductive vr where
 | plain (ws:LI)
 | lend (x y:Str) (b:List vr)
 | ite (n:Int) (b c:List vr)
 | whl (n:Int) (b:List vr)
variable{T:List vr}{s:vr}
noncomputable def fZ(n:Int):Str:=Str.ofString (toString n)
noncomputable def c6(f:List vr->LI):vr->LI
 | .plain ws=>[Mj " " ws]
 | .lend x y b=>Mj " " ["lend",x,y]::(f b++[("back" : Str)])
 | .ite n b c=>Mj " " ["if",fZ n]::(f b++[("else" : Str)]++(f c++[("fi" : Str)]))
 | .whl n b=>Mj " " ["while",fZ n]::(f b++[("done" : Str)])
noncomputable def dy:Nat->List vr->LI
 | 0,_=>[]
 | d+1,T=>T.flatMap (c6 (dy d))
def kg(f:List vr->Prop):vr->Prop
 | .plain ws=>ig ws
 | .lend x y b=>x.length<=20/\y.length<=20/\f b
 | .ite n b c=>n.natAbs.log2<1920/\f b/\f c
 | .whl n b=>n.natAbs.log2<1920/\f b
def dC:Nat->List vr->Prop
 | 0,_=>False
 | d+1,T=>∀s∈T,kg (dC d) s
def Ct(PA:so->List vr->Prop)(H:Hp)(a:so):vr->Prop
 | .plain ws=>H a=Sm (.tup (ws.map V.str))
 | .lend x y b=>∃q,H a=Sm (.tup [.str "lend",.str x,.str y,.ref q])/\PA q b
 | .ite n b c=>∃q r,H a=Sm (.tup [.str "if",.int n,.ref q,.ref r])/\PA q b/\PA r c
 | .whl n b=>∃q,H a=Sm (.tup [.str "while",.int n,.ref q])/\PA q b
def Bt(S:so->Prop):Nat->Hp->so->List vr->Prop
 | 0=>λ_ _ _=>False
 | d+1=>λH p T=>S p/\∃as:LL,H p=Sm (.lst (as.map V.ref))/\LG (Ct (Bt S d H) H) as T
theorem Ct.imp{PA F:so->List vr->Prop}{H H':Hp}{a:so}(O:∀b xs,H b=Sm (.tup xs)->H' b=Sm (.tup xs))(J:∀q b,PA q b->F q b):∀ {s:vr},Ct PA H a s->Ct F H' a s
 | .plain _,h=>O _ _ h
 | .lend _ _ _,⟨q,h,z⟩=>#[q,O _ _ h,J _ _ z]
 | .ite _ _ _,⟨q,r,h,z,y⟩=>yI2 q r #[O _ _ h,J _ _ z,J _ _ y]
 | .whl _ _,⟨q,h,z⟩=>#[q,O _ _ h,J _ _ z]
theorem Bt.imp{S S':so->Prop}{H H':Hp}(F:∀b xs,H b=Sm (.tup xs)->H' b=Sm (.tup xs))(hl:∀b xs,S b->H b=Sm (.lst xs)->H' b=Sm (.lst xs))(J:∀b,S b->S' b) :
  ∀(d:Nat) {p:so} {T:List vr},Bt S d H p T->Bt S' d H' p T
 | 0,_,_,h=>h.elim
 | d+1,p,T,⟨h0,as,h1,h2⟩=>#[J _ h0,as,hl _ _ h0 h1,LG.imp' (λa s z=>z.imp F λq b y=>Bt.imp F hl J d y) h2]
theorem Bt.mono(h:Bt S d H p T)(sm:sg H H'):Bt S d H' p T:=h.imp (λb xs e=>sm _ _ e) (λb xs _ e=>sm _ _ e) (λ_ z=>z) d
theorem vp{n:Int}(h:n.natAbs.log2<1920):(fZ n).length<=1921:=by
 have e:=int_text_length_le (k:=1920) ∅ h;unfold fZ;rw[PySem.ofString_length];exact e
theorem xA{PA:so->List vr->Prop}{J:so->LI->Prop}{H:Hp}{a:so}{f:List vr->LI}{g:List vr->Prop}(F:∀q b,PA q b->g b->J q (f b)):∀ {s:vr},Ct PA H a s->kg g s->mW J H a (c6 f s)
 | .plain ws,h,ok=>y4 #[h,ok]
 | .lend x y b,⟨q,h,z⟩,⟨o1,o2,o3⟩=>by
  refine yI5 ("lend") ([.str x,.str y]) ([x,y]) ([q]) ([f b]) #[#[h,.cons rfl (.cons rfl .nil),?_,by show 1=(bH "lend").length;decide,.cons (F _ _ z o3) .nil],by show _=_::cf [f b] ["back"];simp[c6,cf]];have:(Str.ofString "lend").length=4:=∅;simp only[yX,IT,iS,List.sum_nil,ye,yU,this];lia
 | .ite n b c,⟨q,r,h,z,y⟩,⟨o1,o2,o3⟩=>by
  refine yI5 ("if") ([.int n]) ([fZ n]) ([q,r]) ([f b,f c]) #[#[h,.cons #[o1,rfl] .nil,?_,by show 2=(bH "if").length;decide,.cons (F _ _ z o2) (.cons (F _ _ y o3) .nil)],?_]
  .have:(Str.ofString "if").length=2:=∅;have:=vp o1;simp only[yX,IT,iS,List.sum_nil,ye,yU];lia
  .show _=_::cf [f b,f c] ["else","fi"];simp[c6,cf]
 | .whl n b,⟨q,h,z⟩,⟨o1,o2⟩=>by
  refine yI5 ("while") ([.int n]) ([fZ n]) ([q]) ([f b]) #[#[h,.cons #[o1,rfl] .nil,?_,by show 1=(bH "while").length;decide,.cons (F _ _ z o2) .nil],by show _=_::cf [f b] ["done"];simp[c6,cf]];have:(Str.ofString "while").length=5:=∅;have:=vp o1;simp only[yX,IT,iS,List.sum_nil,ye,yU];lia
theorem lZ{PA:so->List vr->Prop}{F:so->LI->Prop}{H:Hp}{f:List vr->LI}{g:List vr->Prop}(J:∀q b,PA q b->g b->F q (f b)) :
  ∀ {O:LL} {T:List vr},LG (Ct PA H) O T->(∀s∈T,kg g s)->LG (mW F H) O (T.map (c6 f))
 | _,_,.nil,_=>.nil
 | _,_,.cons h t,ok=>.cons (xA J h (ok _ yy)) (lZ J t λs S=>ok s (yS _ S))
theorem m9{S:so->Prop}{H:Hp}:∀(d:Nat) {p:so} {T:List vr},Bt S d H p T->dC d T->DD d H p (dy d T)
 | 0,_,_,h,_=>h.elim
 | d+1,p,T,⟨_,as,h1,h2⟩,ok=>yI2 as (T.map (c6 (dy d))) #[h1,lZ (λq b z o=>m9 d z o) h2 ok,List.flatMap_def]
noncomputable def bz(f:List vr->Nat):vr->Nat
 | .plain _=>1
 | .lend _ _ b=>f b+2
 | .ite _ b c=>f b+f c+3
 | .whl _ b=>f b+2
noncomputable def aq:Nat->List vr->Nat
 | 0,_=>0
 | d+1,T=>(T.map (bz (aq d))).sum
noncomputable def fL(f:vr->Nat):Nat->List vr->List (Nat×vr)
 | _,[]=>[]
 | l,s::T=>(l,s)::fL f (l+f s) T
theorem kY(f:vr->Nat)(s:vr):∀(l:Nat) (T:List vr),fL f l (T++[s])=fL f l T++[(l+(T.map f).sum,s)]
 | l,[]=>by simp[fL]
 | l,t::T=>by
  show (l,t)::fL f (l+f t) (T++[s])=(l,t)::fL f (l+f t) T++[(l+(f t+(T.map f).sum),s)]
  rw[kY f s (l+f t) T,oS];rfl
theorem gQ(f:vr->Nat):∀(l:Nat) (T:List vr),(fL f l T).length=T.length
 | _,[]=>rfl
 | l,s::T=>by show (fL f (l+f s) T).length+1=T.length+1;rw[gQ f _ T]
theorem wU(f:vr->Nat):∀(l:Nat) (T:List vr) (i:Nat) (s:vr),T[i]?=Sm s->(fL f l T)[i]?=Sm (l+((T.take i).map f).sum,s)
 | _,[],_,_,h=>by simp at h
 | l,t::T,0,s,h=>by
  have e:t=s:=by simpa using h
  subst e;simp[fL]
 | l,t::T,i+1,s,h=>by
  have h':T[i]?=Sm s:=by simpa using h
  have ih:=wU f (l+f t) T i s h';show (fL f (l+f t) T)[i]? = _;rw[ih,JP,yX,iS,oS]
noncomputable def kindOf:vr->Str
 | .plain ws=>ws.headD ""
 | .lend _ _ _ => "lend"
 | .ite _ _ _ => "if"
 | .whl _ _ => "while"
noncomputable def dS:vr->LM
 | .plain ws=>(ws.drop 1).map V.str
 | .lend x y _=>[.str x,.str y]
 | .ite n _ _=>[.int n]
 | .whl n _=>[.int n]
noncomputable def cX(f:List vr->Nat)(l:Nat):vr->List (Nat×List vr)
 | .plain _=>[]
 | .lend _ _ b=>[(l+1,b)]
 | .ite _ b c=>[(l+1,b),(l+1+f b+1,c)]
 | .whl _ b=>[(l+1,b)]
noncomputable def c7(f:List vr->Nat)(l:Nat)(s:vr):LJ:=l::(cX f l s).map λz=>z.1+f z.2
theorem DH{f:List vr->Nat}{l:Nat}:∀ {s:vr} {j:Nat} {z:Nat×List vr},(cX f l s)[j]?=Sm z->∃y,(c7 f l s)[j]?=Sm y/\z.1=y+1
 | .plain _,j,z,h=>by simp[cX]at h
 | .lend _ _ b,0,z,h=>by cases h;exact#[l,rfl,rfl]
 | .lend _ _ b,j+1,z,h=>by simp[cX]at h
 | .ite _ b c,0,z,h=>by cases h;exact#[l,rfl,rfl]
 | .ite _ b c,1,z,h=>by cases h;exact#[l+1+f b,rfl,rfl]
 | .ite _ b c,j+2,z,h=>by simp[cX]at h
 | .whl _ b,0,z,h=>by cases h;exact#[l,rfl,rfl]
 | .whl _ b,j+1,z,h=>by simp[cX]at h
theorem nu{f:List vr->Nat}{l:Nat}:∀ {s:vr},(c7 f l s).getLast? = Sm (l+bz f s-1)/\1<=bz f s
 | .plain _=>by simp[c7,cX,bz]
 | .lend _ _ b=>by simp[c7,cX,bz];lia
 | .ite _ b c=>by simp[c7,cX,bz];lia
 | .whl _ b=>by simp[c7,cX,bz];lia
noncomputable def hV:LW->V
 | none=>.non
 | some n=>.int n
set_option genInjectivity false in
set_option genSizeOf false in
structure RS where
 taken:Nat
 last:Int
 opened:Nat
 held:List (aT×V)
 log:List LM
noncomputable def xZ(st:RS)(k:aT):LW:=match bU st.held k with
 | some (.int n)=>Sm n.toNat
 | _=>Nn
noncomputable def qM(k:aT)(h:LW)(st:RS):RS:={st with held:=dk st.held k (hV h)}
noncomputable def yq(l:Nat)(h:LW)(w:Str)(st:RS):RS:=match h with
 | none=>st
 | some n=>{st with log:=st.log++[[.int l,.int n,.str w,.int st.last]]}
noncomputable def Ke(l:Nat)(k:aT)(st:RS):RS:=qM k (Sm st.opened) (yq l (Sm st.opened) "open" {st with opened:=st.opened+1})
noncomputable def BS(l:Nat)(a b:LW)(st:RS):RS:=match a,b with
 | some n,Sm m=>if n=m then st else {st with log:=st.log++[[.int l,.int n,.int m]]}
 | _,_=>st
noncomputable def zF(l:Nat)(ws:LI)(st:RS):RS:=match ws with
 | [k,x]=>if k = "open" then Ke l (.inr x) st else qM (.inr x) Nn st
 | [k,x,y]=>if k = "do" then yq l (xZ st (.inr y)) x st else if k = "copy" then qM (.inr x) (xZ st (.inr y)) st else BS l (xZ st (.inr x)) (xZ st (.inr y)) st
 | _=>st
inductive fm:LI->Prop
 | op (x:Str):fm ["open",x]
 | dr (x:Str):fm ["drop",x]
 | dd (u x:Str):fm ["do",u,x]
 | cp (x y:Str):fm ["copy",x,y]
 | ti (x y:Str):fm ["tie",x,y]
def GoodR(st:RS):Prop:=∀k v,bU st.held k=Sm v->∃h,v=hV h
theorem GoodR.hold{st:RS}(g:GoodR st)(k:aT)(h:LW):GoodR (qM k h st):=λj v e=>by
 have F:(if j=k then Sm (hV h) else bU st.held j)=Sm v:=by rw[<-mn];exact e
 by_cases hj:j=k
 .rw[KZ hj]at F;exact#[h,(Option.some.inj F).symm]
 .rw[KQ hj]at F;exact g j v F
theorem mR(l:Nat)(h:LW)(w:Str)(st:RS):(yq l h w st).held=st.held:=by cases h<;>rfl
theorem AH(l:Nat)(a b:LW)(st:RS):(BS l a b st).held=st.held:=by
 unfold BS;split
 .split<;>rfl
 .rfl
theorem GoodR.of{st F:RS}(g:GoodR st)(e:F.held=st.held):GoodR F:=λk v h=>g k v (by rw[<-e];exact h)
theorem mY{st:RS}(g:GoodR st)(l:Nat)(ws:LI):GoodR (zF l ws st):=by
 unfold zF;split
 .split
  .exact GoodR.hold (GoodR.of g (by rw[mR])) _ _
  .exact g.hold _ _
 .split
  .exact g.of (mR _ _ _ _)
  .split
   .exact g.hold _ _
   .exact g.of (AH _ _ _ _)
 .exact g
noncomputable def nF(k:Str)(pp lp bp:so):List (Str×V):=[("kind",.str k),("parts",.ref pp),("lines",.ref lp),("blocks",.ref bp)]
theorem gg(k:Str)(F J O:so):(nF k F J O).lookup ("kind" : Str)=Sm (.str k):=by unfold nF;walk_at "lk"
theorem fk(k:Str)(F J O:so):(nF k F J O).lookup ("parts" : Str)=Sm (.ref F):=by unfold nF;walk_at "lk"
theorem d_(k:Str)(J F O:so):(nF k J F O).lookup ("lines" : Str)=Sm (.ref F):=by unfold nF;walk_at "lk"
theorem ip(k:Str)(J O F:so):(nF k J O F).lookup ("blocks" : Str)=Sm (.ref F):=by unfold nF;walk_at "lk"
noncomputable def fW(ns:LJ):LM:=ns.map λ(n:Nat)=>V.int (n:Int)
def Ca(K:K_)(C:so)(f:List vr->Nat)(S:so->Prop)(PA:so->Nat->List vr->Prop)(H:Hp)(a:so)(l:Nat)(s:vr):Prop:=
 ∃(dx pp lp bp:so) (bs:LL),H a=Sm (.ins C dx (nF (kindOf s) pp lp bp))/\su K H pp (dS s)/\S lp/\H lp=Sm (.lst (fW (c7 f l s)))/\S bp/\H bp=Sm (.lst (bs.map V.ref))/\LG (λq (z:Nat×List vr)=>PA q z.1 z.2) bs (cX f l s)
def Bu(K:K_)(C:so)(S:so->Prop):Nat->Hp->so->Nat->List vr->Prop
 | 0=>λ_ _ _ _=>False
 | d+1=>λH p l T=>S p/\∃as:LL,H p=Sm (.lst (as.map V.ref))/\LG (λa (z:Nat×vr)=>Ca K C (aq d) S (Bu K C S d H) H a z.1 z.2) as (fL (bz (aq d)) l T)
structure Cw (S:so->Prop) (H H':Hp):Prop where
 t:∀b xs,H b=Sm (.tup xs)->H' b=Sm (.tup xs)
 z:∀b o u,H b=Sm (.frz o u)->H' b=Sm (.frz o u)
 i:∀b C dx fs,H b=Sm (.ins C dx fs)->H' b=Sm (.ins C dx fs)
 l:∀b xs,S b->H b=Sm (.lst xs)->H' b=Sm (.lst xs)
theorem Cw.of(sm:sg H H'):Cw S H H':=#[λb xs h=>sm _ _ h,λb o u h=>sm _ _ h,λb C dx fs h=>sm _ _ h,λb xs _ h=>sm _ _ h]
theorem Cw.upd(h:H p=Sm (.lst xs))(F:¬ S p):Cw S H (upd H p o):=
  ⟨λb xs e=>by rw[aw (dh e h (λz=>nomatch z))];exact e,λb o u e=>by rw[aw (dh e h (λz=>nomatch z))];exact e,λb C dx fs e=>by rw[aw (dh e h (λz=>nomatch z))];exact e,
   λb xs J e=>by rw[aw (show b≠p from λz=>F (z ▸ J))];exact e⟩
theorem su.stays{a:so}(h:su K H a xs)(st:Cw S H H'):su K H' a xs:=by
 rcases h with (h | ⟨o,h⟩) | h
 .exact .inl (.inl (st.t _ _ h))
 .exact .inl (.inr #[o,st.z _ _ _ h])
 .exact .inr h
theorem su.updI{a x C dx:so}{fs:List (Str×V)}(h:su K H a xs)(hx:H x=Sm (.ins C dx fs)):su K (upd H x o) a xs:=by
 rcases h with (h | ⟨o',h⟩) | h
 .exact .inl (.inl (by rw[aw (dh h hx (λz=>nomatch z))];exact h))
 .exact .inl (.inr #[o',by rw[aw (dh h hx (λz=>nomatch z))];exact h])
 .exact .inr h
theorem Ca.imp{C:so}{f:List vr->Nat}{S':so->Prop}{PA F:so->Nat->List vr->Prop}{a:so}(h:Ca K C f S PA H a l s)(st:Cw S H H')(O:∀b,S b->S' b)(Y:∀q l b,PA q l b->F q l b):Ca K C f S' F H' a l s:=by
 revert h;refine yF5 λdx Z lp bp bs=>yB7 λh1 h2 J h4 U h6 h7=>?_;exact yI5 dx Z lp bp bs #[st.i _ _ _ _ h1,su.stays h2 st,O _ J,st.l _ _ J h4,O _ U,st.l _ _ U h6,LG.imp' (λq z y=>Y _ _ _ y) h7]
theorem Bu.imp{K:K_}{C:so}{S S':so->Prop}{H H':Hp}(st:Cw S H H')(F:∀b,S b->S' b):∀(d:Nat) {p:so} {l:Nat} {T:List vr},Bu K C S d H p l T->Bu K C S' d H' p l T
 | 0,_,_,_,h=>h.elim
 | d+1,p,l,T,⟨h0,as,h1,h2⟩=>#[F _ h0,as,st.l _ _ h0 h1,LG.imp' (λa z y=>y.imp st F λq l b J=>Bu.imp st F d J) h2]
theorem Bu.mono{C:so}(h:Bu K C S d H p l T)(sm:sg H H'):Bu K C S d H' p l T:=h.imp (Cw.of sm) (λ_ z=>z) d
theorem Ca.mono{C:so}{a:so}(h:Ca K C (aq d) S (Bu K C S d H) H a l s)(sm:sg H H'):Ca K C (aq d) S (Bu K C S d H') H' a l s:=
 h.imp (Cw.of sm) (λ_ z=>z) λq l b y=>y.mono sm
theorem vD{xs:List α}{x:α}(h:xs.getLast? = Sm x):cM xs (-1)=Sm x:=by
 rcases List.eq_nil_or_concat xs with rfl | ⟨ys,y,rfl⟩
 .simp at h
 .have e:y=x:=by simpa using h
  subst e;have e:ku (ys++[y]).length (-1)=Sm ys.length:=by
   unfold ku;simp only[jn,ye,yU];split<;>simp_all<;>lia
  unfold cM;rw[List.concat_eq_append,e];simp
theorem jP{ns:LJ}(h:ns.getLast? = Sm n):cM (fW ns) (-1)=Sm (.int n):=vD (by unfold fW;rw[List.getLast?_map,h];rfl)
theorem fu{ns:LJ}(h:ns[i]?=Sm n):cM (fW ns) i=Sm (.int n):=ao (by unfold fW;rw[yf,h];rfl)
theorem wm(d:Nat):∀T:List vr,T.length<=aq (d+1) T
 | []=>gV _
 | s::T=>by
  have:=wm d T;have h1:=(nu (f:=aq d) (l:=0) (s:=s)).2;show T.length+1<=bz (aq d) s+aq (d+1) T;lia
theorem n8{d:Nat}:∀ {T:List vr} {s:vr},s∈T->bz (aq d) s<=aq (d+1) T
 | [],_,h=>by cases h
 | t::T,s,h=>by
  show bz (aq d) s<=bz (aq d) t+aq (d+1) T;rcases K7.mp h with rfl | h
  .lia
  .have:=n8 (d:=d) h;lia
theorem sS:aq (d+1) (T.take i)<=aq (d+1) T:=by
 have e:aq (d+1) T=aq (d+1) (T.take i)+aq (d+1) (T.drop i):=by
  show (T.map _).sum=((T.take i).map _).sum+((T.drop i).map _).sum;rw[<-List.sum_append,<-yH,IE]
 lia
theorem Fb{f:List vr->Nat}{l:Nat}:∀ {s:vr} {z:Nat×List vr},z∈cX f l s->f z.2<=bz f s
 | .plain _,z,h=>by cases h
 | .lend _ _ b,z,h=>by simp[cX]at h;subst h;simp[bz]
 | .ite _ b c,z,h=>by
  simp[cX]at h;rcases h with rfl | rfl<;>simp[bz]<;>lia
 | .whl _ b,z,h=>by simp[cX]at h;subst h;simp[bz]
theorem CF(f:List vr->Nat)(l:Nat)(s:vr):(cX f l s).length<=2:=by cases s<;>simp[cX]
theorem E2{PA:so->List vr->Prop}{H:Hp}{a:so}{f:List vr->Nat}{g:List vr->Prop}{l:Nat}:∀ {s:vr},Ct PA H a s->kg g s->∃bs:LL,H a=Sm (.tup (.str (kindOf s)::(dS s++bs.map V.ref)))/\bs.length=(bH (kindOf s)).length/\LG (λq (z:Nat×List vr)=>PA q z.2/\g z.2) bs (cX f l s)
 | .plain ws,h,ok=>by
  have J:ws≠[]:=λe=>by have:=ok.two;rw[e]at this;simp at this
  let#[k,r,rfl]:=List.exists_cons_of_ne_nil J;have F:k∈dw:=ok.kind;refine#[[],?_,?_,.nil]
  .show H a=Sm (.tup (.str k::(r.map V.str++[])));rw[sF];exact h
  .show 0=(bH k).length;revert F;unfold dw;intro F;simp only[yk,yT,or_false]at F;rcases F with rfl | rfl | rfl | rfl | rfl<;>decide
 | .lend x y b,⟨q,h,z⟩,⟨_,_,o⟩=>#[[q],h,by show 1=(bH "lend").length;decide,.cons #[z,o] .nil]
 | .ite n b c,⟨q,r,h,z,y⟩,⟨_,o,o'⟩=>#[[q,r],h,by show 2=(bH "if").length;decide,.cons #[z,o] (.cons #[y,o'] .nil)]
 | .whl n b,⟨q,h,z⟩,⟨_,o⟩=>#[[q],h,by show 1=(bH "while").length;decide,.cons #[z,o] .nil]
def oB(K:K_)(C:so):Sp:=λvs H Q _=>∃(x dx hp:so) (k:Str) (ps:LM) (lp bp:so),vs=[.ref x,.ref hp,.ref lp,.ref bp]/\H x=Sm (.ins C dx [])/\su K H hp (.str k::ps)/\
 ∀(pp:so) (H':Hp),(∀b o,H b=Sm o->b≠x->H' b=Sm o)->H' x=Sm (.ins C dx (nF k pp lp bp))->su K H' pp ps->Q .non H'
def jO(K:K_)(C:so):Sp:=λvs H Q _=>∃(p:so) (l d:Nat) (T:List vr) (S:so->Prop),vs=[.ref p,.int (l:Int)]/\Bu K C S (d+1) H p l T/\aq (d+1) T<=10000/\Q (.int ((l+aq (d+1) T:Nat):Int)) H
def JY(K:K_)(C:so)(d:Nat):Sp:=λvs H Q _=>∃(a:so) (l:Nat) (s:vr) (S:so->Prop),vs=[.ref a,.int (l:Int)]/\Ct (Bt S d H) H a s/\kg (dC d) s/\bz (aq d) s<=10000/\
 ∀(q:so) (H':Hp),sg H H'->Ca K C (aq d) (λb=>H b=Nn) (Bu K C (λb=>H b=Nn) d H') H' q l s->Q (.ref q) H'
def rC(K:K_)(C:so)(d:Nat):Sp:=λvs H Q _=>∃(p:so) (l:Nat) (T:List vr) (S:so->Prop),vs=[.ref p,.int (l:Int)]/\Bt S d H p T/\dC d T/\aq d T<=10000/\
 ∀(q:so) (H':Hp),sg H H'->Bu K C (λb=>H b=Nn) d H' q l T->Q (.ref q) H'
section
variable{CN:so}
theorem Cb(D:Hm K mg "NumberedStep" CN "NumberedStep.__init__" bm) (S:Fl K CN "kind") (O:Fl K CN "parts") (J:Fl K CN "lines") (F:Fl K CN "blocks") :
  u3 P w K mg base 1 "NumberedStep" CN qAT (oB K CN):=by
 refine D.mkal (k:=0) i8 (by walk_at "z") (by walk_at "v") (λf ag A outer s H vs Q E hr h=>?_);revert h;refine yF7 λx dx hp k ps lp bp=>yB4 ?_;rintro rfl hx hh q;refine⟨_,(ah (lK S (pv 0) (am (au K) (pv 1) af))
   (ah (lK O (pv 0) (fe (gY K) (pv 1) (fG af) gS))
   (ah (lK J (pv 0) (pv 2))
   (aj (lK F (pv 0) (pv 3)))))),?_⟩
 cbv;refine yI2 _ _ #[.inr hh,ke,yI2 dx _ #[hx,∅,?_]];generalize hH1:upd H x _=H1;have e1:H1 x=Sm (.ins CN dx [("kind",.str k)]):=by rw[<-hH1,ai];walk_at "pf"
 have k1:∀b o,H b=Sm o->b≠x->H1 b=Sm o:=λb o e n=>by rw[<-hH1,aw n];exact e
 have ab:su K H1 hp (.str k::ps):=by rw[<-hH1];exact su.updI hh hx
 rw?;refine ga ab λW H2 U Z=>?_;have ec:dO (V.str k::ps) (Sm 1) Nn=ps:=jl _ 1;rw[ec]at Z;refine yI2 dx _ #[U _ _ e1,'~',?_];generalize hH3:upd H2 x _=Y;have e3:Y x=Sm (.ins CN dx [("kind",.str k),("parts",.ref W)]):=by rw[<-hH3,ai];walk_at "pf"
 have k3:∀b o,H2 b=Sm o->b≠x->Y b=Sm o:=λb o e n=>by rw[<-hH3,aw n];exact e
 have ac:su K Y W ps:=by rw[<-hH3];exact su.updI Z (U _ _ e1)
 rw?;refine yI2 dx _ #[e3,'~',?_];generalize hH4:upd Y x _=H4;have e4:H4 x=Sm (.ins CN dx [("kind",.str k),("parts",.ref W),("lines",.ref lp)]):=by rw[<-hH4,ai];walk_at "pf"
 have k4:∀b o,Y b=Sm o->b≠x->H4 b=Sm o:=λb o e n=>by rw[<-hH4,aw n];exact e
 have ad:su K H4 W ps:=by rw[<-hH4];exact su.updI ac e3
 rw?;refine yI2 dx _ #[e4,'~',?_];refine q W _ (λb o e n=>?_) ?_ (su.updI ad e4)
 .rw[aw n];exact k4 _ _ (k3 _ _ (U _ _ (k1 _ _ e n)) n) n
 .rw[ai];unfold nF;walk_at "pf"
theorem Ap(D:xn K mg "line_behind" dH) (W:wAK mg) (J:Fl K CN "lines"):aH P w K mg base 1 "line_behind" qAU (jO K CN):=by
 refine D.cal (k:=0) oI (λf ac A outer s H vs Q E hr h=>?_);revert h;refine yF5 λp l d T S=>yB4 ?_;rintro rfl ⟨h0,as,h1,h2⟩ hz q;have F:=aQ h2;rw[gQ]at F;refine#[_,(aj (aA (ft (az aM (br (aU K) W bG (aa (pv 0) ae)) af (aB _)) (pv 1) (ar aF (am (au K) (bK J (am (au K) (pv 0) (fH eP af))) (fH eP af)) af)))),?_];cbv;refine#[_,.inl (ud.of h1),?_];rw[ze,F];rcases List.eq_nil_or_concat T with rfl | ⟨O,t,rfl⟩
 .refine aP (λc=>?_) (λc=>absurd rfl c);exact q
 .rw[List.concat_eq_append]at *;refine aP (λc=>absurd c (by rw[jn];simp;lia)) (λc=>?_);rw[kY]at h2;rcases List.eq_nil_or_concat as with rfl | ⟨Y,a,rfl⟩
  .have:=aQ h2;simp at this
  rw[List.concat_eq_append]at *;have ab:Y.length=O.length:=by simpa using F
  have h3:Ca K CN (aq d) S (Bu K CN S d H) H a (l+(O.map (bz (aq d))).sum) t:=by
   let#[z,U,Z]:=cP h2 (i:=Y.length) (x:=a) '~';rw[uC (by rw[gQ];lia),gQ,ab]at U;simp at U;subst U;exact Z
  revert h3;refine yF5 λdx pp lp bp bs=>yB7 λg1 g2 g3 g4 g5 g6 g7=>?_;let#[g8,g9]:=nu (f:=aq d) (l:=l+(O.map (bz (aq d))).sum) (s:=t);cbv;refine X2 (ud.of h1) (vD (x:=V.ref a) '~') ?_;refine#[a,rfl,yI3 dx _ _ #[g1,d_ _ _ _ _,?_]];cbv;refine X2 (ud.of g4) (jP g8) ?_;cbv;have e:((l+(O.map (bz (aq d))).sum+bz (aq d) t-1:Nat):Int)+1=((l+aq (d+1) (O++[t]):Nat):Int):=by
   have:aq (d+1) (O++[t])=(O.map (bz (aq d))).sum+bz (aq d) t:=by show ((O++[t]).map _).sum=_;simp
   lia
  rw[e];exact q
theorem G4(D:xn K mg "numbered_step" ba) (Y:aH P w K mg base 2 "head_of" ["step"] (kO K)) (U:aH P w K mg base 3 "blocks_of" ["step"] (jd K)) (O:aH P w K mg base 1 "line_behind" qAU (jO K CN))
  (J:u3 P w K mg base 1 "NumberedStep" CN qAT (oB K CN)) {d:Nat} (F:aH P w K mg base (2*d+4) "numbered_steps" qAU (rC K CN d)) :
  aH P w K mg base (2*d+5) "numbered_step" ["step","line"] (JY K CN d):=by
 refine D.cal (k:=2*d+4) B9 (λf da A outer sh H vs Q E hr h=>?_);revert h;refine yF4 λa l s S=>yB5 ?_;rintro rfl h1 ok hz q;refine yE1 (E2 (f:=aq d) (l:=l) h1 ok) λbs=>yB3 λb1 b2 b3=>?_;refine⟨_,(ah (av 2 B9.nd (aI (aa (pv 1) ae)))
   (ah (av 3 B9.nd (aI ae))
   (ah (bT xm rfl (iH K (ax U hr (aa (pv 0) ae) (hle:=()))) (aV 4 B9.nd) (ah (av 5 B9.nd (ax F hr (aa (pv 4) (aa (ar aF (am (au K) (pv 2) (fH eP af)) af) ae)) (hle:=())))
   (ah (bo (bB K xl mB mF bw (pv 3) (aa (pv 5) ae)))
   (aj (bo (bB K xl mB mF bw (pv 2) (aa (ax O hr (aa (pv 5) (aa (ar aF (am (au K) (pv 2) (fH eP af)) af) ae)) (hle:=())) ae)))))))
   (aj (aA (JU J hr (aa (ax Y hr (aa (pv 0) ae) (hle:=())) (aa (pv 2) (aa (pv 3) ae))) (hle:=()))))))),?_⟩
 cbv;refine#[∅,λlp a9=>?_];∎;rename_i HA sA eA;rw?;refine#[∅,λbp al=>?_];∎;rename_i HB sB eB;have a4:=sA.trans sB;have be:(bH (kindOf s)).length<=(dS s++bs.map V.ref).length+1:=by rw[jn,ze,b2];lia
 have as:(dS s++bs.map V.ref).length+1-(bH (kindOf s)).length=(dS s).length+1:=by rw[jn,ze,b2];lia
 rw?;refine yI3 a (kindOf s) _ #[rfl,su.of (a4 _ _ b1),be,λtp HC sC ag=>?_];rw[as]at ag;have c1:(V.str (kindOf s)::(dS s++bs.map V.ref)).drop ((dS s).length+1)=bs.map V.ref:=by rw[List.drop_succ_cons,List.drop_left'];rfl
 rw[c1]at ag;cbv;refine#[#[_,ag],?_];have bc:=aQ b3;have c9:=CF (aq d) l s;have b0:lp≠bp:=λz=>by rw[<-z]at al;rw[al]at eA;cases eA
 refine tf (xs:=bs.map V.ref) (λj σ H'=>∃(o4 o5:LR) (qs:LL),σ=[Sm (.ref a),Sm (.int (l:Int)),Sm (.ref lp),Sm (.ref bp),o4,o5]/\sg H H'/\su K H' tp (bs.map V.ref)/\H' lp=Sm (.lst (fW ((c7 (aq d) l s).take (j+1))))/\H' bp=Sm (.lst (qs.map V.ref))/\
   (∀b,H' b=Nn->HC b=Nn)/\LG (λq (z:Nat×List vr)=>Bu K CN (λb=>HC b=Nn) d H' q z.1 z.2) qs ((cX (aq d) l s).take j))
  (yI3 Nn Nn ([]) #[rfl,a4.trans sC,ag,by rw[sC _ _ (sB _ _ eA)];simp[fW,c7],by rw[sC _ _ eB];rfl,λb h=>h,.nil]) (λj σ H' _ h=>by revert h;refine yF3 λ_ _ _=>yB4 λ_ _ z _=>?_;exact z) ?_ ?_
 .intro j v σ H' hv;refine yF3 λo4 o5 qs=>yB7 ?_;rintro rfl sm bg ac W a8 ab;have hj:j<bs.length:=by have:=(KO.mp hv).1;simpa using this
  rw[yf,zg hj]at hv;cases hv;refine yE1 (cP b3 (zg hj)) λz=>yB3 λad cB cv=>?_;let#[y,cb,c4]:=DH ad;have Z:((c7 (aq d) l s).take (j+1)).getLast? = Sm y:=by
   rw[rT,cb];simp
  have c3:=Fb (me ad);cbv;refine X2 (ud.of ac) (jP Z) ?_;cbv;have ey:(y:Int)+1=((z.1:Nat):Int):=()
  rw[ey];refine yI4 (bs[j]) z.1 z.2 S #[rfl,cB.mono sm,cv,(),λq' HD sD cm=>?_];have bh:=aQ ab;rw[sQ]at bh;rw?;refine#[#[_,ud.of (sD _ _ W)],_,sD _ _ W,cI (by rw[ze];lia),?_];generalize hE:upd HD bp _=HE;have cq:Cw (λb=>H' b=Nn) HD HE:=by rw[<-hE];exact Cw.upd (sD _ _ W) (λz=>by rw[W]at z;cases z)
  have a5:=Bu.imp (S':=λb=>H' b=Nn) cq (λ_ z=>z) d cm;have eE:HE bp=Sm (.lst (qs.map V.ref++[V.ref q'])):=by rw[<-hE,ai]
  have lE:HE lp=Sm (.lst (fW ((c7 (aq d) l s).take (j+1)))):=by rw[<-hE,aw b0];exact sD _ _ ac
  rw?;refine#[#[_,ud.of lE],X2 (ud.of lE) (jP Z) ?_];cbv;rw[ey];have ca:∀b,H' b=Nn->HC b=Nn:=a8;have cd:=Bu.imp (S':=λb=>HC b=Nn) (Cw.of (sg.refl HE)) ca d a5;cases d with
  | zero=>exact a5.elim
  | succ d=>
  refine yI5 q' z.1 d z.2 _ #[rfl,a5,(),?_];refine#[_,lE,cI (by unfold fW;rw[ze,sQ];lia),?_];generalize hF:upd HE lp _=HF;have b4:HC lp=Sm (.lst (fW [l])):=by rw[sC _ _ (sB _ _ eA)];simp[fW]
  have cn:HC bp=Sm (.lst []):=sC _ _ eB;have a6:Cw (λb=>HC b=Nn) HE HF:=by rw[<-hF];exact Cw.upd lE (λz=>by rw[b4]at z;cases z)
  have a3:Cw (λb=>HC b=Nn) HD HE:=by rw[<-hE];exact Cw.upd (sD _ _ W) (λz=>by rw[cn]at z;cases z)
  have up:∀ {p:so} {l:Nat} {T:List vr},Bu K CN (λb=>HC b=Nn) (d+1) H' p l T->Bu K CN (λb=>HC b=Nn) (d+1) HF p l T:=λz=>Bu.imp a6 (λ_ y=>y) _ (Bu.imp a3 (λ_ y=>y) _ (z.mono sD));refine yI3 _ _ (qs++[q']) #[rfl,?_,?_,?_,?_,?_,?_]
  .rw[<-hF,<-hE];exact((sm.trans sD).upd (sA.free al) _).upd a9 _
  .exact su.stays (su.stays (bg.same sD) a3) a6
  .rw[<-hF,ai];have:(c7 (aq (d+1)) l s)[j+1]?=Sm (z.1+aq (d+1) z.2):=by
    unfold c7;rw[zaR,yf,ad];rfl
   unfold fW;rw[rT (i:=j+1),this,yH];rfl
  .rw[<-hF,aw b0.symm,eE,yH];rfl
  .intro b hb;refine a8 b (sD.free ?_);rw[<-hF,<-hE]at hb;by_cases e1:b=lp
   .rw[e1,ai]at hb;cases hb
   .rw[aw e1]at hb;by_cases e2:b=bp
    .rw[e2,ai]at hb;cases hb
    .rw[aw e2]at hb;exact hb
  .rw[rT,ad];exact eY (R:=λq (z:Nat×List vr)=>Bu K CN (λb=>HC b=Nn) (d+1) HF q z.1 z.2) (Bu.imp a6 (λ_ y=>y) _ cd) (LG.imp' (λq z y=>up y) ab)
 .intro σ H';refine yF3 λo4 o5 qs=>yB7 ?_;rintro rfl sm bg ac W a8 ab;rw[ze,bc,tO]at ab;have cc:(c7 (aq d) l s).take ((bs.map V.ref).length+1)=c7 (aq d) l s:=by
   rw[HS];unfold c7;rw[ye,ze,ze,bc];exact zu _
  rw[cc]at ac;rw?;refine yI3 a (kindOf s) _ #[rfl,su.of (sm _ _ b1),be,λhp HD sD a7=>?_];rw[as]at a7;have bt:(V.str (kindOf s)::(dS s++bs.map V.ref)).take ((dS s).length+1)=V.str (kindOf s)::dS s:=by rw[JP,List.take_left'];rfl
  rw[bt]at a7;cbv;intro x dx hx cz c5;generalize hM:upd (upd HD dx (.own x)) x (.ins CN dx [])=HM;have sM:sg HD HM:=by rw[<-hM];exact(ak cz (.own x)).upd hx _
  have eM:HM x=Sm (.ins CN dx []):=by rw[<-hM,ai]
  refine yI7 x dx hp (kindOf s) (dS s) lp bp #[rfl,eM,a7.same sM,λpp HN kN eN cA=>#[rfl,?_]];have sN:sg HD HN:=λb o e=>kN b o (sM _ _ e) (a_ e hx);have c2:sg H HN:=(sm.trans sD).trans sN;have ce:∀b,HC b=Nn->H b=Nn:=λb z=>(a4.trans sC).free z;refine q x HN c2 (yI5 dx pp lp bp qs #[eN,cA,a9,sN _ _ (sD _ _ ac),sA.free al,sN _ _ (sD _ _ W),?_]);exact LG.imp' (λq z y=>Bu.imp (Cw.of (sD.trans sN)) ce d y) ab
theorem w6(D0:xn K mg "numbered_step" ba) (D:xn K mg "numbered_steps" bL) (W:aH P w K mg base 2 "head_of" ["step"] (kO K)) (O:aH P w K mg base 3 "blocks_of" ["step"] (jd K)) (F:aH P w K mg base 1 "line_behind" qAU (jO K CN))
  (J:u3 P w K mg base 1 "NumberedStep" CN qAT (oB K CN)):∀d:Nat,aH P w K mg base (2*d+4) "numbered_steps" qAU (rC K CN d)
 | 0=>D.cal (k:=3) CW (λf a4 A outer s H vs Q E hr h=>by revert h;refine yF4 λp l T S=>yB3 ?_;rintro rfl z _;exact z.elim)
 | d+1=>by
  have U:=G4 D0 W O F J (w6 D0 D W O F J d);refine D.cal (k:=2*d+5) CW (λf a4 A outer s H vs Q E hr h=>?_);revert h;refine yF4 λp l T S=>yB5 ?_;rintro rfl ⟨h0,as,h1,h2⟩ ok hz q;have al:=aQ h2;have a9:=wm d T;refine⟨_,(ah (av 2 CW.nd (aI ae))
   (ah (bT xm rfl (bJ K (pv 0)) (aV 3 CW.nd) (aj (bo (bB K xl mB mF bw (pv 2) (aa (ax U hr (aa (pv 3) (aa (ax F hr (aa (pv 2) (aa (pv 1) ae)) (hle:=())) ae)) (hle:=())) ae)))))
   (aj (aA (pv 2))))),?_⟩
  cbv;refine#[∅,λY ag=>?_];∎;rename_i HA sA eA;rw?;refine#[#[_,ud.of (sA _ _ h1)],?_];have a3:¬ HA Y=Nn:=λz=>by rw[eA]at z;cases z
  refine b6 (xs:=as.map V.ref) (λi σ H'=>∃(o3:LR) (ns:LL),σ=[Sm (.ref p),Sm (.int (l:Int)),Sm (.ref Y),o3]/\sg H H'/\H' Y=Sm (.lst (ns.map V.ref))/\(∀b,H' b=Nn->HA b=Nn)/\
    LG (λa (z:Nat×vr)=>Ca K CN (aq d) (λb=>HA b=Nn) (Bu K CN (λb=>HA b=Nn) d H') H' a z.1 z.2) ns (fL (bz (aq d)) l (T.take i)))
   (yI2 Nn ([]) #[rfl,sA,eA,λ_ z=>z,.nil]) (λi σ H' _ h=>by revert h;refine yF2 λ_ _=>yB3 λ_ sm _=>?_;exact ud.of (sm _ _ h1)) ?_ ?_
  .intro i v σ H' hv;refine yF2 λo3 ns=>yB5 ?_;rintro rfl sm n1 nf n2;have hi:i<as.length:=by have:=(KO.mp hv).1;simpa using this
   rw[yf,zg hi]at hv;cases hv;let#[s,hs,a6]:=cP h2 (zg hi);have Z:=me hs;have bc:=n8 (d:=d) Z;have a8:=sS (d:=d) (i:=i) (T:=T);have ab:=aQ n2;rw[gQ,sQ]at ab;cbv;refine#[#[_,ud.of n1],?_];refine yI5 Y l d (T.take i) (λ_=>True) #[rfl,#[trivial,ns,n1,LG.imp' (λa z y=>y.imp (Cw.of (sg.refl H')) (λ_ _=>trivial) λq l b y'=>Bu.imp (Cw.of (sg.refl H')) (λ_ _=>trivial) d y') n2],(),?_];refine yI4 (as[i]) (l+aq (d+1) (T.take i)) s S #[rfl,?_,ok s Z,(),λq' HD sD a7=>?_]
   .exact Ct.imp (λb xs e=>sm _ _ e) (λq b y=>y.mono sm) a6
   refine#[_,sD _ _ n1,cI (by rw[ze];lia),?_];generalize hE:upd HD Y _=HE;have eE:HE Y=Sm (.lst ((ns++[q']).map V.ref)):=by rw[<-hE,ai,yH];rfl
   have ac:Cw (λb=>HA b=Nn) HD HE:=by rw[<-hE];exact Cw.upd (sD _ _ n1) a3
   have a5:Ca K CN (aq d) (λb=>HA b=Nn) (Bu K CN (λb=>HA b=Nn) d HD) HD q' (l+aq (d+1) (T.take i)) s:=a7.imp (Cw.of (sg.refl HD)) nf λq l b y'=>Bu.imp (Cw.of (sg.refl HD)) nf d y';have up:∀ {a:so} {l:Nat} {s:vr},Ca K CN (aq d) (λb=>HA b=Nn) (Bu K CN (λb=>HA b=Nn) d HD) HD a l s->Ca K CN (aq d) (λb=>HA b=Nn) (Bu K CN (λb=>HA b=Nn) d HE) HE a l s:=λz=>z.imp ac (λ_ y=>y) λq l b y'=>Bu.imp ac (λ_ y=>y) d y';refine yI2 _ (ns++[q']) #[rfl,?_,eE,?_,?_]
   .rw[<-hE];exact(sm.trans sD).upd ag _
   .intro b hb;refine nf b (sD.free ?_);rw[<-hE]at hb;by_cases e1:b=Y
    .rw[e1,ai]at hb;cases hb
    .rw[aw e1]at hb;exact hb
   .have et:T.take (i+1)=T.take i++[s]:=by rw[rT,hs];rfl
    rw[et,kY];exact eY (R:=λa (z:Nat×vr)=>Ca K CN (aq d) (λb=>HA b=Nn) (Bu K CN (λb=>HA b=Nn) d HE) HE a z.1 z.2) (up a5) (LG.imp' (λa z y=>up (Ca.mono y sD)) n2)
  .intro σ H';refine yF2 λo3 ns=>yB5 ?_;rintro rfl sm n1 nf n2;rw[ze,al,tO]at n2;rw?;have ad:∀b,HA b=Nn->H b=Nn:=λb z=>sA.free z;exact q Y H' sm #[ag,ns,n1,LG.imp' (λa z y=>y.imp (Cw.of (sg.refl H')) ad λq l b y'=>Bu.imp (Cw.of (sg.refl H')) ad d y') n2]
end
abbrev aC:=LM
variable{r:aC}{R:List aC}
noncomputable def cD(kv:List (aT×V))(k:aT):V:=(bU kv k).getD .non
noncomputable def iN(n:Nat):V:=.int (n:Int)
noncomputable def fI(kv:List (aT×V))(l:Nat)(ws:LI):aC:=
 if ws.headD "" = "do" then [.str "do",iN l,cD kv (.inr (ws.getD 2 "")),.str (ws.getD 1 "")] else .str (ws.headD "")::iN l::(ws.drop 1).map λn=>cD kv (.inr n)
section
variable(kv:List (aT×V))(f:Bool->Nat->Nat->List vr->List aC)(cnt:List vr->Nat)
noncomputable def fc(t:Bool)(a l:Nat)(x y:Str)(b:List vr):List aC:=
 [[.str "copy",iN l,cD kv (.inl l),cD kv (.inr x)],[.str "do",iN l,cD kv (.inl l),.str "lend"],[.str "copy",iN l,cD kv (.inr y),cD kv (.inl l)]]++f t (a+3) (l+1) b ++
 [[.str "do",iN (l+1+cnt b),cD kv (.inl l),.str "back"],[.str "drop",iN (l+1+cnt b),cD kv (.inr y)],[.str "drop",iN (l+1+cnt b),cD kv (.inl l)]]
noncomputable def jc(t:Bool)(a l:Nat)(n:Int)(b c:List vr):List aC:=
 [[.str "test",iN l,.int n,iN (a+1+(f t (a+1) (l+1) b).length+1)]]++f t (a+1) (l+1) b ++
 [[.str "jump",iN (l+1+cnt b),iN (a+1+(f t (a+1) (l+1) b).length+1+(f t (a+1+(f t (a+1) (l+1) b).length+1) (l+1+cnt b+1) c).length)]]++f t (a+1+(f t (a+1) (l+1) b).length+1) (l+1+cnt b+1) c
noncomputable def dR(a l:Nat)(n:Int)(b:List vr):List aC:=
 [[.str "test",iN l,.int n,iN (a+1+(f false (a+1) (l+1) b).length+1)]]++f false (a+1) (l+1) b++[[.str "jump",iN (l+1+cnt b),iN a]]
noncomputable def dn(t:Bool)(a l:Nat)(n:Int)(b:List vr):List aC:=
 if t=true then [[.str "test",iN l,.int n,iN (a+1+(f true (a+1) (l+1) b).length+(dR f cnt (a+1+(f true (a+1) (l+1) b).length) l n b).length)]]++f true (a+1) (l+1) b++dR f cnt (a+1+(f true (a+1) (l+1) b).length) l n b
 else dR f cnt a l n b
noncomputable def cZ(t:Bool)(a l:Nat):vr->List aC
 | .plain ws=>[fI kv l ws]
 | .lend x y b=>fc kv f cnt t a l x y b
 | .ite n b c=>jc f cnt t a l n b c
 | .whl n b=>dn f cnt t a l n b
end
noncomputable def cx(g:Nat->Nat->vr->List aC)(c:vr->Nat):Nat->Nat->List vr->List aC
 | _,_,[]=>[]
 | a,l,s::T=>g a l s++cx g c (a+(g a l s).length) (l+c s) T
theorem l8(g:Nat->Nat->vr->List aC)(c:vr->Nat)(s:vr):∀(T:List vr) (a l:Nat),cx g c a l (T++[s])=cx g c a l T++g (a+(cx g c a l T).length) (l+(T.map c).sum) s
 | [],a,l=>by simp[cx]
 | t::T,a,l=>by
  show g a l t++cx g c _ _ (T++[s])=(g a l t++cx g c _ _ T)++_;have e:(cx g c a l (t::T)).length=(g a l t).length+(cx g c (a+(g a l t).length) (l+c t) T).length:=jn;rw[l8 g c s T,uP,e,yX,iS,oS,oS]
noncomputable def aD(kv:List (aT×V)):Nat->Bool->Nat->Nat->List vr->List aC
 | 0,_,_,_,_=>[]
 | d+1,t,a,l,T=>cx (cZ kv (aD kv d) (aq d) t) (bz (aq d)) a l T
theorem jT{f:Bool->Nat->Nat->List vr->List aC}{cnt:List vr->Nat}{n:Int}{b:List vr}:(dR f cnt a l n b).length=(f false (a+1) (l+1) b).length+2:=by
 unfold dR;simp
theorem Cz{kv:List (aT×V)}{f:Bool->Nat->Nat->List vr->List aC}{cnt:List vr->Nat}{m:Nat}(F:∀a l T,(f false a l T).length<=6*cnt T)(h1:∀a l T,(f true a l T).length<=6*m*cnt T)(J:1<=m):∀(s:vr) (t:Bool) (a l:Nat),(cZ kv f cnt t a l s).length<=(if t=true then 6*(m+1) else 6)*bz cnt s
 | .plain ws,t,a,l=>by
  show 1<=_*1;split<;>lia
 | .lend x y b,t,a,l=>by
  cases t with
  | false=>
   have:=F (a+3) (l+1) b;show (fc kv f cnt false a l x y b).length<=6*(cnt b+2);unfold fc;simp only[jn,ye,yU];lia
  | true=>
   have:=h1 (a+3) (l+1) b;show (fc kv f cnt true a l x y b).length<=6*(m+1)*(cnt b+2);unfold fc;simp only[jn,ye,yU];have e:6*(m+1)*(cnt b+2)=6*m*cnt b+6*cnt b+12*m+12:=by rw[Ic 6 m 1,Nat.add_mul,Ic,Ic];lia
   lia
 | .ite n b c,t,a,l=>by
  cases t with
  | false=>
   have:=F (a+1) (l+1) b;have:=F (a+1+(f false (a+1) (l+1) b).length+1) (l+1+cnt b+1) c;show (jc f cnt false a l n b c).length<=6*(cnt b+cnt c+3);unfold jc;simp only[jn,ye,yU];lia
  | true=>
   have:=h1 (a+1) (l+1) b;have:=h1 (a+1+(f true (a+1) (l+1) b).length+1) (l+1+cnt b+1) c;show (jc f cnt true a l n b c).length<=6*(m+1)*(cnt b+cnt c+3);unfold jc;simp only[jn,ye,yU];have e:6*(m+1)*(cnt b+cnt c+3)=6*m*cnt b+6*m*cnt c+18*m+6*cnt b+6*cnt c+18:=by rw[Ic 6 m 1,Nat.add_mul,Ic,Ic,Ic,Ic];lia
   lia
 | .whl n b,t,a,l=>by
  cases t with
  | false=>
   have:=F (a+1) (l+1) b;show (dn f cnt false a l n b).length<=6*(cnt b+2);unfold dn;rw[KQ ∅,jT];lia
  | true=>
   have:=h1 (a+1) (l+1) b;have:=F (a+1+(f true (a+1) (l+1) b).length+1) (l+1) b;show (dn f cnt true a l n b).length<=6*(m+1)*(cnt b+2);unfold dn;rw[KZ rfl];simp only[jn,ye,yU,jT];have e:6*(m+1)*(cnt b+2)=6*m*cnt b+6*cnt b+12*m+12:=by rw[Ic 6 m 1,Nat.add_mul,Ic,Ic];lia
   lia
theorem t_{g:Nat->Nat->vr->List aC}{c:vr->Nat}{k:Nat}(h:∀s a l,(g a l s).length<=k*c s):∀(T:List vr) (a l:Nat),(cx g c a l T).length<=k*(T.map c).sum
 | [],_,_=>gV _
 | s::T,a,l=>by
  have:=h s a l;have:=t_ h T (a+(g a l s).length) (l+c s);show (g a l s++cx g c (a+(g a l s).length) (l+c s) T).length<=k*(c s+(T.map c).sum);rw[jn,Ic];lia
theorem ml(kv:List (aT×V)):∀(d:Nat) (a l:Nat) (T:List vr),(aD kv d false a l T).length<=6*aq d T/\(aD kv d true a l T).length<=6*(d+1)*aq d T
 | 0,_,_,_=>#[gV _,gV _]
 | d+1,a,l,T=>by
  have ih:=ml kv d;have st:=Cz (kv:=kv) (f:=aD kv d) (cnt:=aq d) (m:=d+1) (λa l T=>(ih a l T).1) (λa l T=>(ih a l T).2) ();exact#[t_ (k:=6) (λs a l=>by have:=st s false a l;simpa using this) T a l,t_ (k:=6*(d+1+1)) (λs a l=>by have:=st s true a l;simpa using this) T a l]
def bN(H:Hp)(c:so)(r:aC):Prop:=H c=Sm (.tup r)
noncomputable def di(ws:LI):LI:=if ws.headD "" = "do" then [ws.getD 2 ""] else ws.drop 1
def iY(kv:List (aT×V))(k:aT):Prop:=bU kv k=Sm (cD kv k)
def oH(kv:List (aT×V))(f:Nat->List vr->Prop)(cnt:List vr->Nat)(l:Nat):vr->Prop
 | .plain ws=>(ws.headD "" = "do" -> ws.length=3)/\∀n∈di ws,iY kv (.inr n)
 | .lend x y b=>iY kv (.inr x)/\iY kv (.inr y)/\iY kv (.inl (l:Int))/\f (l+1) b
 | .ite _ b c=>f (l+1) b/\f (l+1+cnt b+1) c
 | .whl _ b=>f (l+1) b
def fv(kv:List (aT×V)):Nat->Nat->List vr->Prop
 | 0,_,_=>False
 | d+1,l,T=>∀z∈fL (bz (aq d)) l T,oH kv (fv kv d) (aq d) z.1 z.2
section
variable{CN:so}
def CP(K:K_)(C:so):Sp:=λvs H Q _=>∃(a sp:so) (l:Nat) (ws:LI) (kv:List (aT×V)) (S:so->Prop) (PA:so->Nat->List vr->Prop) (g:List vr->Nat) (f:Nat->List vr->Prop),vs=[.ref a,.ref sp]/\Ca K C g S PA H a l (.plain ws)/\ig ws/\H sp=Sm (.dK kv)/\oH kv f g l (.plain ws)/\
 ∀(t:so) (H':Hp),sg H H'->bN H' t (fI kv l ws)->Q (.ref t) H'
theorem Aa(D:xn K mg "simple_row" bR) (O:mg "tuple" = Nn) (J:Fl K CN "kind") (F:Fl K CN "parts") (U:Fl K CN "lines"):aH P w K mg base 1 "simple_row" ["step","slots"] (CP K CN):=by
 refine D.cal (k:=0) GO (λf a5 A outer s H vs Q E hr h=>?_);revert h;refine yF9 λa sp l ws kv S PA g ff=>yB6 ?_;rintro rfl ⟨dx,pp,lp,bp,bs,Z,g2,g3,g4,g5,g6,g7⟩ ok ac ⟨as,W⟩ q;refine⟨_,(ah (av 2 GO.nd (am (au K) (bK U (pv 0)) af))
   (ah (aS (az aM (bK J (pv 0)) ay (aB _)) (aj (aA (aN (aa ay (aa (pv 2) (aa (am (sJ K) (pv 1 (hv:=Ld)) (am (au K) (bK F (pv 0)) af)) (aa (am (au K) (bK F (pv 0)) af) ae))))))) aL)
   (aj (aA (ar (ee K) (aN (aa (bK J (pv 0)) (aa (pv 2) ae))) (fS (pF K) O mh (aa (eV (C5.to (fsc:=(rd bR)) (N:=qAj) (N0:=qAj) (T:=["name"])) rfl ((iH K) (bK F (pv 0))) (λ_ _ _ _=>(aV 3 (show (["step","slots","line","name"]:LI).Nodup from ⋯))) (cN (show (qAj:LI).length<=3 from ∅)) (λ_ _ _ _=>eJ) (λ_ _ _ _=>(am (sJ K) (pv 1 (hv:=(cJ (rd bR) ⋯))) (pv 3)))) ae))))))),?_⟩
 cbv;refine yI3 dx _ _ #[Z,d_ _ _ _ _,?_];cbv;refine X2 (ud.of g4) (fu (i:=0) (n:=l) rfl) ?_;rw?;refine yI3 dx _ _ #[Z,gg _ _ _ _,?_];cbv;unfold fI at q;unfold di at W;refine aP (λc=>?_) (λc=>?_)
 .have Y:ws.headD "" = "do" := c;rw[KZ Y]at q W;obtain⟨k0,w0,x0,rfl⟩ : ∃k w x,ws=[k,w,x]:=by
   have:=as Y
   match ws,this with
   | [k,w,x],_=>exact yI3 k w x rfl
  have hx:=W x0 '~';refine yI3 dx _ _ #[Z,fk _ _ _ _,?_];cbv;refine yI2 _ _ #[.inr g2,ao (j:=1) (v:=.str x0) rfl,?_];refine .inr (yI4 sp kv (.inr x0) _ #[rfl,rfl,ac,hx,?_]);refine yI3 dx _ _ #[Z,fk _ _ _ _,?_];cbv;refine yI2 _ _ #[.inr g2,ao (j:=0) (v:=.str w0) rfl,∅,λt ht=>?_];exact q t _ (ak ht _) ai
 .have Y:¬ ws.headD "" = "do" := c;rw[KQ Y]at q W;rw?;refine yI3 dx _ _ #[Z,gg _ _ _ _,∅,λt1 a3=>?_];generalize hH1:upd H t1 _=H1;have s1:sg H H1:=by rw[<-hH1];exact ak a3 _
  have a4:H1 t1=Sm (.tup [.str (kindOf (.plain ws)),iN l]):=by rw[<-hH1];exact ai
  refine yI3 dx _ _ #[s1 _ _ Z,fk _ _ _ _,?_];refine#[pp,rfl,#[_,g2.same s1],λL hL=>?_];have ag:su K H1 pp ((ws.drop 1).map V.str):=g2.same s1;have ab:=s1 _ _ ac;refine kJ (xs:=(ws.drop 1).map V.str) (λi ys H'=>sg H1 H'/\H' L=Sm (.lst ys)/\ys=((ws.drop 1).take i).map λn=>cD kv (.inr n)) #[ak hL _,ai,rfl] (λi ys H' _ hh=>ag.same hh.1) ?_ ?_
  .rintro i ys H' v hv hi ⟨sm,hl,rfl⟩;rw[ze]at hi;rw[yf,zg hi]at hv;cases hv;have hn:=W _ (xF hi);have h3:=ok.three;have al:(ws.drop 1).length<=3:=by rw[Jx];lia
   cbv;refine .inr (yI4 sp kv (.inr (ws.drop 1)[i]) _ #[rfl,rfl,sm _ _ ab,hn,?_]);refine iD (by rw[ze];exact hi) (by rw[ze,sQ];lia) (by rw[ze];exact aJ ()) hl #[sm.upd hL _,ai,?_];rw[rT,zg hi,yH];rfl
  .rintro ys H2 ⟨s2,e2,rfl⟩;rw[ze,tO]at e2;have h2:=ok.two;have h3:=ok.three;have al:(ws.drop 1).length<=3/\1<=(ws.drop 1).length:=by rw[Jx];lia
   cbv;refine#[_,.inl #[ud.of e2,λt2 a6=>?_]];∎;rename_i H3 s3 et2;refine yI2 _ _ #[su.of (s3 _ _ (s2 _ _ a4)),su.of et2,'~',by rw[ze];exact aJ (by simp only[ye,yU];lia),λhz=>?_,λ_ t3 ad=>?_]
   .have:=congrArg List.length hz;rw[ze]at this;simp only[yU]at this;lia
   .exact q t3 _ (((s1.trans s2).trans s3).trans (ak ad _)) ai
end
def B5(H:Hp)(q:so)(rows:List aC):Prop:=∃as:LL,H q=Sm (.lst (as.map V.ref))/\LG (bN H) as rows
theorem B5.mono{rows:List aC}(h:B5 H q rows)(s:sg H H'):B5 H' q rows:=let ⟨as,h1,h2⟩:=h;#[as,s _ _ h1,LG.imp' (λ_ _ z=>s _ _ z) h2]
theorem eW{α β : Type}{R:α->β->Prop}:∀ {xs zs:List α} {ys F:List β},LG R xs ys->LG R zs F->LG R (xs++zs) (ys++F)
 | _,_,_,_,.nil,h=>h
 | _,_,_,_,.cons a t,h=>.cons a (eW t h)
theorem eR{x:so}{F bs:LL}{O J:List aC}(a2:LG (bN H) F O)(S:LG (bN H) bs J)(hx:H x=Nn):B5 (upd H x (.lst (F.map V.ref++bs.map V.ref))) x (O++J):=by
 have s:=ak hx (.lst (F.map V.ref++bs.map V.ref));exact#[F++bs,by rw[ai,yH],eW (LG.imp' (λ_ _ z=>s _ _ z) a2) (LG.imp' (λ_ _ z=>s _ _ z) S)]
theorem dG{O bs:LL}{J F:List aC}(a2:LG (bN H) O J)(S:LG (bN H) bs F)(hl:J.length+F.length<=1000000):(O.map V.ref).length+(bs.map V.ref).length<=L_:=by
 rw[ze,ze,aQ a2,aQ S];exact aJ hl
theorem iJ{c x:so}(F:bN H c r)(hx:H x=Nn):B5 (upd H x (.lst [.ref c])) x [r]:=#[[c],ai,.cons (ak hx _ _ _ F) .nil]
section
variable{CN:so}
def iI(K:K_)(C:so)(d:Nat):Sp:=λvs H Q _=>∃(p sp:so) (a l:Nat) (t:Bool) (T:List vr) (kv:List (aT×V)) (S:so->Prop),vs=[.ref p,.int (a:Int),.ref sp,.bl t]/\Bu K C S d H p l T/\dC d T/\H sp=Sm (.dK kv)/\fv kv d l T/\aq d T<=200/\d<=20/\
 ∀(q:so) (H':Hp),sg H H'->H q=Nn->B5 H' q (aD kv d t a l T)->Q (.ref q) H'
def Ae(K:K_)(C:so)(d:Nat):Sp:=λvs H Q _=>∃(x sp:so) (a l:Nat) (n:Int) (b:List vr) (kv:List (aT×V)) (S:so->Prop),vs=[.ref x,.int (a:Int),.ref sp]/\Ca K C (aq d) S (Bu K C S d H) H x l (.whl n b)/\dC d b/\H sp=Sm (.dK kv)/\fv kv d (l+1) b/\aq d b<=200/\d<=20/\
 ∀(q:so) (H':Hp),sg H H'->H q=Nn->B5 H' q (dR (aD kv d) (aq d) a l n b)->Q (.ref q) H'
theorem eK{kv:List (aT×V)}{d a l:Nat}{t:Bool}{T:List vr}(h:aq d T<=200)(hd:d<=20):(aD kv d t a l T).length<=30000:=by
 have h1:=ml kv d a l T;have h2:6*(d+1)*aq d T<=6*21*200:=Nat.mul_le_mul () h;cases t with
 | false=>lia
 | true=>lia
theorem EG(D:xn K mg "loop_rows" ck) (Z:wAK mg) (U:Fl K CN "parts") (F:Fl K CN "lines") (O:Fl K CN "blocks") {d:Nat} (J:aH P w K mg base (3*d+2) "rows_of" qAK (iI K CN d)):aH P w K mg base (3*d+3) "loop_rows" qAu (Ae K CN d):=by
 refine D.cal (k:=3*d+2) Gy (λf be A outer s H vs Q E hr h=>?_);revert h;refine yF8 λx sp a l n b kv S=>yB8 ?_;rintro rfl ⟨dx,pp,lp,bp,bs,g1,g2,g3,g4,g5,g6,g7⟩ ok a7 hk hc hd q;obtain⟨q0,rfl⟩ : ∃q0,bs=[q0]:=by
  cases g7 with
  | cons _ t=>cases t;exact#[_,rfl]
 have hb:Bu K CN S d H q0 (l+1) b:=by
  cases g7 with
  | cons h _=>exact h
 refine⟨_,(ah (av 3 Gy.nd (ax J hr (aa (am (au K) (bK O (pv 0)) af) (aa (ar aF (pv 1) af) (aa (pv 2) (aa gC ae)))) (hle:=())))
   (ah (av 4 Gy.nd (ar aF (ar aF (ar aF (pv 1) af) (br (aU K) Z bG (aa (pv 3) ae))) af))
   (aj (aA (ar aF (ar aF (aI (aa (aN (aa ay (aa (am (au K) (bK F (pv 0)) af) (aa (am (au K) (bK U (pv 0)) af) (aa (pv 4) ae))))) ae)) (pv 3)) (aI (aa (aN (aa ay (aa (am (au K) (bK F (pv 0)) af) (aa (pv 1) ae)))) ae))))))),?_⟩
 cbv;refine yI3 dx _ _ #[g1,ip _ _ _ _,?_];cbv;refine X2 (ud.of g6) (ao (j:=0) (v:=V.ref q0) rfl) ?_;refine yI8 q0 sp (a+1) (l+1) false b kv S #['~',hb,ok,a7,hk,hc,hd,λwq H1 s1 bc hW=>?_];have a6:=eK (kv:=kv) (a:=a+1) (l:=l+1) (t:=false) hc hd;generalize hWW:aD kv d false (a+1) (l+1) b=W at hW a6;let#[bt,w1,w2]:=id hW;have wl:=aQ w2;rw?;refine#[_,.inl (ud.of w1),?_];rw[ze,wl];rw?;refine yI3 dx _ _ #[s1 _ _ g1,d_ _ _ _ _,?_];cbv;refine X2 (ud.of (s1 _ _ g4)) (fu (i:=0) (n:=l) rfl) ?_;refine yI3 dx _ _ #[s1 _ _ g1,fk _ _ _ _,?_];cbv;refine yI2 _ _ #[.inr (g2.same s1),ao (j:=0) (v:=V.int n) rfl,∅,λt1 bg=>?_];∎;rename_i H2 s2 hH2;have a9:bN H2 t1 [.str "test",iN l,.int n,iN (a+1+W.length+1)]:=by
  show H2 t1=_;rw[hH2];simp[iN]
 refine#[∅,λl1 ad=>?_];have s3:=ak ad (.lst [.ref t1]);have L1:=iJ a9 ad;generalize upd H2 l1 (.lst [.ref t1])=H3 at s3 L1 |-;have al:=s2.trans s3;let#[ac,a1,a2]:=L1
 let#[ag,b1,b2]:=hW.mono al;refine yI2 _ _ #[a1,b1,dG a2 b2 (by simp only[ye,yU];lia),λl2 a3=>?_];have s4:=ak a3 (.lst (ac.map V.ref++ag.map V.ref));have L2:=eR a2 b2 a3;generalize upd H3 l2 (.lst (ac.map V.ref++ag.map V.ref))=H4 at s4 L2 |-;have Y:=(s1.trans al).trans s4;refine yI3 dx _ _ #[Y _ _ g1,d_ _ _ _ _,?_]
 cbv;refine X2 (ud.of (Y _ _ g4)) (fu (i:=1) (n:=l+1+aq d b) rfl) #[∅,λt2 bh=>?_];∎;rename_i H5 s5 hH5;have a8:bN H5 t2 [.str "jump",iN (l+1+aq d b),iN a]:=by
  show H5 t2=_;rw[hH5];simp[iN]
 refine#[∅,λl3 as=>?_];have s6:=ak as (.lst [.ref t2]);have L3:=iJ a8 as;generalize upd H5 l3 (.lst [.ref t2])=H6 at s6 L3 |-;let#[a4,c1,c2]:=L2.mono (s5.trans s6)
 let#[a5,d1,d2]:=L3;refine yI2 _ _ #[c1,d1,dG c2 d2 (by simp only[jn,ye,yU];lia),λl4 ab=>?_];have s7:=ak ab (.lst (a4.map V.ref++a5.map V.ref));have L4:=eR c2 d2 ab;generalize upd H6 l4 (.lst (a4.map V.ref++a5.map V.ref))=H7 at s7 L4 |-;refine q l4 H7 (((Y.trans s5).trans s6).trans s7) (((Y.trans s5).trans s6).free ab) ?_
 unfold dR;rw[hWW];exact L4
end
section
variable{CN:so}
def DE(K:K_)(C:so)(d:Nat):Sp:=λvs H Q _=>∃(x sp:so) (a l:Nat) (t:Bool) (n:Int) (b:List vr) (kv:List (aT×V)) (S:so->Prop),vs=[.ref x,.int (a:Int),.ref sp,.bl t]/\Ca K C (aq d) S (Bu K C S d H) H x l (.whl n b)/\dC d b/\H sp=Sm (.dK kv)/\fv kv d (l+1) b/\aq d b<=200/\d<=20/\
 ∀(q:so) (H':Hp),sg H H'->H q=Nn->B5 H' q (dn (aD kv d) (aq d) t a l n b)->Q (.ref q) H'
theorem C9(D:xn K mg "while_rows" bF) (O:wAK mg) (ab:Fl K CN "parts") (Z:Fl K CN "lines") (U:Fl K CN "blocks") {d:Nat} (J:aH P w K mg base (3*d+2) "rows_of" qAK (iI K CN d)) (F:aH P w K mg base (3*d+3) "loop_rows" qAu (Ae K CN d)):aH P w K mg base (3*d+4) "while_rows" qAM (DE K CN d):=by
 refine D.cal (k:=3*d+3) F4 (λf b0 A outer s H vs Q E hr h=>?_);revert h;refine yF9 λx sp a l t n b kv S=>yB8 ?_;rintro rfl hN ok ad hk hc hd q;refine yE5 (id hN) λdx pp lp bp bs=>yB7 λg1 g2 g3 g4 g5 g6 g7=>?_;obtain⟨q0,rfl⟩ : ∃q0,bs=[q0]:=by
  cases g7 with
  | cons _ t=>cases t;exact#[_,rfl]
 have hb:Bu K CN S d H q0 (l+1) b:=by
  cases g7 with
  | cons h _=>exact h
 refine⟨_,(ah (aS (i0 (cQ (pv 3))) (aj (aA (ax F hr (aa (pv 0) (aa (pv 1) (aa (pv 2) ae))) (hle:=())))) aL)
   (ah (av 4 F4.nd (ax J hr (aa (am (au K) (bK U (pv 0)) af) (aa (ar aF (pv 1) af) (aa (pv 2) (aa gC ae)))) (hle:=())))
   (ah (av 5 F4.nd (ax F hr (aa (pv 0) (aa (ar aF (ar aF (pv 1) af) (br (aU K) O bG (aa (pv 4) ae))) (aa (pv 2) ae))) (hle:=())))
   (ah (av 6 F4.nd (ar aF (ar aF (ar aF (pv 1) af) (br (aU K) O bG (aa (pv 4) ae))) (br (aU K) O bG (aa (pv 5) ae))))
   (aj (aA (ar aF (ar aF (aI (aa (aN (aa ay (aa (am (au K) (bK Z (pv 0)) af) (aa (am (au K) (bK ab (pv 0)) af) (aa (pv 6) ae))))) ae)) (pv 4)) (pv 5)))))))),?_⟩
 cbv;cases t with
 | false=>
  refine aP (λ_=>?_) (λc=>absurd rfl c);exact yI8 x sp a l n b kv S #[rfl,hN,ok,ad,hk,hc,hd,λq' H' s' be L'=>q q' H' s' be (by unfold dn;rw[KQ ∅];exact L')]
 | true=>
  refine aP (λc=>absurd c ∅) (λ_=>?_);rw?;refine yI3 dx _ _ #[g1,ip _ _ _ _,?_];cbv;refine X2 (ud.of g6) (ao (j:=0) (v:=V.ref q0) rfl) ?_;refine yI8 q0 sp (a+1) (l+1) true b kv S #['~',hb,ok,ad,hk,hc,hd,λwq H1 s1 bh hW=>?_];have a9:=eK (kv:=kv) (a:=a+1) (l:=l+1) (t:=true) hc hd;generalize hWW:aD kv d true (a+1) (l+1) b=W at hW a9;let#[b4,w1,w2]:=id hW;have wl:=aQ w2;rw?;refine#[_,.inl (ud.of w1),?_];rw[ze,wl];cbv;refine yI8 x sp (a+1+W.length) l n b kv S #['~',hN.mono s1,ok,s1 _ _ ad,hk,hc,hd,λlq H2 s2 bg ac=>?_];have a8:(dR (aD kv d) (aq d) (a+1+W.length) l n b).length<=30002:=by
   rw[jT];have:=eK (kv:=kv) (a:=a+1+W.length+1) (l:=l+1) (t:=false) hc hd;lia
  generalize hLL:dR (aD kv d) (aq d) (a+1+W.length) l n b=LP at ac a8;let#[bt,l1,l2]:=id ac;have ll:=aQ l2;have Y:=s1.trans s2;rw?;refine#[_,.inl (ud.of (s2 _ _ w1)),?_];rw[ze,wl];cbv;refine#[_,.inl (ud.of l1),?_];rw[ze,ll];rw?;refine yI3 dx _ _ #[Y _ _ g1,d_ _ _ _ _,?_];cbv;refine X2 (ud.of (Y _ _ g4)) (fu (i:=0) (n:=l) rfl) ?_;refine yI3 dx _ _ #[Y _ _ g1,fk _ _ _ _,?_];cbv;refine yI2 _ _ #[.inr (g2.same Y),ao (j:=0) (v:=V.int n) rfl,∅,λt1 b3=>?_];∎;rename_i H3 s3 hH3;have bc:bN H3 t1 [.str "test",iN l,.int n,iN (a+1+W.length+LP.length)]:=by
   show H3 t1=_;rw[hH3];simp[iN]
  refine#[∅,λm1 a5=>?_];have s4:=ak a5 (.lst [.ref t1]);have L1:=iJ bc a5;generalize upd H3 m1 (.lst [.ref t1])=H4 at s4 L1 |-;let#[al,a1,a2]:=L1
  let#[as,b1,b2]:=hW.mono ((s2.trans s3).trans s4);refine yI2 _ _ #[a1,b1,dG a2 b2 (by simp only[ye,yU];lia),λm2 a3=>?_];have s5:=ak a3 (.lst (al.map V.ref++as.map V.ref));have L2:=eR a2 b2 a3;generalize upd H4 m2 (.lst (al.map V.ref++as.map V.ref))=H5 at s5 L2 |-;let#[a6,c1,c2]:=L2
  let#[a7,d1,d2]:=ac.mono ((s3.trans s4).trans s5);refine yI2 _ _ #[c1,d1,dG c2 d2 (by simp only[jn,ye,yU];lia),λm3 ag=>?_];have s6:=ak ag (.lst (a6.map V.ref++a7.map V.ref));have L4:=eR c2 d2 ag;generalize upd H5 m3 (.lst (a6.map V.ref++a7.map V.ref))=H6 at s6 L4 |-;have a4:=((Y.trans s3).trans s4).trans s5;refine q m3 H6 (a4.trans s6) (a4.free ag) ?_
  unfold dn;rw[KZ rfl,hWW,hLL];exact L4
def J2(K:K_)(C:so)(d:Nat):Sp:=λvs H Q _=>∃(x sp:so) (a l:Nat) (t:Bool) (n:Int) (b c:List vr) (kv:List (aT×V)) (S:so->Prop),vs=[.ref x,.int (a:Int),.ref sp,.bl t]/\Ca K C (aq d) S (Bu K C S d H) H x l (.ite n b c)/\dC d b/\dC d c/\H sp=Sm (.dK kv)/\fv kv d (l+1) b/\fv kv d (l+1+aq d b+1) c/\aq d b<=200/\aq d c<=200/\d<=20/\
 ∀(q:so) (H':Hp),sg H H'->H q=Nn->B5 H' q (jc (aD kv d) (aq d) t a l n b c)->Q (.ref q) H'
theorem J1(D:xn K mg "if_rows" bM) (U:wAK mg) (Z:Fl K CN "parts") (O:Fl K CN "lines") (J:Fl K CN "blocks") {d:Nat} (F:aH P w K mg base (3*d+2) "rows_of" qAK (iI K CN d)):aH P w K mg base (3*d+3) "if_rows" qAM (J2 K CN d):=by
 refine D.cal (k:=3*d+2) Ep (λf cc A outer s H vs Q E hr h=>?_);revert h;refine yF10 λx sp a l t n b c kv S=>yB11 ?_;rintro rfl hN ok bt a5 hk b3 hc a3 hd q;refine yE5 (id hN) λdx pp lp bp bs=>yB7 λg1 g2 g3 g4 g5 g6 g7=>?_;obtain⟨q0,q1,rfl⟩ : ∃q0 q1,bs=[q0,q1]:=by
  cases g7 with
  | cons _ t=>cases t with
   | cons _ t=>cases t;exact yI2 _ _ rfl
 have hb:Bu K CN S d H q0 (l+1) b/\Bu K CN S d H q1 (l+1+aq d b+1) c:=by
  cases g7 with
  | cons h t=>cases t with
   | cons h' _=>exact#[h,h']
 refine⟨_,(ah (av 4 Ep.nd (ax F hr (aa (am (au K) (bK J (pv 0)) af) (aa (ar aF (pv 1) af) (aa (pv 2) (aa (pv 3) ae)))) (hle:=())))
   (ah (av 5 Ep.nd (ar aF (ar aF (pv 1) af) (br (aU K) U bG (aa (pv 4) ae))))
   (ah (av 6 Ep.nd (ax F hr (aa (am (au K) (bK J (pv 0)) af) (aa (ar aF (pv 5) af) (aa (pv 2) (aa (pv 3) ae)))) (hle:=())))
   (ah (av 7 Ep.nd (ar aF (ar aF (pv 5) af) (br (aU K) U bG (aa (pv 6) ae))))
   (ah (av 8 Ep.nd (aN (aa ay (aa (am (au K) (bK O (pv 0)) af) (aa (am (au K) (bK Z (pv 0)) af) (aa (ar aF (pv 5) af) ae))))))
   (aj (aA (ar aF (ar aF (ar aF (aI (aa (pv 8) ae)) (pv 4)) (aI (aa (aN (aa ay (aa (am (au K) (bK O (pv 0)) af) (aa (pv 7) ae)))) ae))) (pv 6))))))))),?_⟩
 cbv;refine yI3 dx _ _ #[g1,ip _ _ _ _,?_];cbv;refine X2 (ud.of g6) (ao (j:=0) (v:=V.ref q0) rfl) ?_;refine yI8 q0 sp (a+1) (l+1) t b kv S #['~',hb.1,ok,a5,hk,hc,hd,λwq H1 s1 ca hW=>?_];have bg:=eK (kv:=kv) (a:=a+1) (l:=l+1) (t:=t) hc hd;generalize hWW:aD kv d t (a+1) (l+1) b=W at hW bg;let#[cn,w1,w2]:=id hW;have wl:=aQ w2;rw?;refine#[_,.inl (ud.of w1),?_];rw[ze,wl];rw?;refine yI3 dx _ _ #[s1 _ _ g1,ip _ _ _ _,?_];cbv;refine X2 (ud.of (s1 _ _ g6)) (ao (j:=1) (v:=V.ref q1) rfl) ?_;refine yI8 q1 sp (a+1+W.length+1) (l+1+aq d b+1) t c kv S #['~',hb.2.mono s1,bt,s1 _ _ a5,b3,a3,hd,λrq H2 s2 cd hR=>?_];have b0:=eK (kv:=kv) (a:=a+1+W.length+1) (l:=l+1+aq d b+1) (t:=t) a3 hd;generalize hRR:aD kv d t (a+1+W.length+1) (l+1+aq d b+1) c=R at hR b0;let#[ce,r1,r2]:=id hR;have rl:=aQ r2;have Y:=s1.trans s2;rw?;refine#[_,.inl (ud.of r1),?_];rw[ze,rl];rw?;refine yI3 dx _ _ #[Y _ _ g1,d_ _ _ _ _,?_];cbv;refine X2 (ud.of (Y _ _ g4)) (fu (i:=0) (n:=l) rfl) ?_;refine yI3 dx _ _ #[Y _ _ g1,fk _ _ _ _,?_];cbv;refine yI2 _ _ #[.inr (g2.same Y),ao (j:=0) (v:=V.int n) rfl,∅,λt1 cm=>?_];∎;rename_i H3 s3 hH3;have bh:bN H3 t1 [.str "test",iN l,.int n,iN (a+1+W.length+1)]:=by
  show H3 t1=_;rw[hH3];simp[iN]
 rw?;refine#[∅,λm1 a4=>?_];have s4:=ak a4 (.lst [.ref t1]);have L1:=iJ bh a4;generalize upd H3 m1 (.lst [.ref t1])=H4 at s4 L1 |-;let#[ad,a1,a2]:=L1
 let#[ag,b1,b2]:=hW.mono ((s2.trans s3).trans s4);refine yI2 _ _ #[a1,b1,dG a2 b2 (by simp only[ye,yU];lia),λm2 al=>?_];have s5:=ak al (.lst (ad.map V.ref++ag.map V.ref));have L2:=eR a2 b2 al;generalize upd H4 m2 (.lst (ad.map V.ref++ag.map V.ref))=H5 at s5 L2 |-;have ac:=((Y.trans s3).trans s4).trans s5;refine yI3 dx _ _ #[ac _ _ g1,d_ _ _ _ _,?_]
 cbv;refine X2 (ud.of (ac _ _ g4)) (fu (i:=1) (n:=l+1+aq d b) rfl) #[∅,λt2 cb=>?_];∎;rename_i H6 s6 hH6;have b4:bN H6 t2 [.str "jump",iN (l+1+aq d b),iN (a+1+W.length+1+R.length)]:=by
  show H6 t2=_;rw[hH6];simp[iN]
 refine#[∅,λm3 a6=>?_];have s7:=ak a6 (.lst [.ref t2]);have L3:=iJ b4 a6;generalize upd H6 m3 (.lst [.ref t2])=H7 at s7 L3 |-;let#[a8,c1,c2]:=L2.mono (s6.trans s7)
 let#[a9,d1,d2]:=L3;refine yI2 _ _ #[c1,d1,dG c2 d2 (by simp only[jn,ye,yU];lia),λm4 a7=>?_];have s8:=ak a7 (.lst (a8.map V.ref++a9.map V.ref));have L4:=eR c2 d2 a7;generalize upd H7 m4 (.lst (a8.map V.ref++a9.map V.ref))=H8 at s8 L4 |-;let#[as,e1,e2]:=L4
 let#[bc,f1,f2]:=hR.mono (((((s3.trans s4).trans s5).trans s6).trans s7).trans s8);refine yI2 _ _ #[e1,f1,dG e2 f2 (by simp only[jn,ye,yU];lia),λm5 ab=>?_];have s9:=ak ab (.lst (as.map V.ref++bc.map V.ref));have L5:=eR e2 f2 ab;generalize upd H8 m5 (.lst (as.map V.ref++bc.map V.ref))=H9 at s9 L5 |-;have be:=((ac.trans s6).trans s7).trans s8;refine q m5 H9 (be.trans s9) (be.free ab) ?_
 unfold jc;rw[hWW,hRR];exact L5
end
section
variable{CN:so}
def FF(K:K_)(C:so)(d:Nat):Sp:=λvs H Q _=>∃(z sp:so) (a l:Nat) (t:Bool) (x y:Str) (b:List vr) (kv:List (aT×V)) (S:so->Prop),vs=[.ref z,.int (a:Int),.ref sp,.bl t]/\Ca K C (aq d) S (Bu K C S d H) H z l (.lend x y b)/\dC d b/\H sp=Sm (.dK kv)/\iY kv (.inr x)/\iY kv (.inr y)/\iY kv (.inl (l:Int))/\fv kv d (l+1) b/\aq d b<=200/\d<=20/\
 ∀(q:so) (H':Hp),sg H H'->H q=Nn->B5 H' q (fc kv (aD kv d) (aq d) t a l x y b)->Q (.ref q) H'
theorem nc{F O x:so}{S U W:aC}(h1:bN H J S)(h2:bN H F U)(Y:bN H O W)(hx:H x=Nn):B5 (upd H x (.lst [.ref J,.ref F,.ref O])) x [S,U,W]:=#[[J,F,O],ai,.cons (ak hx _ _ _ h1) (.cons (ak hx _ _ _ h2) (.cons (ak hx _ _ _ Y) .nil))]
theorem Fm(D:xn K mg "lend_rows" bn) (ac:wAK mg) (J:Fl K CN "parts") (F:Fl K CN "lines") (U:Fl K CN "blocks") {d:Nat} (O:aH P w K mg base (3*d+2) "rows_of" qAK (iI K CN d)):aH P w K mg base (3*d+3) "lend_rows" qAM (FF K CN d):=by
 refine D.cal (k:=3*d+2) B8 (λf cd A outer s H vs Q E hr h=>?_);revert h;refine yF10 λz sp a l t x y b kv S=>yB11 ?_;rintro rfl hN ok Z kx ky kl hk hc hd q;refine yE5 (id hN) λdx pp lp bp bs=>yB7 λg1 g2 g3 g4 g5 g6 g7=>?_;obtain⟨q0,rfl⟩ : ∃q0,bs=[q0]:=by
  cases g7 with
  | cons _ t=>cases t;exact#[_,rfl]
 have hb:Bu K CN S d H q0 (l+1) b:=by
  cases g7 with
  | cons h _=>exact h
 refine⟨_,(ah (av 4 B8.nd (am (au K) (bK F (pv 0)) af))
   (ah (av 5 B8.nd (am (au K) (bK F (pv 0)) af))
   (ah (av 6 B8.nd (am (sJ K) (pv 2) (am (au K) (bK J (pv 0)) af)))
   (ah (av 7 B8.nd (am (sJ K) (pv 2) (am (au K) (bK J (pv 0)) af)))
   (ah (av 8 B8.nd (am (sJ K) (pv 2) (pv 4)))
   (ah (av 9 B8.nd (aI (aa (aN (aa ay (aa (pv 4) (aa (pv 8) (aa (pv 6) ae))))) (aa (aN (aa ay (aa (pv 4) (aa (pv 8) (aa ay ae))))) (aa (aN (aa ay (aa (pv 4) (aa (pv 7) (aa (pv 8) ae))))) ae)))))
   (ah (av 10 B8.nd (ax O hr (aa (am (au K) (bK U (pv 0)) af) (aa (ar aF (pv 1) (br (aU K) ac bG (aa (pv 9) ae))) (aa (pv 2) (aa (pv 3) ae)))) (hle:=())))
   (aj (aA (ar aF (ar aF (pv 9) (pv 10)) (aI (aa (aN (aa ay (aa (pv 5) (aa (pv 8) (aa ay ae))))) (aa (aN (aa ay (aa (pv 5) (aa (pv 7) ae)))) (aa (aN (aa ay (aa (pv 5) (aa (pv 8) ae)))) ae)))))))))))))),?_⟩
 cbv;refine yI3 dx _ _ #[g1,d_ _ _ _ _,?_];cbv;refine X2 (ud.of g4) (fu (i:=0) (n:=l) rfl) ?_;rw?;refine yI3 dx _ _ #[g1,d_ _ _ _ _,?_];cbv;refine X2 (ud.of g4) (fu (i:=1) (n:=l+1+aq d b) rfl) ?_;rw?;refine yI3 dx _ _ #[g1,fk _ _ _ _,?_];cbv;refine yI2 _ _ #[.inr g2,ao (j:=0) (v:=V.str x) rfl,.inr (yI4 sp kv (.inr x) _ #[rfl,rfl,Z,kx,?_])];rw?;refine yI3 dx _ _ #[g1,fk _ _ _ _,?_];cbv;refine yI2 _ _ #[.inr g2,ao (j:=1) (v:=V.str y) rfl,.inr (yI4 sp kv (.inr y) _ #[rfl,rfl,Z,ky,?_])];rw?;refine .inr (yI4 sp kv (.inl (l:Int)) _ #[rfl,rfl,Z,kl,?_]);generalize hgx:cD kv (.inr x)=gx;generalize hgy:cD kv (.inr y)=gy;generalize hgl:cD kv (.inl (l:Int))=gl;rw?;refine#[∅,λt1 b4=>?_];generalize hH1:upd H t1 _=H1;have s1:sg H H1:=by rw[<-hH1];exact ak b4 _
 have r1:bN H1 t1 [.str "copy",iN l,gl,gx]:=by show H1 t1=_;rw[<-hH1];exact ai
 refine#[∅,λt2 be=>?_];generalize hH2:upd H1 t2 _=H2;have s2:sg H1 H2:=by rw[<-hH2];exact ak be _
 have r2:bN H2 t2 [.str "do",iN l,gl,.str "lend"]:=by show H2 t2=_;rw[<-hH2];exact ai
 refine#[∅,λt3 bg=>?_];generalize hH3:upd H2 t3 _=H3;have s3:sg H2 H3:=by rw[<-hH3];exact ak bg _
 have r3:bN H3 t3 [.str "copy",iN l,gy,gl]:=by show H3 t3=_;rw[<-hH3];exact ai
 refine#[∅,λm1 a4=>?_];have s4:=ak a4 (.lst [.ref t1,.ref t2,.ref t3]);have L1:=nc (s3 _ _ (s2 _ _ r1)) (s3 _ _ r2) r3 a4;have a6:upd H3 m1 (.lst [.ref t1,.ref t2,.ref t3]) m1=Sm (.lst [.ref t1,.ref t2,.ref t3]):=ai;generalize upd H3 m1 (.lst [.ref t1,.ref t2,.ref t3])=H4 at s4 L1 a6 |-;have Y:=((s1.trans s2).trans s3).trans s4;rw?;refine yI3 dx _ _ #[Y _ _ g1,ip _ _ _ _,?_]
 cbv;refine X2 (ud.of (Y _ _ g6)) (ao (j:=0) (v:=V.ref q0) rfl) ?_;cbv;refine#[_,.inl (ud.of a6),?_];refine yI8 q0 sp (a+3) (l+1) t b kv S #['~',hb.mono Y,ok,Y _ _ Z,hk,hc,hd,λwq H5 s5 cc hW=>?_];have bc:=eK (kv:=kv) (a:=a+3) (l:=l+1) (t:=t) hc hd;generalize hWW:aD kv d t (a+3) (l+1) b=W at hW bc;have cb:=Y.trans s5;rw?;let#[al,a1,a2]:=L1.mono s5;let#[as,b1,b2]:=id hW;refine yI2 _ _ #[a1,b1,dG a2 b2 (by simp only[ye,yU];lia),λm2 a3=>?_];have s6:=ak a3 (.lst (al.map V.ref++as.map V.ref));have L2:=eR a2 b2 a3;generalize upd H5 m2 (.lst (al.map V.ref++as.map V.ref))=H6 at s6 L2 |-;refine⟨∅,λt4 b3=>?_⟩
 generalize hH7:upd H6 t4 _=H7;have s7:sg H6 H7:=by rw[<-hH7];exact ak b3 _
 have r4:bN H7 t4 [.str "do",iN (l+1+aq d b),gl,.str "back"]:=by show H7 t4=_;rw[<-hH7];exact ai
 refine#[∅,λt5 bt=>?_];generalize hH8:upd H7 t5 _=H8;have s8:sg H7 H8:=by rw[<-hH8];exact ak bt _
 have r5:bN H8 t5 [.str "drop",iN (l+1+aq d b),gy]:=by show H8 t5=_;rw[<-hH8];exact ai
 refine#[∅,λt6 bh=>?_];generalize hH9:upd H8 t6 _=H9;have s9:sg H8 H9:=by rw[<-hH9];exact ak bh _
 have r6:bN H9 t6 [.str "drop",iN (l+1+aq d b),gl]:=by show H9 t6=_;rw[<-hH9];exact ai
 refine#[∅,λm3 a5=>?_];have ad:=ak a5 (.lst [.ref t4,.ref t5,.ref t6]);have L3:=nc (s9 _ _ (s8 _ _ r4)) (s9 _ _ r5) r6 a5;generalize upd H9 m3 (.lst [.ref t4,.ref t5,.ref t6])=ca at ad L3 |-;let#[a7,c1,c2]:=L2.mono (((s7.trans s8).trans s9).trans ad)
 let#[a8,d1,d2]:=L3;refine yI2 _ _ #[c1,d1,dG c2 d2 (by simp only[jn,ye,yU];lia),λm4 ag=>?_];have a9:=ak ag (.lst (a7.map V.ref++a8.map V.ref));have L4:=eR c2 d2 ag;generalize upd ca m4 (.lst (a7.map V.ref++a8.map V.ref))=b0 at a9 L4 |-;have ab:=((((cb.trans s6).trans s7).trans s8).trans s9).trans ad;refine q m4 b0 (ab.trans a9) (ab.free ag) ?_
 unfold fc;rw[hWW,hgx,hgy,hgl];exact L4
theorem vP(D:xn K mg "rows_of" bV) (DL:xn K mg "lend_rows" bn) (DI:xn K mg "if_rows" bM) (DO:xn K mg "loop_rows" ck) (DW:xn K mg "while_rows" bF) (DS:xn K mg "simple_row" bR) (W:wAK mg) (ad:mg "tuple" = Nn) (U:Fl K CN "kind") (O:Fl K CN "parts") (F:Fl K CN "lines") (J:Fl K CN "blocks"):∀d:Nat,aH P w K mg base (3*d+2) "rows_of" qAK (iI K CN d)
 | 0=>D.cal (k:=1) Gd (λf cc A outer s H vs Q E hr h=>by revert h;refine yF8 λ_ _ _ _ _ _ _ _=>yB3 ?_;rintro rfl z _;exact z.elim)
 | d+1=>by
  have ih:=vP D DL DI DO DW DS W ad U O F J d;have ac:=Fm DL W O F J ih;have ag:=J1 DI W O F J ih;have Y:=C9 DW W O F J ih (EG DO W O F J ih);have Z:=Aa (P:=P) (w:=w) (base:=base) DS ad U O F;refine D.cal (k:=3*d+4) Gd (λf cc A outer s H vs Q E hr h=>?_);revert h;refine yF8 λp sp a l t T kv S=>yB8 ?_;rintro rfl ⟨h0,as,h1,h2⟩ ok a8 hk hc hd q;have a9:=aQ h2;rw[gQ]at a9;refine⟨_,(ah (av 4 Gd.nd (aI ae))
   (ah (bT xm rfl (bJ K (pv 0)) (aV 5 Gd.nd) (ah (av 6 Gd.nd (ar aF (pv 1) (br (aU K) W bG (aa (pv 4) ae))))
   (aj (aS (az aM (bK U (pv 5)) ay (aB _)) (aj (bo (bB K xl KJ KG eI (pv 4) (aa (ax ac hr (aa (pv 5) (aa (pv 6) (aa (pv 2) (aa (pv 3) ae)))) (hle:=())) ae)))) (aj (aS (az aM (bK U (pv 5)) ay (aB _)) (aj (bo (bB K xl KJ KG eI (pv 4) (aa (ax ag hr (aa (pv 5) (aa (pv 6) (aa (pv 2) (aa (pv 3) ae)))) (hle:=())) ae)))) (aj (aS (az aM (bK U (pv 5)) ay (aB _)) (aj (bo (bB K xl KJ KG eI (pv 4) (aa (ax Y hr (aa (pv 5) (aa (pv 6) (aa (pv 2) (aa (pv 3) ae)))) (hle:=())) ae)))) (aj (bo (bB K xl mB mF bw (pv 4) (aa (ax Z hr (aa (pv 5) (aa (pv 2) ae)) (hle:=())) ae))))))))))))
   (aj (aA (pv 4))))),?_⟩
  cbv;refine#[∅,λR hR=>?_];∎;rename_i H1 s1 bg;have bg:H1 R=Sm (.lst (([]:LL).map V.ref)):=bg;rw?;refine#[#[_,ud.of (s1 _ _ h1)],?_];have b2:∀ {z:so} {o:HO},H z=Sm o->z≠R:=λe=>a_ e hR;refine b6 (xs:=as.map V.ref) (λi σ H'=>∃(o5 o6:LR),σ=[Sm (.ref p),Sm (.int (a:Int)),Sm (.ref sp),Sm (.bl t),Sm (.ref R),o5,o6]/\sg H H'/\B5 H' R (aD kv (d+1) t a l (T.take i)))
   (yI2 _ _ #[rfl,s1,[],bg,.nil]) (λi σ H' _ hh=>by revert hh;refine yF2 λ_ _=>yB3 λ_ sm _=>?_;exact ud.of (sm _ _ h1)) (λi v σ H2 hv hh=>?_) (λσ H2 hh=>?_)
  .revert hh;refine yF2 λo5 o6=>yB3 ?_;rintro rfl sm;refine yF1 λbc=>yB2 λr1 r2=>?_;rw[yf]at hv;cases hi:as[i]? with
   | none=>rw[hi]at hv;cases hv
   | some x=>
    rw[hi]at hv;cases hv;have b4:i<T.length:=by have:=(KO.mp hi).1;lia
    have hs:=zg b4;have hz:=wU (bz (aq d)) l T i _ hs;let#[z,a7,be]:=cP h2 hi;rw[hz]at a7;have a7:=Option.some.inj a7;subst a7;have al:=hk _ (me hz);have a6:=xF b4;generalize T[i]=st at hs hz be al a6;have a3:=ok st a6;have cq:=n8 (d:=d) a6;generalize hl':l+((T.take i).map (bz (aq d))).sum=l' at hz be al;have ce:T.take (i+1)=T.take i++[st]:=by rw[rT,hs];rfl
    have bt:aD kv (d+1) t a l (T.take (i+1))=aD kv (d+1) t a l (T.take i)++cZ kv (aD kv d) (aq d) t (a+(aD kv (d+1) t a l (T.take i)).length) l' st:=by
     rw[ce];show cx _ _ a l (T.take i++[st])=_;rw[l8,hl'];rfl
    have cm:=sS (d:=d) (i:=i) (T:=T);have b1:=eK (kv:=kv) (d:=d+1) (a:=a) (l:=l) (t:=t) (T:=T.take i) () hd;rw[bt];generalize aD kv (d+1) t a l (T.take i)=pre at r2 b1;have rl:=aQ r2;have hx2:=be.mono sm;refine yE5 (id hx2) λdx pp lp bp bs=>yB7 λg1 g2 g3 g4 g5 g6 g7=>?_;have put:∀ {b:so} {H3:Hp} {rows:List aC},sg H2 H3->B5 H3 b rows->b≠R->rows.length<=100000->∃xs zs,H3 R=Sm (.lst xs)/\H3 b=Sm (.lst zs)/\xs.length+zs.length<=L_/\(sg H (upd H3 R (.lst (xs++zs)))/\B5 (upd H3 R (.lst (xs++zs))) R (pre++rows)):=λ{b H3 rows} s3 hL cn cv=>by
     let#[ca,e1,e2]:=hL;have bl:=aQ e2;have a5:=s3 _ _ r1;have tp:∀ {c:so} {r:aC},bN H3 c r->bN (upd H3 R (.lst (bc.map V.ref++ca.map V.ref))) c r:=λ{c r} z=>by
      show upd H3 R _ c=_;rw[aw (dh z a5 (λy=>nomatch y))];exact z
     refine yI2 _ _ #[a5,e1,by rw[ze,ze,rl,bl];exact aJ (),λc o y=>?_,bc++ca,by rw[ai,yH],eW (LG.imp' (λ_ _ y=>tp (s3 _ _ y)) r2) (LG.imp' (λ_ _ y=>tp y) e2)];rw[aw (b2 y)];exact s3 _ _ (sm _ _ y)
    cbv;refine#[_,.inl (ud.of r1),?_];rw[ze,rl];rw?;refine yI3 dx _ _ #[g1,gg _ _ _ _,?_];cbv;have ab:bz (aq d) st<=200:=()
    have bh:(cZ kv (aD kv d) (aq d) t (a+pre.length) l' st).length<=30000:=by
     have:=eK (kv:=kv) (d:=d+1) (a:=a+pre.length) (l:=l') (t:=t) (T:=[st]) (by show bz (aq d) st+0<=200;lia) hd;have e:aD kv (d+1) t (a+pre.length) l' [st]=cZ kv (aD kv d) (aq d) t (a+pre.length) l' st++[]:=rfl;rw[e,sF]at this;exact this
    cases st with
    | lend x0 y0 b0=>
     obtain⟨k1,k2,k3,k4⟩ : iY kv (.inr x0)/\iY kv (.inr y0)/\iY kv (.inl (l':Int))/\fv kv d (l'+1) b0:=al;have b3:aq d b0+2<=200:=ab;refine aP (λ_=>?_) (λc=>absurd rfl c);refine#[#[_,ud.of r1],yI10 x sp (a+pre.length) l' t x0 y0 b0 kv S #['~',hx2,a3.2.2,sm _ _ a8,k1,k2,k3,k4,(),(),λq' H3 s3 a4 L3=>?_]];dsimp only;rw[gJ];refine yE2 (put s3 L3 (a_ r1 a4).symm (by have:(fc kv (aD kv d) (aq d) t (a+pre.length) l' x0 y0 b0).length<=30000:=bh;lia)) λxs zs=>yB5 λp1 p2 p3 p4 p5=>?_;exact yI2 xs zs #[p1,p2,p3,yI2 _ _ #[rfl,p4,p5]]
    | ite n0 b0 c0=>
     obtain⟨k1,k2⟩ : fv kv d (l'+1) b0/\fv kv d (l'+1+aq d b0+1) c0:=al;have b3:aq d b0+aq d c0+3<=200:=ab;refine aP (λc=>absurd c (by show ¬ (Str.ofString "if" = Str.ofString "lend");decide +kernel)) (λ_=>?_);refine yI3 dx _ _ #[g1,gg _ _ _ _,?_];cbv;refine aP (λ_=>?_) (λc=>absurd rfl c);refine#[#[_,ud.of r1],yI10 x sp (a+pre.length) l' t n0 b0 c0 kv S #['~',hx2,a3.2.1,a3.2.2,sm _ _ a8,k1,k2,(),(),(),λq' H3 s3 a4 L3=>?_]];dsimp only;rw[gJ];refine yE2 (put s3 L3 (a_ r1 a4).symm (by have:(jc (aD kv d) (aq d) t (a+pre.length) l' n0 b0 c0).length<=30000:=bh;lia)) λxs zs=>yB5 λp1 p2 p3 p4 p5=>?_;exact yI2 xs zs #[p1,p2,p3,yI2 _ _ #[rfl,p4,p5]]
    | whl n0 b0=>
     have k1:fv kv d (l'+1) b0:=al;have b3:aq d b0+2<=200:=ab;refine aP (λc=>absurd c (by show ¬ (Str.ofString "while" = Str.ofString "lend");decide +kernel)) (λ_=>?_);refine yI3 dx _ _ #[g1,gg _ _ _ _,?_];cbv;refine aP (λc=>absurd c (by show ¬ (Str.ofString "while" = Str.ofString "if");decide +kernel)) (λ_=>?_);refine yI3 dx _ _ #[g1,gg _ _ _ _,?_];cbv;refine aP (λ_=>?_) (λc=>absurd rfl c);refine#[#[_,ud.of r1],yI9 x sp (a+pre.length) l' t n0 b0 kv S #['~',hx2,a3.2,sm _ _ a8,k1,(),(),λq' H3 s3 a4 L3=>?_]];dsimp only;rw[gJ];refine yE2 (put s3 L3 (a_ r1 a4).symm (by have:(dn (aD kv d) (aq d) t (a+pre.length) l' n0 b0).length<=30000:=bh;lia)) λxs zs=>yB5 λp1 p2 p3 p4 p5=>?_;exact yI2 xs zs #[p1,p2,p3,yI2 _ _ #[rfl,p4,p5]]
    | plain ws=>
     have cb:ws.headD "" ∈ dw:=a3.kind;have nk:∀ {u:Str},u∉dw->¬ kindOf (.plain ws)=u:=λhu c=>hu (by have c':ws.headD "" = _:=c;rw[<-c'];exact cb);refine aP (λc=>absurd c (nk ⋯)) (λ_=>?_);refine yI3 dx _ _ #[g1,gg _ _ _ _,?_];cbv;refine aP (λc=>absurd c (nk ⋯)) (λ_=>?_);refine yI3 dx _ _ #[g1,gg _ _ _ _,?_];cbv;refine aP (λc=>absurd c (nk ⋯)) (λ_=>?_);refine#[#[_,ud.of r1],yI9 x sp l' ws kv S _ (aq d) (fv kv d) #[rfl,hx2,a3,sm _ _ a8,al,λc H3 s3 cd=>?_]];have a5:=s3 _ _ r1;have tp:∀ {c:so} {r:aC},bN H3 c r->∀zs,bN (upd H3 R (.lst zs)) c r:=λ{c r} z zs=>by
      show upd H3 R _ c=_;rw[aw (dh z a5 (λy=>nomatch y))];exact z
     cbv;refine#[_,a5,cI (by rw[ze];lia),yI2 _ _ #[rfl,λc' o y=>?_,bc++[c],by rw[ai,yH];rfl,eW (LG.imp' (λ_ _ y=>tp (s3 _ _ y) _) r2) (.cons (tp cd _) .nil)]];rw[aw (b2 y)];exact s3 _ _ (sm _ _ y)
  .revert hh;refine yF2 λo5 o6=>yB3 ?_;rintro rfl sm hL;rw[ze,a9,tO]at hL;rw?;exact q R H2 sm hR hL
end
noncomputable def g0(s:Str):Bool:=decide (0+("lend " : Str).length<=s.length)&&Ol s "lend " 0
noncomputable def gD(L:LI):LJ:=(List.range L.length).filter λi=>g0 (L.getD i "")
def lV(d:Nat):Sp:=λvs H Q _=>∃(p:so) (L:LI),vs=[.ref p]/\DD d H p L/\L.length<=1000/\∀(q:so) (H':Hp),sg H H'->H q=Nn->H' q=Sm (.lst ((gD L).map iN))->Q (.ref q) H'
theorem lU(f:Nat->Bool)(i:Nat):(List.range (i+1)).filter f=(List.range i).filter f++(if f i=true then [i] else []):=by
 rw[List.range_succ,IH];congr 1;rw[List.filter_cons];split<;>rfl
theorem sX(D:xn K mg "lend_lines" bW) (J:mg "enumerate" = Nn) {k:Nat} (O:aH P w K mg base k "lines_of" ["program"] (wG d)):aH P w K mg base (k+1) "lend_lines" ["program"] (lV d):=by
 refine D.cal (k:=k) qw (λf ad A outer s H vs Q E hr h=>?_);revert h;refine yF2 λp L=>yB4 ?_;rintro rfl hL hl q;refine#[_,(aj (aA (eV (C5.to (fsc:=(rd bW)) (N:=["program"]) (N0:=["program"]) (T:=["at","line"])) rfl (rn K NX J (aa (ax O hr (aa (pv 0) ae) (hle:=())) ae)) (λ_ _ _ _=>(iM K (n:=2) (cG (aV 1 (show (["program","at","line"]:LI).Nodup from ⋯)) (cG (aV 2 (show (["program","at","line"]:LI).Nodup from ⋯)) gT)))) (Fx (pH (cN (show (["program"]:LI).length<=1 from ∅)) oj (pH (cN (show (["program"]:LI).length<=2 from ∅)) oj Di vy) (Cc oj vy))) (λ_ _ _ _=>(iR (cQ (bB K zbv F.slot_str_startswith F.type_str_startswith qF (pv 2) (aa ay ae))))) (λ_ _ _ _=>(pv 1))))),?_];cbv;refine yI2 p L #[rfl,hL,(),λlq H1 s1 ac e1=>?_];refine#[lq,rfl,#[_,e1],λR Y=>?_];refine xw (xs:=L.map V.str) (λi ys H'=>∃ns:LJ,sg H1 H'/\H' R=Sm (.lst ys)/\ys=ns.map iN/\ns.length<=i/\ns=(List.range i).filter λj=>g0 (L.getD j "")) #[[],ak Y _,ai,rfl,zu _,rfl] (λi ys H' _ hh=>by let#[_,sm,_]:=hh;exact ud.of (sm _ _ e1)) ?_ ?_
 .intro i ys H' v t hv hi;refine yF1 λns=>yB5 ?_;rintro sm Z rfl ab S;intro ht;rw[ze]at hi;rw[yf,zg hi]at hv;cases hv;∎;rename_i H2 s2 et;have W:=sm.trans s2;have U:=s2 _ _ Z;have hg:g0 (L.getD i "")=(decide (0+("lend " : Str).length<=L[i].length)&&Ol L[i] "lend " 0):=by
   unfold g0;rw[xV,zg hi];rfl
  cbv;refine yI2 t _ #[rfl,su.of et,rfl,?_];cbv;rw[<-hg];refine aP (λc=>?_) (λc=>?_)
  .refine jD (by rw[ze];exact hi) (by rw[ze];exact ab) (by rw[ze];exact aJ ()) U #[ns++[i],W.upd Y _,ai,rF _ _,by simp;lia,?_];rw[lU,KZ c,<-S]
  .refine lx (by rw[ze];exact hi) #[ns,W,U,rfl,(),?_];rw[lU,KQ c,<-S,sF]
 .intro ys H2;refine yF1 λns=>yB5 ?_;rintro s2 e2 rfl _ S;rw[ze]at S;refine q R H2 (s1.trans s2) (s1.free Y) ?_;rw[S]at e2;exact e2
noncomputable def gN(ks:List aT):List (aT×V):=(List.range ks.length).foldl (λacc i=>dk acc (ks.getD i (.inl 0)) (iN i)) []
noncomputable def iV(ks:List aT)(i:Nat):List (aT×V):=(List.range i).foldl (λacc i=>dk acc (ks.getD i (.inl 0)) (iN i)) []
theorem ji(ks:List aT)(i:Nat):iV ks (i+1)=dk (iV ks i) (ks.getD i (.inl 0)) (iN i):=by
 unfold iV;rw[List.range_succ,zbm];rfl
theorem rV(ks:List aT):∀i,(iV ks i).length<=i
 | 0=>zu _
 | i+1=>by
  have:=rV ks i;rw[ji];unfold dk;split
  .rw[ze];lia
  .rw[jn];simp;lia
theorem qU(ks:List aT):∀(i j:Nat) k,j<i->ks[j]?=Sm k->(bU (iV ks i) k).isSome=true
 | 0,j,_,h,_=>absurd h (Ji _)
 | i+1,j,k,h,hk=>by
  rw[ji,mn];split
  .rfl
  .rename_i c;rcases HU j i with z | z
   .exact qU ks i j k z hk
   .have:j=i:=()
    subst this;exact absurd (by rw[xV,hk];rfl) c
theorem lv{ks:List aT}{k:aT}(h:k∈ks):iY (gN ks) k:=by
 let#[j,F]:=List.mem_iff_getElem?.mp h;have:=qU ks ks.length j k (KO.mp F).1 F;show bU (iV ks ks.length) k=Sm (cD (iV ks ks.length) k);unfold cD;cases e:bU (iV ks ks.length) k with
 | none=>rw[e]at this;cases this
 | some v=>rfl
section
variable{NO:Hp->so->LI->Prop}
def JF(NO:Hp->so->LI->Prop):Sp:=λvs H Q _=>∃(p:so) (NM:LI),vs=[.ref p]/\NO H p NM/\∀(q:so) (H':Hp),sg H H'->H q=Nn->H' q=Sm (.lst (NM.map V.str))->Q (.ref q) H'
noncomputable def b7(NM:LI)(L:LI):List aT:=NM.map Sum.inr++(gD L).map λ(n:Nat)=>Sum.inl (n:Int)
def wR(NO:Hp->so->LI->Prop)(d:Nat):Sp:=λvs H Q _=>∃(p:so) (NM L:LI),vs=[.ref p]/\NO H p NM/\DD d H p L/\L.length<=1000/\NM.length<=1000/\∀(q:so) (H':Hp),sg H H'->H q=Nn->H' q=Sm (.dK (gN (b7 NM L)))->Q (.ref q) H'
theorem Cg(ag:∀ {H H':Hp} {p:so} {NM:LI},NO H p NM->sg H H'->NO H' p NM)(D:xn K mg "slots_of" cC) (J:mg "enumerate" = Nn) {d k:Nat} (O:aH P w K mg base k "names_of" ["program"] (JF NO)) (F:aH P w K mg base k "lend_lines" ["program"] (lV d)):aH P w K mg base (k+1) "slots_of" ["program"] (wR NO d):=by
 refine D.cal (k:=k) Gj (λf a7 A outer s H vs Q E hr h=>?_);revert h;refine yF3 λp NM L=>yB6 ?_;rintro rfl hN hL hl a4 q;refine⟨_,(ah (av 1 Gj.nd rZ)
   (ah (bT xm rfl (rn K NK J (aa (ar aF (ax O hr (aa (pv 0) ae) (hle:=())) (ax F hr (aa (pv 0) ae) (hle:=()))) ae)) (iM K (n:=2) (cG (aV 2 Gj.nd) (cG (aV 3 Gj.nd) gT))) (aj (iT (pv 2) (kM (pv 1) (pv 3) (DN hr)))))
   (aj (aA (pv 1))))),?_⟩
 cbv;intro W Y;∎;rename_i H1 s1 S;have S:H1 W=Sm (.dK (iV (b7 NM L) 0)):=S;rw?;refine yI2 p NM #[rfl,ag hN s1,λnq H2 s2 bc e2=>?_];have ab:=s1.trans s2;refine yI2 p L #[rfl,hL.mono _ ab,hl,λlq H3 s3 a3 e3=>?_];have a9:(gD L).length<=1000:=by
  unfold gD;refine xH (List.length_filter_le _ _) ?_;rw[JB];exact hl
 dsimp only;rw[kP];refine yI2 _ _ #[s3 _ _ e2,e3,by rw[ze,ze];exact aJ (),λcq a5=>?_];have ac:NM.map V.str++(gD L).map iN=(b7 NM L).map kV:=by
  unfold b7;rw[yH,oq,oq];rfl
 rw[ac];have ad:(b7 NM L).length<=2000:=by unfold b7;rw[jn,ze,ze];lia
 generalize hks:b7 NM L=ks at S ad q |-;∎
 rename_i H4 s4 ecq;have al:=(s2.trans s3).trans s4;have U:=al _ _ S;have as:cq≠W:=dh ecq U (λz=>nomatch z);cbv;refine#[#[_,ecq],?_];refine Ac (xs:=ks.map kV) (λi σ H'=>∃(o2 o3:LR),σ=[Sm (.ref p),Sm (.ref W),o2,o3]/\(∀b o,b≠W->H4 b=Sm o->H' b=Sm o)/\H' W=Sm (.dK (iV ks i)))
  (yI2 _ _ #[rfl,λ_ _ _ z=>z,U]) (λi σ H' _ hh=>by revert hh;refine yF2 λ_ _=>yB3 λ_ Z _=>?_;exact ud.of (Z _ _ as ecq)) (λi v t σ H5 hv hh ht=>?_) (λσ H5 hh=>?_)
 .revert hh;refine yF2 λo2 o3=>yB3 ?_;rintro rfl Z e5;rw[yf]at hv;cases hi:ks[i]? with
  | none=>rw[hi]at hv;cases hv
  | some k0=>
   rw[hi]at hv;cases hv;have a8:=(KO.mp hi).1;∎;rename_i H6 s6 et;have a6:=rV ks i;cbv;refine yI2 t _ #[rfl,su.of et,rfl,?_];cbv;refine yI3 W _ k0 #[rfl,rfl,s6 _ _ e5,cI (),yI2 _ _ #[rfl,λb o hb z=>by rw[aw hb];exact s6 _ _ (Z b o hb z),?_]];rw[ai,ji,xV,hi];rfl
 .revert hh;refine yF2 λo2 o3=>yB3 ?_;rintro rfl Z e5;rw[ze]at e5;rw?;refine q W H5 (λb o z=>Z b o (a_ z Y) (s4 _ _ (s3 _ _ (ab _ _ z)))) Y e5
end
theorem uz{f:List vr->LI}{g:List vr->Nat}(h:∀T,(f T).length=g T):∀s:vr,(c6 f s).length=bz g s
 | .plain _=>rfl
 | .lend _ _ b=>by simp[c6,bz,h]
 | .ite _ b c=>by simp[c6,bz,h];lia
 | .whl _ b=>by simp[c6,bz,h]
theorem mU:∀(d:Nat) (T:List vr),(dy d T).length=aq d T
 | 0,_=>rfl
 | d+1,T=>by
  show (T.flatMap (c6 (dy d))).length=(T.map (bz (aq d))).sum
  induction T with
  | nil=>rfl
  | cons s T ih=>rw[KD,jn,yX,iS,ih,uz (mU d)]
def Sub(L:LI)(l:Nat)(X:LI):Prop:=∀(i:Nat) s,X[i]?=Sm s->L[l+i]?=Sm s
theorem Sub.left{L X Y:LI}(h:Sub L l (X++Y)):Sub L l X:=λi s e=>h i s (by rw[xR (KO.mp e).1];exact e)
theorem Sub.right{L X Y:LI}(h:Sub L l (X++Y)):Sub L (l+X.length) Y:=λi s e=>by
 have:=h (X.length+i) s (by rw[uC (),zbl];exact e);rw[<-oS]at this;exact this
def lT(f:List vr->Prop)(N:Str->Prop):vr->Prop
 | .plain ws=>(ws.headD "" = "do" -> ws.length=3)/\∀n∈di ws,N n
 | .lend x y b=>N x/\N y/\f b
 | .ite _ b c=>f b/\f c
 | .whl _ b=>f b
def fQ(N:Str->Prop):Nat->List vr->Prop
 | 0,_=>False
 | d+1,T=>∀s∈T,lT (fQ N d) N s
theorem pR(x y:Str):g0 (Mj " " ["lend",x,y])=true:=by
 have e:Mj " " ["lend",x,y]=("lend " : Str)++(x++((" " : Str)++y)):=by
  apply vE;have h1:("lend " : Str).cps.toList=("lend" : Str).cps.toList++(" " : Str).cps.toList:=⋯;rw[gi,gi,gi,h1];show ((("lend" : Str).cps++(" " : Str).cps++x.cps)++(" " : Str).cps++y.cps).toList=_;simp only[oY,uP]
 rw[e];unfold g0;have hl:("lend " : Str).length=5:=⋯;rw[JI,hl,decide_eq_true (),Bool.true_and];unfold Ol;rw[hl,beq_iff_eq];apply Array.ext';rw[zbj,gi];have F:("lend " : Str).cps.toList.length=5:=⋯;simp[List.extract_eq_drop_take,List.take_append,F]
theorem Ab{L:LI}{s:Str}(h:L[i]?=Sm s)(F:g0 s=true):i∈gD L:=by
 unfold gD;rw[Lh];refine#[Lg.mpr (KO.mp h).1,?_];rw[xV,h];exact F
section
variable{NM L:LI}
theorem CB{f:Nat->List vr->Prop}{g:List vr->Prop}{d l:Nat}(hf:∀l b,Sub L l (dy d b)->g b->f l b):∀(s:vr),Sub L l (c6 (dy d) s)->lT g (λn=>n∈NM) s->oH (gN (b7 NM L)) f (aq d) l s
 | .plain ws,_,⟨h1,h2⟩=>#[h1,λn F=>lv (by unfold b7;exact sE _ (K3.mpr #[n,h2 n F,rfl]))]
 | .lend x y b,hS,⟨hx,hy,hb⟩=>by
  have hh:L[l]?=Sm (Mj " " ["lend",x,y]):=hS 0 _ rfl;refine#[lv (by unfold b7;exact sE _ (K3.mpr #[x,hx,rfl])),lv (by unfold b7;exact sE _ (K3.mpr #[y,hy,rfl])),lv (by unfold b7;exact nS _ (K3.mpr #[l,Ab hh (pR x y),rfl])),hf _ _ ?_ hb];have:Sub L l ([Mj " " ["lend",x,y]]++(dy d b++[("back" : Str)])):=hS;exact this.right.left
 | .ite n b c,hS,⟨hb,hc⟩=>by
  have:Sub L l ([Mj " " ["if",fZ n]]++((dy d b++[("else" : Str)])++(dy d c++[("fi" : Str)]))):=hS;refine#[hf _ _ this.right.left.left hb,hf _ _ ?_ hc];have h2:=this.right.right.left;rw[jn,mU,Jj,Jj]at h2;rw[show l+1+aq d b+1=l+1+(aq d b+1) from ()];exact h2
 | .whl n b,hS,hb=>by
  have:Sub L l ([Mj " " ["while",fZ n]]++(dy d b++[("done" : Str)])):=hS;exact hf _ _ this.right.left hb
theorem o_:∀(d l:Nat) (T:List vr),Sub L l (dy d T)->fQ (λn=>n∈NM) d T->fv (gN (b7 NM L)) d l T
 | 0,_,_,_,h=>h
 | d+1,l,T,F,J=>by
  have go:∀(T:List vr) (l:Nat),Sub L l (T.flatMap (c6 (dy d)))->(∀s∈T,lT (fQ (λn=>n∈NM) d) (λn=>n∈NM) s)->∀z∈fL (bz (aq d)) l T,oH (gN (b7 NM L)) (fv (gN (b7 NM L)) d) (aq d) z.1 z.2:=λT=>by
   induction T with
   | nil=>intro l _ _ z hz;cases hz
   | cons s T ih=>
    intro l F J z hz;rw[KD]at F;rcases K7.mp hz with rfl | hz
    .exact CB (λl b h1 h2=>o_ d l b h1 h2) s F.left (J s yy)
    .have h2:=F.right;rw[uz (mU d)]at h2;exact ih (l+bz (aq d) s) h2 (λs O=>J s (yS _ O)) z hz
  exact go T l F J
end
section
variable{CN:so}{NO:Hp->so->LI->Prop}
noncomputable def dq(NM:LI)(d:Nat)(t:Bool)(T:List vr):List aC:=aD (gN (b7 NM (dy d T))) d t 0 0 T++[[.str "end",iN (aq d T)]]
structure m6 (NO:Hp->so->LI->Prop) (H:Hp) (p:so) (d:Nat) (T:List vr) (NM:LI):Prop where
 prog:∃S,Bt S d H p T
 ok:dC d T
 no:NO H p NM
 ln:DD d H p (dy d T)
 nm:fQ (λn=>n∈NM) d T
 cnt:aq d T<=200
 nl:NM.length<=1000
 d20:d<=20
def oU(NO:Hp->so->LI->Prop)(d:Nat):Sp:=λvs H Q _=>∃(p:so) (t:Bool) (T:List vr) (NM:LI),vs=[.ref p,.bl t]/\m6 NO H p d T NM/\∀(q:so) (H':Hp),sg H H'->H q=Nn->B5 H' q (dq NM d t T)->Q (.ref q) H'
theorem xP(ag:∀ {H H':Hp} {p:so} {NM:LI},NO H p NM->sg H H'->NO H' p NM)(D:xn K mg "rows_and_end" bY) {d k:Nat} (a6:1<=k) (F:aH P w K mg base (2*d+4) "numbered_steps" qAU (rC K CN d)) (U:aH P w K mg base (3*d+2) "rows_of" qAK (iI K CN d)) (O:aH P w K mg base k "slots_of" ["program"] (wR NO d)) (J:aH P w K mg base 1 "line_behind" qAU (jO K CN)) (h1:2*d+4<=k) (h2:3*d+2<=k):aH P w K mg base (k+1) "rows_and_end" qAo (oU NO d):=by
 refine D.cal (k:=k) GD (λf a5 A outer s H vs Q E hr h=>?_);revert h;refine yF4 λp t T NM=>yB3 ?_;rintro rfl I q;let#[S,hP]:=I.prog;have a4:=I.cnt;refine⟨_,(ah (av 2 GD.nd (ax F hr (aa (pv 0) (aa af ae)) (hle:=())))
   (aj (aA (ar aF (ax U hr (aa (pv 2) (aa af (aa (ax O hr (aa (pv 0) ae) (hle:=())) (aa (pv 1) ae)))) (hle:=())) (aI (aa (aN (aa ay (aa (ax J hr (aa (pv 2) (aa af ae)) (hle:=())) ae))) ae)))))),?_⟩
 cbv;refine yI4 p 0 T S #[rfl,hP,I.ok,(),λnq H1 s1 hN=>?_];rw?;refine yI3 p NM (dy d T) #[rfl,ag I.no s1,I.ln.mono _ s1,by rw[mU];lia,I.nl,λsq H2 s2 a7 e2=>?_];refine yI8 nq sq 0 0 t T _ _ #[rfl,hN.mono s2,I.ok,e2,o_ d 0 T (λi s e=>by rw[ms];exact e) I.nm,I.cnt,I.d20,λrq H3 s3 a8 hR=>?_];have al:=eK (kv:=gN (b7 NM (dy d T))) (a:=0) (l:=0) (t:=t) I.cnt I.d20;generalize hRR:aD (gN (b7 NM (dy d T))) d t 0 0 T=R at hR al;have ad:=s2.trans s3;cases d with
 | zero=>exact hN.elim
 | succ d=>
  refine yI5 nq 0 d T _ #[rfl,hN.mono ad,(),?_];cbv;refine#[∅,λt1 as=>?_];generalize hH4:upd H3 t1 _=H4;have s4:sg H3 H4:=by rw[<-hH4];exact ak as _
  have a3:bN H4 t1 [.str "end",iN (aq (d+1) T)]:=by
   show H4 t1=_;rw[<-hH4,ai,ms];rfl
  refine#[∅,λm1 ac=>?_];have s5:=ak ac (.lst [.ref t1]);have L1:=iJ a3 ac;generalize upd H4 m1 (.lst [.ref t1])=H5 at s5 L1 |-;let#[Y,a1,a2]:=hR.mono (s4.trans s5)
  let#[Z,b1,b2]:=L1;refine yI2 _ _ #[a1,b1,dG a2 b2 (by simp only[ye,yU];lia),λm2 W=>?_];have s6:=ak W (.lst (Y.map V.ref++Z.map V.ref));have L2:=eR a2 b2 W;generalize upd H5 m2 (.lst (Y.map V.ref++Z.map V.ref))=H6 at s6 L2 |-;have ab:=((s1.trans ad).trans s4).trans s5;refine q m2 H6 (ab.trans s6) (ab.free W) ?_
  unfold dq;rw[hRR];exact L2
def zr(NO:Hp->so->LI->Prop)(d:Nat):Sp:=λvs H Q _=>∃(p:so) (T:List vr) (NM:LI),vs=[.ref p]/\m6 NO H p d T NM/\∀(q:so) (H':Hp),sg H H'->H q=Nn->B5 H' q (dq NM d false T)->Q (.ref q) H'
theorem FJ(D:xn K mg "code_of" ie) {k:Nat} (F:aH P w K mg base k "rows_and_end" qAo (oU NO d)):aH P w K mg base (k+1) "code_of" ["program"] (zr NO d):=by
 refine D.cal (k:=k) xx (λf J A outer s H vs Q E S h=>?_);revert h;refine yF3 λp T NM=>yB3 ?_;rintro rfl I q;refine#[_,(aj (aA (ax F S (aa (pv 0) (aa gC ae)) (hle:=())))),?_];cbv;exact yI4 p false T NM #[rfl,I,q]
def uB(NO:Hp->so->LI->Prop)(d:Nat):Sp:=λvs H Q _=>∃(p:so) (T:List vr) (NM:LI),vs=[.ref p]/\m6 NO H p d T NM/\∀(q:so) (H':Hp),sg H H'->H q=Nn->B5 H' q (dq NM d true T)->Q (.ref q) H'
theorem AI(D:xn K mg "turned_code" eQ) {k:Nat} (F:aH P w K mg base k "rows_and_end" qAo (oU NO d)):aH P w K mg base (k+1) "turned_code" ["program"] (uB NO d):=by
 refine D.cal (k:=k) o0 (λf J A outer s H vs Q E S h=>?_);revert h;refine yF3 λp T NM=>yB3 ?_;rintro rfl I q;refine#[_,(aj (aA (ax F S (aa (pv 0) (aa gC ae)) (hle:=())))),?_];cbv;exact yI4 p true T NM #[rfl,I,q]
end
noncomputable def dM:vr->List (List vr)
 | .plain _=>[]
 | .lend _ _ b=>[b]
 | .ite _ b c=>[b,c]
 | .whl _ b=>[b]
noncomputable def gE(f:List vr->List vr)(s:vr):List vr:=s::(dM s).flatMap f
noncomputable def cu:Nat->List vr->List vr
 | 0,_=>[]
 | d+1,T=>T.flatMap (gE (cu d))
inductive gm:LI->Prop
 | opn (x:Str):gm ["open",x]
 | drp (x:Str):gm ["drop",x]
 | cpy (x y:Str):gm ["copy",x,y]
 | tie (x y:Str):gm ["tie",x,y]
 | doo (u x:Str):gm ["do",u,x]
noncomputable def bZ:vr->LI
 | .plain ws=>if ws.headD "" = "do" then ws.drop 2 else ws.drop 1
 | .lend x y _=>[x,y]
 | .ite _ _ _=>[]
 | .whl _ _=>[]
def gH(f:List vr->Prop):vr->Prop
 | .plain ws=>gm ws
 | .lend _ _ b=>f b
 | .ite _ b c=>f b/\f c
 | .whl _ b=>f b
def jt:Nat->List vr->Prop
 | 0,_=>False
 | d+1,T=>∀s∈T,gH (jt d) s
def Dz(H:Hp)(a:so)(s:vr):Prop:=Ct (λ_ _=>True) H a s
theorem Dz.mono{a:so}(h:Dz H a s)(sm:sg H H'):Dz H' a s:=Ct.imp (λb xs e=>sm _ _ e) (λ_ _ _=>trivial) h
theorem ya{PA:so->List vr->Prop}{H:Hp}{a:so}{g:List vr->Prop}:∀ {s:vr},Ct PA H a s->gH g s->∃(kind:Str) (F:LM) (bs:LL),H a=Sm (.tup (.str kind::F++bs.map V.ref))/\bs.length=(bH kind).length/\LG PA bs (dM s)/\∀b∈dM s,g b
 | .plain ws,h,ok=>by
  cases ok with
  | opn x=>exact yI3 ("open") ([.str x]) ([]) #[h,by show 0=(bH "open").length;decide,.nil,by simp[dM]]
  | drp x=>exact yI3 ("drop") ([.str x]) ([]) #[h,by show 0=(bH "drop").length;decide,.nil,by simp[dM]]
  | cpy x y=>exact yI3 ("copy") ([.str x,.str y]) ([]) #[h,by show 0=(bH "copy").length;decide,.nil,by simp[dM]]
  | tie x y=>exact yI3 ("tie") ([.str x,.str y]) ([]) #[h,by show 0=(bH "tie").length;decide,.nil,by simp[dM]]
  | doo u x=>exact yI3 ("do") ([.str u,.str x]) ([]) #[h,by show 0=(bH "do").length;decide,.nil,by simp[dM]]
 | .lend x y b,⟨q,h,z⟩,ok=>yI3 ("lend") ([.str x,.str y]) ([q]) #[h,by show 1=(bH "lend").length;decide,.cons z .nil,by simpa [dM,gH] using ok]
 | .ite n b c,⟨q,r,h,z,y⟩,ok=>yI3 ("if") ([.int n]) ([q,r]) #[h,by show 2=(bH "if").length;decide,.cons z (.cons y .nil),by simpa [dM,gH] using ok]
 | .whl n b,⟨q,h,z⟩,ok=>yI3 ("while") ([.int n]) ([q]) #[h,by show 1=(bH "while").length;decide,.cons z .nil,by simpa [dM,gH] using ok]
def uN(d:Nat):Sp:=λvs H Q _=>∃(p:so) (T:List vr) (S:so->Prop),vs=[.ref p]/\Bt S d H p T/\jt d T/\(cu d T).length<=5000/\
 ∀(q:so) (H':Hp) (ads:LL),sg H H'->H q=Nn->H' q=Sm (.lst (ads.map V.ref))->LG (Dz H') ads (cu d T)->Q (.ref q) H'
theorem zc{β: Type}(f:α->List β)(T:List α)(i:Nat):((T.take i).flatMap f).length<=(T.flatMap f).length:=by
 rw[List.flatMap_def,List.flatMap_def,List.map_take];exact nU _ _
theorem nO{β: Type}(f:α->List β){T:List α}{x:α}(h:T[i]?=Sm x):(T.take (i+1)).flatMap f=(T.take i).flatMap f++f x:=by
 rw[rT,h,zbn];simp
theorem jX{α β : Type}{R:α->β->Prop}:∀ {xs zs:List α} {ys F:List β},LG R xs ys->LG R zs F->LG R (xs++zs) (ys++F)
 | _,_,_,_,.nil,h=>h
 | _,_,_,_,.cons h t,h'=>.cons h (jX t h')
theorem pT(D:xn K mg "steps_within" bP) (F:aH P w K mg base 3 "blocks_of" ["step"] (jd K)):∀d:Nat,aH P w K mg base (d+4) "steps_within" ["program"] (uN d)
 | 0=>D.cal (k:=3) CA (λf b4 A outer s H vs Q E hr h=>by revert h;refine yF3 λp T S=>yB3 ?_;rintro rfl z _;exact z.elim)
 | d+1=>by
  have J:=pT D F d;refine D.cal (k:=d+4) CA (λf b4 A outer s H vs Q E hr h=>?_);revert h;refine yF3 λp T S=>yB5 ?_;rintro rfl ⟨hS,as,h1,h2⟩ ok hL q;have cq:=aQ h2;refine⟨_,(ah (av 1 CA.nd (aI ae))
   (ah (bT xm rfl (bJ K (pv 0)) (aV 2 CA.nd) (ah (bo (bB K xl mB mF bw (pv 1) (aa (pv 2) ae)))
   (aj (bT xm rfl (iH K (ax F hr (aa (pv 2) ae) (hle:=()))) (aV 3 CA.nd) (aj (bo (bB K xl KJ KG eI (pv 1) (aa (ax J hr (aa (pv 3) ae) (hle:=())) ae))))))))
   (aj (aA (pv 1))))),?_⟩
  cbv;refine#[∅,λlp a4=>?_];∎;rename_i H1 sm1 e1;rw?;refine#[#[_,ud.of (sm1 _ _ h1)],?_];refine b6 (xs:=as.map V.ref) (λi σ H'=>∃(O:LL) (o2 o3:LR),σ=[Sm (.ref p),Sm (.ref lp),o2,o3]/\sg H H'/\H' lp=Sm (.lst (O.map V.ref))/\LG (Dz H') O ((T.take i).flatMap (gE (cu d))))
   (yI3 ([]) Nn Nn #[rfl,sm1,e1,.nil]) (λi σ H' _ h=>by revert h;refine yF3 λ_ _ _=>yB3 λ_ sm _=>?_;exact ud.of (sm _ _ h1)) ?_ ?_
  .intro i v σ H' hv;refine yF3 λO o2 o3=>yB4 ?_;rintro rfl sm hl hp;have hi:i<as.length:=by have:=(KO.mp hv).1;simpa using this
   rw[yf,zg hi]at hv;cases hv;let#[s,hs,st]:=cP h2 (zg hi);have ca:=ok s (me hs);refine yE3 (ya st ca) λkind W bs=>yB4 λha bh a8 b3=>?_;have a3:=nO (gE (cu d)) hs;have a6:=zc (gE (cu d)) T (i+1);have cA:(T.flatMap (gE (cu d))).length<=5000:=hL;rw[a3]at a6 |-
   have b2:=aQ hp;generalize (T.take i).flatMap (gE (cu d))=pre at hp a6 b2 |-;have cb:(gE (cu d) s).length=1+((dM s).flatMap (cu d)).length:=by show (s::_).length=_;rw[ye];lia
   rw[jn,cb]at a6;have ce:Dz H as[i] s:=Ct.imp (λb xs e=>e) (λ_ _ _=>trivial) st;cbv;refine#[#[_,ud.of hl],_,hl,by rw[ze];exact cI (),?_];have a5:∀ {X:Hp} {o:HO} {l:LL} {us:List vr} {ys:LM},X lp=Sm (.lst ys)->LG (Dz X) l us->LG (Dz (upd X lp o)) l us:=λ{X o l us ys} e h=>LG.imp' (λa s z=>Ct.imp (λb xs e'=>by rw[aw (dh e' e (λz=>nomatch z))];exact e') (λ_ _ _=>trivial) z) h;have bc:=a5 (o:=.lst (O.map V.ref++[.ref as[i]])) hl hp;have ag:sg H (upd H' lp (.lst (O.map V.ref++[.ref as[i]]))):=sm.upd a4 _;have e2:upd H' lp (.lst (O.map V.ref++[.ref as[i]])) lp=Sm (.lst ((O++[as[i]]).map V.ref)):=by rw[ai,yH];rfl
   generalize upd H' lp (.lst (O.map V.ref++[.ref as[i]]))=H2 at bc ag e2 |-;have cn:su K H2 as[i] (.str kind::(W++bs.map V.ref)):=su.of (ag _ _ ha)
   have cc:(bH kind).length<=(W++bs.map V.ref).length+1:=by rw[jn,ze,bh];lia
   have bg:(W++bs.map V.ref).length+1-(bH kind).length=W.length+1:=by rw[jn,ze,bh];lia
   rw?;refine yI3 (as[i]) kind (W++bs.map V.ref) #[rfl,cn,cc,λbp H3 ad ab=>?_];rw[bg]at ab;have b1:(V.str kind::(W++bs.map V.ref)).drop (W.length+1)=bs.map V.ref:=by rw[List.drop_succ_cons,List.drop_left'];rfl
   rw[b1]at ab;cbv;refine#[#[_,ab],?_];have cB:=aQ a8;refine tf (xs:=bs.map V.ref) (λj σ H'=>∃(U:LL) (o3:LR),σ=[Sm (.ref p),Sm (.ref lp),Sm (.ref as[i]),o3]/\sg H H'/\su K H' bp (bs.map V.ref)/\H' lp=Sm (.lst (U.map V.ref))/\LG (Dz H') U (pre++(s::((dM s).take j).flatMap (cu d))))
    (yI2 (O++[as[i]]) o3 #[rfl,ag.trans ad,ab,ad _ _ e2,?_]) (λj σ H' _ h=>by revert h;refine yF2 λ_ _=>yB4 λ_ _ z1 _=>?_;exact z1) ?_ ?_
   .exact eY (R:=Dz H3) (ce.mono (ag.trans ad)) (LG.imp' (λa s z=>Dz.mono z ad) bc)
   .intro j x σ H4 hx;refine yF2 λU o3=>yB5 ?_;rintro rfl al a9 Y ac;have hj:j<bs.length:=by have:=(KO.mp hx).1;simpa using this
    rw[yf,zg hj]at hx;cases hx;let#[b,hb,cd]:=cP a8 (zg hj);have b0:=nO (cu d) hb;have hle:=zc (cu d) (dM s) (j+1);rw[b0]at hle |-
    rw[jn]at hle;have a7:=aQ ac;rw[jn,ye]at a7;cbv;refine#[#[_,ud.of Y],yI3 (bs[j]) b S #[rfl,cd.mono al,b3 b (me hb),(),λr H5 be Z cz cm bt=>?_]];have cv:=aQ bt;cbv;refine yI2 _ _ #[Z _ _ Y,cm,aJ (by rw[ze,ze];lia),?_];refine yI2 (U++be) _ #[rfl,(al.trans Z).upd a4 _,(a9.same Z).updL (Z _ _ Y),by rw[ai,yH],?_];rw[<-ir,<-uP];exact jX (a5 (Z _ _ Y) (LG.imp' (λa s z=>Dz.mono z Z) ac)) (a5 (Z _ _ Y) bt)
   .intro σ H4;refine yF2 λU o3=>yB5 ?_;rintro rfl al a9 Y ac;rw[ze,HS ()]at ac;exact yI3 U _ _ #[rfl,al,Y,ac]
  .intro σ H';refine yF3 λO o2 o3=>yB4 ?_;rintro rfl sm hl hp;rw?;rw[ze,HS ()]at hp;exact q lp H' O sm a4 hl hp
noncomputable def f_(acc:LI)(x:Str):LI:=if x∈acc then acc else acc++[x]
noncomputable def fK(l:LI):LI:=l.foldl f_ []
noncomputable def kW(l:LI):List (aT×V):=l.map λx=>(Sum.inr x,V.bl true)
theorem Fh(acc:LI)(x:Str):dk (kW acc) (.inr x) (.bl true)=kW (f_ acc x):=by
 unfold dk f_;by_cases h:x∈acc
 .rw[KZ h];have J:((kW acc).any λkv=>decide (kv.1=(Sum.inr x:aT)))=true:=by
   rw[List.any_eq_true];exact#[(.inr x,.bl true),K3.mpr #[x,h,rfl],'~']
  rw[KZ J];unfold kW;rw[oq];refine List.map_congr_left λy _=>?_;by_cases e:y=x
  .subst e;simp
  .have:¬ ((Sum.inr y:aT)=Sum.inr x):=λz=>e (Sum.inr.inj z);simp[this]
 .rw[KQ h];have J:((kW acc).any λkv=>decide (kv.1=(Sum.inr x:aT)))=false:=by
   rw[List.any_eq_false];intro kv F;let#[y,O,rfl]:=K3.mp F;have:¬ ((Sum.inr y:aT)=Sum.inr x):=λz=>h (Sum.inr.inj z ▸ O);simp[this]
  rw[KQ (by rw[J];exact xO)];unfold kW;rw[yH];rfl
theorem jx:∀(l acc:LI),(l.foldl f_ acc).length<=acc.length+l.length
 | [],acc=>'~'
 | x::l,acc=>by
  have:=jx l (f_ acc x);have h2:(f_ acc x).length<=acc.length+1:=by unfold f_;split<;>simp
  rw[zaS,ye];lia
noncomputable def cH:LM->LI->LI
 | .str x::xs,k::ks=>if k = "name" then x::cH xs ks else cH xs ks
 | _::xs,_::ks=>cH xs ks
 | _,_=>[]
noncomputable def eO:List (Str×LI):=[("open",["name"]),("do",["word","name"]),("copy",qAv),("drop",["name"]),("tie",qAv),("lend",["name","name","steps"]),("if",["bound","steps","steps"]),("while",["bound","steps"])]
structure Rj (H:Hp) (a:so) (s:vr) (kind:Str) (xs:LM) (ks:LI):Prop where
 at':H a=Sm (.tup (.str kind::xs))
 kd:(kind,ks)∈eO
 len:xs.length=ks.length
 txt:∀(i:Nat) (x:V),xs[i]?=Sm x->ks[i]?=Sm "name" -> ∃y,x = .str y
 names:cH xs ks=bZ s
theorem sw{α:Type}{a b x:α}{i:Nat}(h:[a,b][i]?=Sm x):(i=0/\x=a)\/(i=1/\x=b):=by
 match i,h with
 | 0,h=>exact .inl #[rfl,by simpa using h.symm]
 | 1,h=>exact .inr #[rfl,by simpa using h.symm]
 | i+2,h=>simp at h
theorem yJ{H:Hp}{a:so}{g:List vr->Prop}:∀ {s:vr},Dz H a s->gH g s->∃kind xs ks,Rj H a s kind xs ks
 | .plain ws,h,ok=>by
  cases ok with
  | opn x=>exact yI3 ("open") ([.str x]) (["name"]) #[h,by simp[eO],rfl,λi y e _=>by match i,e with | 0,e=>exact⟨x,by simpa using e.symm⟩ | i+1,e=>simp at e,by simp[cH,bZ];decide]
  | drp x=>exact yI3 ("drop") ([.str x]) (["name"]) #[h,by simp[eO],rfl,λi y e _=>by match i,e with | 0,e=>exact⟨x,by simpa using e.symm⟩ | i+1,e=>simp at e,by simp[cH,bZ];decide]
  | cpy x y=>exact yI3 ("copy") ([.str x,.str y]) qAv #[h,by simp[eO],rfl,λi z e _=>by rcases sw e with ⟨_,rfl⟩ | ⟨_,rfl⟩<;>exact#[_,rfl],by simp[cH,bZ];decide]
  | tie x y=>exact yI3 ("tie") ([.str x,.str y]) qAv #[h,by simp[eO],rfl,λi z e _=>by rcases sw e with ⟨_,rfl⟩ | ⟨_,rfl⟩<;>exact#[_,rfl],by simp[cH,bZ];decide]
  | doo u x=>exact yI3 ("do") ([.str u,.str x]) (["word","name"]) #[h,by simp[eO],rfl,λi z e _=>by rcases sw e with ⟨_,rfl⟩ | ⟨_,rfl⟩<;>exact#[_,rfl],by simp[cH,bZ];decide]
 | .lend x y b,⟨q,h,_⟩,ok=>yI3 ("lend") ([.str x,.str y,.ref q]) (["name","name","steps"]) #[h,by simp[eO],rfl,λi z e F=>by match i,e,F with | 0,e,F=>exact⟨_,by simpa using e.symm⟩ | 1,e,F=>exact⟨_,by simpa using e.symm⟩ | 2,e,F=>exact absurd (by simpa using F) (show ¬ (("steps" : Str) = "name") from ∅) | i+3,e,F=>simp at e,by simp[cH,bZ]]
 | .ite n b c,⟨q,r,h,_,_⟩,ok=>yI3 ("if") ([.int n,.ref q,.ref r]) (["bound","steps","steps"]) #[h,by simp[eO],rfl,λi z e F=>by match i,e,F with | 0,e,F=>exact absurd (by simpa using F) (show ¬ (("bound" : Str) = "name") from ∅) | 1,e,F=>exact absurd (by simpa using F) (show ¬ (("steps" : Str) = "name") from ∅) | 2,e,F=>exact absurd (by simpa using F) (show ¬ (("steps" : Str) = "name") from ∅) | i+3,e,F=>simp at e,by simp[cH,bZ]]
 | .whl n b,⟨q,h,_⟩,ok=>yI3 ("while") ([.int n,.ref q]) (["bound","steps"]) #[h,by simp[eO],rfl,λi z e F=>by match i,e,F with | 0,e,F=>exact absurd (by simpa using F) (show ¬ (("bound" : Str) = "name") from ∅) | 1,e,F=>exact absurd (by simpa using F) (show ¬ (("steps" : Str) = "name") from ∅) | i+2,e,F=>simp at e,by simp[cH,bZ]]
theorem sZ:∀ {xs:LM} {ks:LI} (x:V) (k:Str),xs.length=ks.length->cH (xs++[x]) (ks++[k])=cH xs ks++cH [x] [k]
 | [],[],x,k,_=>rfl
 | [],_::_,_,_,h=>by simp at h
 | _::_,[],_,_,h=>by simp at h
 | y::xs,c::ks,x,k,h=>by
  have ih:=sZ (xs:=xs) (ks:=ks) x k (by simpa using h);cases y<;>simp only[ir,cH,ih]
  split<;>simp
theorem qA(xs:LM)(ks:LI)(j:Nat)(h:xs.length=ks.length):(cH (xs.take j) (ks.take j)).length<=(cH xs ks).length:=by
 induction xs generalizing ks j with
 | nil=>simp[cH]
 | cons y xs ih=>
  cases ks with
  | nil=>simp at h
  | cons c ks=>
   cases j with
   | zero=>simp[cH]
   | succ j=>
    have:=ih ks j (by simpa using h);rw[JP,JP];cases y<;>simp only[cH]<;>(try split)<;>(try simp only[ye])<;>lia
theorem Bp{a l:so}{kvs:List (aT×V)}(h:su K H a xs)(hl:H l=Sm (.dK kvs)):su K (upd H l o) a xs:=by
 rcases h with (h | ⟨o',h⟩) | h
 .exact .inl (.inl (by rw[aw (dh h hl (λz=>nomatch z))];exact h))
 .exact .inl (.inr #[o',by rw[aw (dh h hl (λz=>nomatch z))];exact h])
 .exact .inr h
def qi:Sp:=λvs H Q _=>∃(sp:so) (ads:LL) (Ps:List vr) (g:List vr->Prop),vs=[.ref sp]/\H sp=Sm (.lst (ads.map V.ref))/\LG (Dz H) ads Ps/\(∀s∈Ps,gH g s)/\(Ps.flatMap bZ).length<=5000/\
 ∀(q:so) (H':Hp),sg H H'->H q=Nn->H' q=Sm (.lst ((fK (Ps.flatMap bZ)).map V.str))->Q (.ref q) H'
theorem xQ(D:xn K mg "names_in" b9) (ab:mg "zip" = Nn) (W:mg "list" = Nn) {dP:so} {kvs:List (Str×V)} (J:mg "PARTS" = Sm (.ref dP)) (m:Hc w K dP kvs)
  (qk:∀kind ks,(kind,ks)∈eO->∃a,bU kvs kind=Sm (.ref a)/\∀H:Hp,su K H a (ks.map V.str)):aH P w K mg base 1 "names_in" ["steps"] qi:=by
 refine D.cal F6 (λf cd A outer s H vs Q E hr h=>?_);revert h;refine yF4 λsp S U g=>yB6 ?_;rintro rfl a9 hp hok hL q;have cc:=aQ hp;refine⟨_,(ah (av 1 F6.nd rZ)
   (ah (bT xm rfl (bJ K (pv 0)) (aV 2 F6.nd) (aj (bT xm rfl (we K M_ ab (aa (fe (gY K) (pv 2) (fG af) gS) (aa (am (OO w K) (wk J) (am (au K) (pv 2) af)) ae))) (iM K (n:=2) (cG (aV 3 F6.nd) (cG (aV 4 F6.nd) gT))) (aj (aS (az aM (pv 4) ay (aB _)) (aj (iT gC (kM (pv 1) (pv 3) (DN hr)))) aL)))))
   (aj (aA (fS (yV hr) W oE (aa (pv 1) ae)))))),?_⟩
 cbv;refine λdp cb=>?_;∎;rename_i H1 sm1 e1;rw?;refine#[#[_,ud.of (sm1 _ _ a9)],?_];refine b6 (xs:=S.map V.ref) (λi σ H'=>∃o2 o3 Y:LR,σ=[Sm (.ref sp),Sm (.ref dp),o2,o3,Y]/\sg H H'/\H' dp=Sm (.dK (kW (fK ((U.take i).flatMap bZ)))))
  (yI3 Nn Nn Nn #[rfl,sm1,e1]) (λi σ H' _ h=>by revert h;refine yF3 λ_ _ _=>yB3 λ_ sm _=>?_;exact ud.of (sm _ _ a9)) ?_ ?_
 .intro i v σ H' hv;refine yF3 λo2 o3 Y=>yB3 ?_;rintro rfl sm hd;have hi:i<S.length:=by have:=(KO.mp hv).1;simpa using this
  rw[yf,zg hi]at hv;cases hv;let#[s,hs,st]:=cP hp (zg hi);refine yE3 (yJ st (hok s (me hs))) ?_;rintro kind xs ks ⟨b4,b0,ac,ca,a5⟩;let#[ka,b1,a8]:=qk kind ks b0;have bh:=nO bZ hs;have bg:=zc bZ U (i+1);rw[bh]at bg |-
  have a3:fK ((U.take i).flatMap bZ++bZ s)=(bZ s).foldl f_ (fK ((U.take i).flatMap bZ)):=by unfold fK;rw[zbm]
  rw[a3];have ag:=jx ((U.take i).flatMap bZ) [];rw[jn]at bg;rw[yU]at ag;have a7:(fK ((U.take i).flatMap bZ)).length<=((U.take i).flatMap bZ).length:=by unfold fK;lia
  generalize fK ((U.take i).flatMap bZ)=acc at hd a7 |-;have be:su K H' S[i] (.str kind::xs):=su.of (sm _ _ b4)
  cbv;refine ga be λp2 H2 as h2=>?_;have e1:dO (V.str kind::xs) (Sm 1) Nn=xs:=jl _ 1;rw[e1]at h2;cbv;refine yI2 _ _ #[.inr (be.same as),ke,yI4 dP kvs kind (.ref ka) #[rfl,rfl,m,b1,?_]];refine yI2 p2 ka #[rfl,#[_,h2],#[_,a8 _],?_];refine pL (xs:=xs) (ys:=ks.map V.str) (λj σ H'=>∃o3 Y:LR,σ=[Sm (.ref sp),Sm (.ref dp),Sm (.ref S[i]),o3,Y]/\sg H H'/\su K H' p2 xs/\H' dp=Sm (.dK (kW ((cH (xs.take j) (ks.take j)).foldl f_ acc))))
   (by rw[ze];exact ac) (yI2 o3 Y #[rfl,sm.trans as,h2,as _ _ hd]) (λj σ H' _ h=>by revert h;refine yF2 λ_ _=>yB4 λ_ _ z1 _=>?_;exact#[z1,a8 _]) ?_ ?_
  .intro j x y t σ H3 hx hy;refine yF2 λo3 Y=>yB4 ?_;rintro rfl O h3 F;intro ht;have ce:j<xs.length:=(KO.mp hx).1;have bt:j<ks.length:=()
   have al:ks[j]?=Sm ks[j]:=zg bt;rw[yf,al]at hy;cases hy;have b2:xs.take (j+1)=xs.take j++[x]:=by rw[rT,hx];rfl
   have b3:ks.take (j+1)=ks.take j++[ks[j]]:=by rw[rT,al];rfl
   have a6:=sZ (xs:=xs.take j) (ks:=ks.take j) x ks[j] (by rw[sQ,sQ,ac]);have a4:=qA xs ks j ac;rw[a5]at a4;have bc:=jx (cH (xs.take j) (ks.take j)) acc;rw[b2,b3,a6];have ad:=ca j x hx;rw[al]at ad;generalize ks[j]=kj at a6 ad |-;generalize cH (xs.take j) (ks.take j)=pk at F a4 bc |-;∎
   rename_i H4 st et;cbv;refine yI2 t _ #[rfl,su.of et,rfl,?_];cbv;refine aP (λc=>?_) (λc=>?_)
   .subst c;let#[z,rfl]:=ad rfl;have Z:=st _ _ F;refine yI3 dp _ (.inr z) #[rfl,rfl,Z,by unfold kW;rw[ze];exact cI (),?_];rw[Fh];refine yI2 _ _ #[rfl,(O.trans st).upd cb _,Bp (h3.same st) Z,?_];rw[ai,zbm];rfl
   .have bp:cH [x] [kj]=[]:=by
     cases x<;>simp[cH,c]
    rw[bp,sF];exact yI2 _ _ #[rfl,O.trans st,h3.same st,st _ _ F]
  .intro σ H3;refine yF2 λo3 Y=>yB4 ?_;rintro rfl O h3 F;rw[tO,HS (),a5]at F;exact yI3 _ _ _ #[rfl,O,F]
 .intro σ H';refine yF3 λo2 o3 Y=>yB3 ?_;rintro rfl sm hd;rw?;rw[ze,HS ()]at hd;have ag:=jx (U.flatMap bZ) [];rw[yU]at ag;refine#[_,hd,by unfold kW fK;rw[ze];lia,λl hl=>q l _ (sm.trans (ak hl _)) (sm.free hl) ?_];rw[ai];unfold kW;rw[oq];rfl
def qc:Sp:=λvs H Q _=>∃(p:so) (T:List vr) (S:so->Prop),vs=[.ref p]/\Bt S 10 H p T/\jt 10 T/\(cu 10 T).length<=1000/\((cu 10 T).flatMap bZ).length<=5000/\
 ∀(q:so) (H':Hp),sg H H'->H q=Nn->H' q=Sm (.lst ((fK ((cu 10 T).flatMap bZ)).map V.str))->Q (.ref q) H'
theorem sO:∀(d:Nat) {T:List vr},jt d T->∀s∈cu d T,∃g:List vr->Prop,gH g s
 | 0,_,h,_,_=>h.elim
 | d+1,T,ok,s,F=>by
  let#[u,U,F]:=K2.mp F;have o:=ok u U;rcases K7.mp F with rfl | F
  .exact#[_,o]
  let#[b,J,F]:=K2.mp F;refine sO d (T:=b) ?_ s F;cases u with
  | plain ws=>simp[dM]at J
  | lend x y c=>
   have:b=c:=by simpa [dM] using J
   subst this;exact o
  | ite n c e=>
   let#[S,O]:=o;have:b=c\/b=e:=by simpa [dM] using J
   rcases this with rfl | rfl
   .exact S
   .exact O
  | whl n c=>
   have:b=c:=by simpa [dM] using J
   subst this;exact o
theorem CQ:∀ {s:vr} {g:List vr->Prop},gH g s->gH (λ_=>True) s
 | .plain _,_,h=>h
 | .lend _ _ _,_,_=>trivial
 | .ite _ _ _,_,_=>#[trivial,trivial]
 | .whl _ _,_,_=>trivial
theorem xq(D:xn K mg "names_of" fC) (J:aH P w K mg base 1 "names_in" ["steps"] qi) (F:aH P w K mg base 14 "steps_within" ["program"] (uN 10)):aH P w K mg base 15 "names_of" ["program"] qc:=by
 refine D.cal vh (λf ad A outer s H vs Q E hr h=>?_);revert h;refine yF3 λp T S=>yB6 ?_;rintro rfl hp ok h1 h2 q;refine#[_,(aj (aA (ax J hr (aa (ax F hr (aa (pv 0) ae) (hle:=())) ae) (hle:=())))),?_];cbv;refine yI3 p T S #[rfl,hp,ok,(),λsp H1 U O ag Z Y=>?_];cbv;refine yI4 sp U (cu 10 T) (λ_=>True) #[rfl,Z,Y,λs hs=>let ⟨g,z⟩:=sO 10 ok s hs;CQ z,h2,λr H2 W ac ab=>?_];exact q r H2 (O.trans W) (O.free ac) ab
theorem kn{ws:LI}(h:gm ws):(ws.headD "" = "do" -> ws.length=3)/\di ws=bZ (.plain ws):=by
 cases h with
 | opn x=>exact#[λc=>absurd c (by show ¬ (Str.ofString "open" = Str.ofString "do");decide +kernel),by unfold di;simp only[bZ];rw[KQ (by show ¬ (Str.ofString "open" = Str.ofString "do");decide +kernel),KQ (by show ¬ (Str.ofString "open" = Str.ofString "do");decide +kernel)]]
 | drp x=>exact#[λc=>absurd c (by show ¬ (Str.ofString "drop" = Str.ofString "do");decide +kernel),by unfold di;simp only[bZ];rw[KQ (by show ¬ (Str.ofString "drop" = Str.ofString "do");decide +kernel),KQ (by show ¬ (Str.ofString "drop" = Str.ofString "do");decide +kernel)]]
 | cpy x y=>exact#[λc=>absurd c (by show ¬ (Str.ofString "copy" = Str.ofString "do");decide +kernel),by unfold di;simp only[bZ];rw[KQ (by show ¬ (Str.ofString "copy" = Str.ofString "do");decide +kernel),KQ (by show ¬ (Str.ofString "copy" = Str.ofString "do");decide +kernel)]]
 | tie x y=>exact#[λc=>absurd c (by show ¬ (Str.ofString "tie" = Str.ofString "do");decide +kernel),by unfold di;simp only[bZ];rw[KQ (by show ¬ (Str.ofString "tie" = Str.ofString "do");decide +kernel),KQ (by show ¬ (Str.ofString "tie" = Str.ofString "do");decide +kernel)]]
 | doo u x=>exact#[λ_=>rfl,by unfold di;simp only[bZ];rw[KZ (by rfl),KZ (by rfl)];rfl]
theorem E1{f g:List vr->Prop}{N:Str->Prop}{O:List vr->List vr}(hf:∀b,g b->(∀n∈(O b).flatMap bZ,N n)->f b):∀(s:vr),gH g s->(∀n∈(gE O s).flatMap bZ,N n)->lT f N s
 | .plain ws,ok,h=>by
  let#[h1,h2]:=kn ok;refine#[h1,λn F=>h n ?_];rw[h2]at F;exact K2.mpr #[.plain ws,yy,F]
 | .lend x y b,ok,h=>by
  refine#[h x (K2.mpr #[.lend x y b,yy,by simp[bZ]]),h y (K2.mpr #[.lend x y b,yy,by simp[bZ]]),hf b ok λn F=>h n ?_];let#[s,J,F]:=K2.mp F;exact K2.mpr #[s,yS _ (K2.mpr #[b,by simp[dM],J]),F]
 | .ite m b c,ok,h=>by
  refine#[hf b ok.1 λn F=>h n ?_,hf c ok.2 λn F=>h n ?_]
  .let#[s,J,F]:=K2.mp F;exact K2.mpr #[s,yS _ (K2.mpr #[b,by simp[dM],J]),F]
  .let#[s,J,F]:=K2.mp F;exact K2.mpr #[s,yS _ (K2.mpr #[c,by simp[dM],J]),F]
 | .whl m b,ok,h=>hf b ok λn F=>h n (by
   let#[s,J,F]:=K2.mp F;exact K2.mpr ⟨s,yS _ (K2.mpr ⟨b,by simp[dM],J⟩),F⟩)
theorem zG{N:Str->Prop}:∀(d:Nat) (T:List vr),jt d T->(∀n∈(cu d T).flatMap bZ,N n)->fQ N d T
 | 0,_,h,_=>h
 | d+1,T,ok,h=>λs O=>E1 (λb S F=>zG d b S F) s (ok s O) λn F=>h n (by
   let#[s',J,F]:=K2.mp F;exact K2.mpr ⟨s',K2.mpr ⟨s,O,J⟩,F⟩)
def dE(x:Str):Prop:=32∉x.cps.toList
def eh(f:List vr->Prop):vr->Prop
 | .plain ws=>fm ws/\∀x∈ws,dE x
 | .lend x y b=>dE x/\dE y/\f b
 | .ite n b c=>n.natAbs<10^61/\f b/\f c
 | .whl n b=>n.natAbs<10^61/\f b
def cj:Nat->List vr->Prop
 | 0,_=>False
 | d+1,T=>∀s∈T,eh (cj d) s
theorem sI(h:cj (d+1) T)(J:eh (cj d) s):cj (d+1) (T++[s]):=λu F=>(K8.mp F).elim (h u) (λz=>by rw[KU.mp z];exact J)
theorem mf(d:Nat):cj (d+1) []:=λs F=>by cases F
noncomputable def gP(f:List vr->List LI):vr->List LI
 | .plain ws=>[ws]
 | .lend x y b=>["lend",x,y]::(f b++[[("back" : Str)]])
 | .ite n b c=>["if",fZ n]::(f b++[[("else" : Str)]]++(f c++[[("fi" : Str)]]))
 | .whl n b=>["while",fZ n]::(f b++[[("done" : Str)]])
noncomputable def rK:Nat->List vr->List LI
 | 0,_=>[]
 | d+1,T=>T.flatMap (gP (rK d))
theorem Jm{f:List vr->LI}{g:List vr->List LI}(h:∀b,f b=(g b).map (Mj " ")):∀s:vr,c6 f s=(gP g s).map (Mj " ")
 | .plain ws=>rfl
 | .lend x y b=>by simp[c6,gP,h];rfl
 | .ite n b c=>by simp[c6,gP,h];exact#[rfl,rfl]
 | .whl n b=>by simp[c6,gP,h];rfl
theorem En:∀(d:Nat) (T:List vr),dy d T=(rK d T).map (Mj " ")
 | 0,_=>rfl
 | d+1,T=>by
  show T.flatMap (c6 (dy d))=(T.flatMap (gP (rK d))).map _;rw[List.map_flatMap];congr 1;funext s;exact Jm (En d) s
structure vx (ws:LI):Prop where
 ne:ws≠[]
 free:∀x∈ws,dE x
 num:(ws.headD "" = "if" \/ ws.headD "" = "while")->∃n:Int,ws[1]?=Sm (fZ n)/\n.natAbs<10^61
theorem uY(n:Int):dE (fZ n):=by
 unfold dE fZ;cases n with
 | ofNat m=>
  have e:(Str.ofString (toString (Int.ofNat m))).cps.toList=(Nat.toDigits 10 m).map Char.toNat:=W.KIN.signs_num m;rw[e];intro z;have:=(nn m).1 32 z;lia
 | negSucc m=>
  have e:(Str.ofString (toString (Int.negSucc m))).cps.toList=45::(Nat.toDigits 10 (m+1)).map Char.toNat:=by
   rw[signs_ofString];show ("-" ++ Nat.repr (m+1)).toList.map Char.toNat=_;rw[String.toList_append,yH,Nat.toList_repr];rfl
  rw[e];intro z;rcases K7.mp z with z | z
  .cases z
  .have:=(nn (m+1)).1 32 z;lia
theorem lC{x:Str}(h:dE x)(h1:¬ x = "if") (h2:¬ x = "while"):vx [x]:=#['~',by simpa using h,λz=>z.elim (λz=>absurd z h1) (λz=>absurd z h2)]
theorem JC{g:List vr->List LI}{f:List vr->Prop}(h:∀b,f b->∀ws∈g b,vx ws):∀ {s:vr},eh f s->∀ws∈gP g s,vx ws
 | .plain us,⟨px,hf⟩,ws,F=>by
  have e:ws=us:=by simpa [gP] using F
  subst e;refine#[λz=>(by subst z;cases px),hf,λz=>?_];exfalso;cases px with
  | op x=>rcases z with z | z<;>exact absurd z (show ¬ ("open" : Str)=_ from ∅)
  | dr x=>rcases z with z | z<;>exact absurd z (show ¬ ("drop" : Str)=_ from ∅)
  | dd u x=>rcases z with z | z<;>exact absurd z (show ¬ ("do" : Str)=_ from ∅)
  | cp x y=>rcases z with z | z<;>exact absurd z (show ¬ ("copy" : Str)=_ from ∅)
  | ti x y=>rcases z with z | z<;>exact absurd z (show ¬ ("tie" : Str)=_ from ∅)
 | .lend x y b,⟨hx,hy,hb⟩,ws,F=>by
  simp only[gP,yk,IZ,yT,or_false]at F;rcases F with rfl | F | rfl
  .refine#['~',λu J=>?_,λz=>?_]
   .simp only[yk,yT,or_false]at J;rcases J with rfl | rfl | rfl
    .show 32∉_;decide
    .exact hx
    .exact hy
   .exfalso;rcases z with z | z<;>exact absurd z (show ¬ ("lend" : Str)=_ from ∅)
  .exact h b hb ws F
  .exact lC (show 32∉_ from ∅) ∅ ∅
 | .ite n b c,⟨hn,hb,hc⟩,ws,F=>by
  simp only[gP,yk,IZ,yT,or_false]at F;rcases F with rfl | (F | rfl) | F | rfl
  .refine#['~',λu J=>?_,λ_=>#[n,rfl,hn]];simp only[yk,yT,or_false]at J;rcases J with rfl | rfl
   .show 32∉_;decide
   .exact uY n
  .exact h b hb ws F
  .exact lC (show 32∉_ from ∅) ∅ ∅
  .exact h c hc ws F
  .exact lC (show 32∉_ from ∅) ∅ ∅
 | .whl n b,⟨hn,hb⟩,ws,F=>by
  simp only[gP,yk,IZ,yT,or_false]at F;rcases F with rfl | F | rfl
  .refine#['~',λu J=>?_,λ_=>#[n,rfl,hn]];simp only[yk,yT,or_false]at J;rcases J with rfl | rfl
   .show 32∉_;decide
   .exact uY n
  .exact h b hb ws F
  .exact lC (show 32∉_ from ∅) ∅ ∅
theorem Em:∀ {d:Nat} {T:List vr},cj d T->∀ws∈rK d T,vx ws
 | 0,_,h,_,_=>h.elim
 | d+1,T,h,ws,F=>by
  let#[s,J,F]:=K2.mp F;exact JC (λb z=>Em z) (h s J) ws F
theorem Ag(l:LI):(fK l).Nodup:=by
 unfold fK;have go:∀(l acc:LI),acc.Nodup->(l.foldl f_ acc).Nodup:=λl=>by
  induction l with
  | nil=>intro acc h;exact h
  | cons x l ih=>
   intro acc h;refine ih _ ?_;unfold f_;split
   .exact h
   .rename_i c;rw[ID];exact#[h,'~',λa F b J=>by rw[KU.mp J];exact λz=>c (z ▸ F)]
 exact go l [] Ih
theorem zO{f g:List vr->Prop}(h:∀b,f b->g b):∀ {s:vr},eh f s->gH g s
 | .plain ws,⟨px,_⟩=>by
  show gm ws;cases px with
  | op x=>exact .opn x
  | dr x=>exact .drp x
  | dd u x=>exact .doo u x
  | cp x y=>exact .cpy x y
  | ti x y=>exact .tie x y
 | .lend _ _ _,z=>h _ z.2.2
 | .ite _ _ _,z=>#[h _ z.2.1,h _ z.2.2]
 | .whl _ _,z=>h _ z.2
theorem md:∀ {d:Nat} {T:List vr},cj d T->jt d T
 | 0,_,h=>h
 | _+1,_,h=>λs F=>zO (λ_ z=>md z) (h s F)
def mV(ws:LI):Prop:=ws.headD "" = "lend" -> ∃x y,ws=[("lend" : Str),x,y]
theorem Gk{f:List vr->List LI}{p:List vr->Prop}(h:∀b,p b->∀ws∈f b,mV ws):∀(s:vr),eh p s->∀ws∈gP f s,mV ws
 | .plain us,⟨px,_⟩,ws,F=>by
  have e:ws=us:=by simpa [gP] using F
  subst e;intro z;exfalso;cases px with
  | op x=>exact absurd z (show ¬ ("open" : Str)=_ from ⋯)
  | dr x=>exact absurd z (show ¬ ("drop" : Str)=_ from ⋯)
  | dd u x=>exact absurd z (show ¬ ("do" : Str)=_ from ⋯)
  | cp x y=>exact absurd z (show ¬ ("copy" : Str)=_ from ⋯)
  | ti x y=>exact absurd z (show ¬ ("tie" : Str)=_ from ⋯)
 | .lend x y b,⟨_,_,hb⟩,ws,F=>by
  simp only[gP,yk,IZ,yT,or_false]at F;rcases F with rfl | F | rfl
  .exact λ_=>yI2 x y rfl
  .exact h b hb ws F
  .exact λz=>absurd z (show ¬ ("back" : Str)=_ from ⋯)
 | .ite n b c,⟨_,hb,hc⟩,ws,F=>by
  simp only[gP,yk,IZ,yT,or_false]at F;rcases F with rfl | (F | rfl) | F | rfl
  .exact λz=>absurd z (show ¬ ("if" : Str)=_ from ⋯)
  .exact h b hb ws F
  .exact λz=>absurd z (show ¬ ("else" : Str)=_ from ⋯)
  .exact h c hc ws F
  .exact λz=>absurd z (show ¬ ("fi" : Str)=_ from ⋯)
 | .whl n b,⟨_,hb⟩,ws,F=>by
  simp only[gP,yk,IZ,yT,or_false]at F;rcases F with rfl | F | rfl
  .exact λz=>absurd z (show ¬ ("while" : Str)=_ from ⋯)
  .exact h b hb ws F
  .exact λz=>absurd z (show ¬ ("done" : Str)=_ from ⋯)
theorem AG:∀ {d:Nat} {T:List vr},cj d T->∀ws∈rK d T,mV ws
 | 0,_,h,_,_=>h.elim
 | d+1,T,h,ws,F=>by
  let#[s,J,F]:=K2.mp F;exact Gk (λb z=>AG z) s (h s J) ws F
theorem vg{ws:LI}(o:vx ws)(h:mV ws):g0 (Mj " " ws)=decide (ws.headD "" = "lend"):=by
 by_cases c:ws.headD "" = "lend"
 .let#[x,y,rfl]:=h c;rw[pR,decide_eq_true c]
 .rw[decide_eq_false c];cases hb:g0 (Mj " " ws) with
  | false=>rfl
  | true=>
   exfalso;unfold g0 at hb;rw[KI,decide_eq_true_eq]at hb;let#[h1,h2]:=hb;unfold Ol at h2;rw[beq_iff_eq]at h2;have hl:("lend " : Str).length=5:=⋯;rw[hl]at h2;have U:((Mj " " ws).cps.extract 0 (0+5)).toList=("lend " : Str).cps.toList:=by rw[h2]
   rw[zbj]at U;simp only[List.extract_eq_drop_take,ms,Nat.sub_zero,List.drop_zero]at U;have O:(Mj " " ws).cps.toList=("lend" : Str).cps.toList++32::(Mj " " ws).cps.toList.drop 5:=by
    conv=>lhs;rw[<-IE 5 (Mj " " ws).cps.toList,U]
    have:("lend " : Str).cps.toList=("lend" : Str).cps.toList++[32]:=⋯;rw[this,uP];rfl
   have hf:32∉("lend" : Str).cps.toList:=⋯;let#[F,wr,rfl]:=List.exists_cons_of_ne_nil o.ne;have J:32∉F.cps.toList:=o.free F yy;cases wr with
   | nil=>
    have:(Mj " " [F]).cps.toList=F.cps.toList:=rfl;rw[this]at O;rw[O]at J;exact J (nS _ yy)
   | cons x r=>
    have S:∀(r:LI) (a:Str) (Bv:LJ),a.cps.toList=F.cps.toList++32::Bv->∃rest',(r.foldl (λa x=>a++(" " : Str)++x) a).cps.toList=F.cps.toList++32::rest':=λr=>by
     induction r with
     | nil=>intro a Bv e;exact#[Bv,e]
     | cons y r ih=>
      intro a Bv e;refine ih (a++(" " : Str)++y) (Bv++(" " : Str).cps.toList++y.cps.toList) ?_;rw[gi,gi,e];simp only[uP,ir]
    rw[zn]at O;let#[Bv,Y]:=S r (F++(" " : Str)++x) x.cps.toList (by
     have W:(" " : Str).cps.toList=[32]:=⋯;rw[gi,gi,W,uP];rfl)
    rw[zaS,Y]at O;have:=(uu J hf O).1;exact c (vE this)
noncomputable def nB(W:List LI):LJ:=(List.range W.length).filter λi=>decide ((W.getD i []).headD "" = "lend")
theorem CD{W:List LI}(J:∀ws∈W,vx ws)(hl:∀ws∈W,mV ws):gD (W.map (Mj " "))=nB W:=by
 unfold gD nB;rw[ze];refine List.filter_congr λi hi=>?_;have F:=Lg.mp hi;rw[xV,xV,yf,zg F];exact vg (J _ (xF F)) (hl _ (xF F))
theorem Fo{l:LI}{n:Str}(h:n∈l):n∈fK l:=by
 unfold fK;have go:∀(l acc:LI),n∈acc\/n∈l->n∈l.foldl f_ acc:=λl=>by
  induction l with
  | nil=>intro acc h;exact h.elim id (λz=>by cases z)
  | cons x l ih=>
   intro acc h;refine ih _ ?_;unfold f_;rcases h with h | h
   .left;split
    .exact h
    .exact sE _ h
   .rcases K7.mp h with rfl | h
    .left;split
     .assumption
     .exact nS _ yy
    .exact .inr h
 exact go l [] (.inr h)
theorem ju(F:fm ws):ws.headD "" = "open" \/ ws.headD "" = "drop" \/ ws.headD "" = "do" \/ ws.headD "" = "copy" \/ ws.headD "" = "tie" := by
 cases F
 .exact .inl rfl
 .exact .inr (.inl rfl)
 .exact .inr (.inr (.inl rfl))
 .exact .inr (.inr (.inr (.inl rfl)))
 .exact .inr (.inr (.inr (.inr rfl)))
set_option genSizeOf false in
inductive uR where
 | top
 | lend (x y:Str)
 | ite (n:Int)
 | whl (n:Int)
set_option genInjectivity false in
set_option genSizeOf false in
structure tK where
 hd:uR
 a:List vr
 b:List vr
 s:Bool
noncomputable def je:uR->LM
 | .top=>[.str "top"]
 | .lend x y=>[.str "lend",.str x,.str y]
 | .ite n=>[.str "if",.int n]
 | .whl n=>[.str "while",.int n]
noncomputable def gk(f:tK):vr:=match f.hd with
 | .top=>.plain []
 | .lend x y=>.lend x y f.a
 | .ite n=>.ite n f.a f.b
 | .whl n=>.whl n f.a
noncomputable def bC(f:tK)(s:vr):tK:=if f.s=true then {f with b:=f.b++[s]} else {f with a:=f.a++[s]}
set_option genInjectivity false in
set_option genSizeOf false in
structure C6 where
 fa:so
 a1:so
 a2:so
 f:tK
variable{x:C6}{gs:List C6}
noncomputable def fO(fs:List C6):LL:=fs.flatMap λx=>[x.fa,x.a1,x.a2]
noncomputable def mX(b:Bool):V:=.int (if b=true then 1 else 0)
def HX(S:so->Prop)(H:Hp)(d:Nat)(x:C6):Prop:=∃(ha:so) (as1 as2:LL),H x.fa=Sm (.lst [.ref ha,.ref x.a1,.ref x.a2,mX x.f.s])/\H ha=Sm (.tup (je x.f.hd))/\H x.a1=Sm (.lst (as1.map V.ref))/\H x.a2=Sm (.lst (as2.map V.ref))/\LG (Ct (Bt S d H) H) as1 x.f.a/\LG (Ct (Bt S d H) H) as2 x.f.b
structure Df (H0 H:Hp) (pp:so) (fs:List C6) (S:so->Prop):Prop where
 sm:sg H0 H
 pile:H pp=Sm (.lst (fs.map λx=>V.ref x.fa))
 fr:∀k x,fs[k]?=Sm x->HX S H (9-k) x
 nd:(pp::fO fs).Nodup
 ns:∀b∈pp::fO fs,¬ S b
 nw:∀b∈pp::fO fs,H0 b=Nn
 sn:∀b,S b->H0 b=Nn/\∃xs,H b=Sm (.lst xs)
theorem wV{b:so}(J:S b)(F:¬ S q):b≠q:=λe=>F (e ▸ J)
theorem KS{L:LL}(F:q∈L)(J:p∉L):p≠q:=λe=>J (e ▸ F)
theorem cY{S':so->Prop}(F:∀b xs,H b=Sm (.tup xs)->H' b=Sm (.tup xs))(hl:∀b xs,S b->H b=Sm (.lst xs)->H' b=Sm (.lst xs))(O:∀b,S b->S' b){J:LL}(h:LG (Ct (Bt S d H) H) J T):LG (Ct (Bt S' d H') H') J T:=
 LG.imp' (λa s z=>Ct.imp F (λq b y=>Bt.imp F hl O d y) z) h
theorem HX.imp{S':so->Prop}(h:HX S H d x)(O:∀b xs,H b=Sm (.tup xs)->H' b=Sm (.tup xs))(hl:∀b xs,S b->H b=Sm (.lst xs)->H' b=Sm (.lst xs))(W:∀b,S b->S' b)(U:∀b o,(b=x.fa\/b=x.a1\/b=x.a2)->H b=Sm o->H' b=Sm o):HX S' H' d x:=by
 revert h;refine yF3 λZ F J=>yB6 λh1 h2 Y h4 h5 h6=>?_;exact yI3 Z F J #[U _ _ (.inl rfl) h1,O _ _ h2,U _ _ (.inr (.inl rfl)) Y,U _ _ (.inr (.inr rfl)) h4,cY O hl W h5,cY O hl W h6]
theorem fT{fs:List C6}(h:x∈fs):x.fa∈fO fs/\x.a1∈fO fs/\x.a2∈fO fs:=by
 unfold fO;refine#[?_,?_,?_]<;>exact K2.mpr #[x,h,'~']
theorem fD(fs gs:List C6):fO (fs++gs)=fO fs++fO gs:=zbn
theorem Df.alloc{J:Hp}{F:so}{fs:List C6}(I:Df J H F fs S)(s:sg H H'):Df J H' F fs S:=
 #[I.sm.trans s,s _ _ I.pile,λk x e=>(I.fr k x e).imp (λb xs z=>s _ _ z) (λb xs _ z=>s _ _ z) (λ_ z=>z) (λb o _ z=>s _ _ z),I.nd,I.ns,I.nw,λb O=>#[(I.sn b O).1,by let#[xs,z]:=(I.sn b O).2;exact#[xs,s _ _ z]]]
theorem Df.free{F:Hp}{fs:List C6}(I:Df F H J fs S){t:so}(h:H t=Nn):F t=Nn/\¬ S t:=by
 refine#[I.sm.free h,λz=>?_];let#[_,xs,e]:=I.sn t z;rw[h]at e;cases e
theorem Df.notop{O:Hp}{fs:List C6}(I:Df O H J fs S){t:so}(h:H t=Nn):t∉J::fO fs:=λz=>by
 rcases K7.mp z with rfl | z
 .rw[I.pile]at h;cases h
 .let#[x,hx,F]:=K2.mp z;let#[k,Z,rfl]:=Le.mp hx;refine yE3 (I.fr k _ (zg Z)) λha W Y=>yB5 λh1 h2 U h4 _=>?_;simp only[yk,yT,or_false]at F;rcases F with e | e | e<;>rw[e]at h
  .rw[h1]at h;cases h
  .rw[U]at h;cases h
  .rw[h4]at h;cases h
theorem Df.write{H0:Hp}{pp:so}{F:C6}(I:Df H0 H pp (gs++[x]) S){ys:LM}(hq:q=x.fa\/q=x.a1\/q=x.a2)(e1:F.fa=x.fa)(e2:F.a1=x.a1)(e3:F.a2=x.a2)(hx:HX S (upd H q (.lst ys)) (9-gs.length) F):Df H0 (upd H q (.lst ys)) pp (gs++[F]) S:=by
 have O:fO (gs++[F])=fO (gs++[x]):=by
  rw[fD,fD];show _++[F.fa,F.a1,F.a2]=_++[x.fa,x.a1,x.a2]
  rw[e1,e2,e3]
 have ag:x∈gs++[x]:=nS _ yy;have W:q∈fO (gs++[x]):=by
  let#[m1,m2,m3]:=fT ag;rcases hq with rfl | rfl | rfl<;>assumption
 have al:¬ S q:=I.ns q (yS _ W);have a3:H0 q=Nn:=I.nw q (yS _ W);refine yE3 (I.fr gs.length x (by rw[uC (zu _),JL];rfl)) λha a4 a5=>yB5 λh1 h2 h3 h4 _=>?_;have ac:∃zs,H q=Sm (.lst zs):=by
  rcases hq with rfl | rfl | rfl
  .exact#[_,h1]
  .exact#[_,h3]
  .exact#[_,h4]
 let#[zs,as]:=ac;have ht:∀b xs,H b=Sm (.tup xs)->upd H q (.lst ys) b=Sm (.tup xs):=λb xs z=>by rw[aw (dh z as (λy=>nomatch y))];exact z
 have hl:∀b xs,S b->H b=Sm (.lst xs)->upd H q (.lst ys) b=Sm (.lst xs):=λb xs Y z=>by rw[aw (wV Y al)];exact z
 have U:=I.nd;rw[IJ]at U;refine#[I.sm.upd a3 _,?_,λk y J=>?_,by rw[O];exact I.nd,by rw[O];exact I.ns,by rw[O];exact I.nw,λb Y=>#[(I.sn b Y).1,?_]]
 .rw[aw (KS W U.1),I.pile,yH,yH];show Sm (HO.lst (_++[V.ref x.fa]))=Sm (HO.lst (_++[V.ref F.fa]));rw[e1]
 .by_cases hk:k<gs.length
  .rw[xR hk]at J;refine(I.fr k y (by rw[xR hk];exact J)).imp ht hl (λ_ z=>z) (λb o Y z=>?_);have ab:b∈fO gs:=by
    let#[m1,m2,m3]:=fT (me J);rcases Y with rfl | rfl | rfl<;>assumption
   have ad:q∈fO [x]:=by
    let#[m1,m2,m3]:=fT (fs:=[x]) (x:=x) yy;rcases hq with rfl | rfl | rfl<;>assumption
   have:=U.2;rw[fD,ID]at this;rw[aw (this.2.2 b ab q ad)];exact z
  .rw[uC ()]at J;have Z:k-gs.length=0:=by have:=(KO.mp J).1;simp at this;lia
   rw[Z]at J;cases J;rw[show k=gs.length from ()];exact hx
 .let#[xs,z]:=(I.sn b Y).2;exact#[xs,hl b xs Y z]
theorem c8(gs:List α)(x:α):(gs++[x])[gs.length]?=Sm x:=by rw[uC (zu _),JL];rfl
theorem Df.put{H0 H:Hp}{pp:so}{gs:List C6}{x:C6}{S:so->Prop}(I:Df H0 H pp (gs++[x]) S){t:so}{st:vr}(ht:Ct (Bt S (9-gs.length) H) H t st) :
  ∃(q:so) (as:LL),q=(if x.f.s=true then x.a2 else x.a1)/\H q=Sm (.lst (as.map V.ref))/\as.length=(if x.f.s=true then x.f.b else x.f.a).length/\Df H0 (upd H q (.lst (as.map V.ref++[.ref t]))) pp (gs++[{x with f:=bC x.f st}]) S:=by
 refine yE3 (I.fr gs.length x (c8 gs x)) λY F J=>yB6 λh1 h2 h3 h4 h5 h6=>?_;have ac:x∈gs++[x]:=nS _ yy;have ab:=I.nd;rw[IJ,fD,ID]at ab;have Z:[x.fa,x.a1,x.a2].Nodup:=ab.2.2.1;simp only[IJ,yk,yT,or_false,not_or,not_false_eq_true,Ih,and_true]at Z;let#[#[n1,n2],n3]:=Z;let#[m1,m2,m3]:=fT ac;cases hs:x.f.s with
 | true=>
  refine yI2 x.a2 J #[rfl,h4,aQ h6,I.write (.inr (.inr rfl)) rfl rfl rfl ?_];have W:¬ S x.a2:=I.ns _ (yS _ m3);have U:∀b xs,H b=Sm (.tup xs)->upd H x.a2 (.lst (J.map V.ref++[.ref t])) b=Sm (.tup xs):=λb xs z=>by rw[aw (dh z h4 (λy=>nomatch y))];exact z
  have kl:∀b xs,S b->H b=Sm (.lst xs)->upd H x.a2 (.lst (J.map V.ref++[.ref t])) b=Sm (.lst xs):=λb xs hb z=>by rw[aw (wV hb W)];exact z
  refine yI3 Y F (J++[t]) #[?_,U _ _ ?_,?_,by rw[ai,yH];rfl,?_,?_]
  .show upd H x.a2 _ x.fa=Sm (.lst [.ref Y,.ref x.a1,.ref x.a2,mX (bC x.f st).s]);rw[aw n2,h1];unfold bC;rw[KZ hs]
  .show H Y=Sm (.tup (je (bC x.f st).hd));rw[h2];unfold bC;rw[KZ hs]
  .show upd H x.a2 _ x.a1=_;rw[aw n3];exact h3
  .show LG _ F (bC x.f st).a;unfold bC;rw[KZ hs];exact cY U kl (λ_ z=>z) h5
  .show LG _ (J++[t]) (bC x.f st).b;unfold bC;rw[KZ hs];exact cY U kl (λ_ z=>z) (eW h6 (.cons ht .nil))
 | false=>
  refine yI2 x.a1 F #[rfl,h3,aQ h5,I.write (.inr (.inl rfl)) rfl rfl rfl ?_];have W:¬ S x.a1:=I.ns _ (yS _ m2);have U:∀b xs,H b=Sm (.tup xs)->upd H x.a1 (.lst (F.map V.ref++[.ref t])) b=Sm (.tup xs):=λb xs z=>by rw[aw (dh z h3 (λy=>nomatch y))];exact z
  have kl:∀b xs,S b->H b=Sm (.lst xs)->upd H x.a1 (.lst (F.map V.ref++[.ref t])) b=Sm (.lst xs):=λb xs hb z=>by rw[aw (wV hb W)];exact z
  have O:¬ x.f.s=true:=by rw[hs];decide
  refine yI3 Y (F++[t]) J #[?_,U _ _ ?_,by rw[ai,yH];rfl,?_,?_,?_]
  .show upd H x.a1 _ x.fa=Sm (.lst [.ref Y,.ref x.a1,.ref x.a2,mX (bC x.f st).s]);rw[aw n1,h1];unfold bC;rw[KQ O]
  .show H Y=Sm (.tup (je (bC x.f st).hd));rw[h2];unfold bC;rw[KQ O]
  .show upd H x.a1 _ x.a2=_;rw[aw (uW n3)];exact h4
  .show LG _ (F++[t]) (bC x.f st).a;unfold bC;rw[KQ O];exact cY U kl (λ_ z=>z) (eW h5 (.cons ht .nil))
  .show LG _ J (bC x.f st).b;unfold bC;rw[KQ O];exact cY U kl (λ_ z=>z) h6
theorem Df.push{Y:Hp}{fs:List C6}(I:Df Y H J fs S)(hx:HX S H (9-fs.length) x)(n1:[x.fa,x.a1,x.a2].Nodup)(hf:∀b∈[x.fa,x.a1,x.a2],b∉J::fO fs/\¬ S b/\Y b=Nn):Df Y (upd H J (.lst (fs.map (λx=>V.ref x.fa)++[.ref x.fa]))) J (fs++[x]) S:=by
 have ad:¬ S J:=I.ns J yy;have Z:Y J=Nn:=I.nw J yy;have O:=I.nd;rw[IJ]at O;have kt:∀b xs,H b=Sm (.tup xs)->upd H J (.lst (fs.map (λx=>V.ref x.fa)++[.ref x.fa])) b=Sm (.tup xs):=λb xs z=>by rw[aw (dh z I.pile (λy=>nomatch y))];exact z
 have kl:∀b xs,S b->H b=Sm (.lst xs)->upd H J (.lst (fs.map (λx=>V.ref x.fa)++[.ref x.fa])) b=Sm (.lst xs):=λb xs F z=>by rw[aw (wV F ad)];exact z
 have ko:∀b o,b≠J->H b=Sm o->upd H J (.lst (fs.map (λx=>V.ref x.fa)++[.ref x.fa])) b=Sm o:=λb o F z=>by rw[aw F];exact z
 have W:fO (fs++[x])=fO fs++[x.fa,x.a1,x.a2]:=by rw[fD];rfl
 refine#[I.sm.upd Z _,by rw[ai,yH];rfl,λk y U=>?_,?_,λb F=>?_,λb F=>?_,λb F=>#[(I.sn b F).1,by let#[xs,z]:=(I.sn b F).2;exact#[xs,kl b xs F z]]]
 .by_cases hk:k<fs.length
  .rw[xR hk]at U;refine(I.fr k y U).imp kt kl (λ_ z=>z) (λb o F z=>ko b o (λe=>?_) z);let#[m1,m2,m3]:=fT (me U);rcases F with h | h | h
   .exact O.1 (by rw[<-e,h];exact m1)
   .exact O.1 (by rw[<-e,h];exact m2)
   .exact O.1 (by rw[<-e,h];exact m3)
  .rw[uC ()]at U;have ab:k-fs.length=0:=by have:=(KO.mp U).1;simp at this;lia
   rw[ab]at U;cases U;rw[show k=fs.length from ()];refine hx.imp kt kl (λ_ z=>z) (λb o F z=>ko b o (λe=>?_) z);have ac:b∈[x.fa,x.a1,x.a2]:=by rcases F with h | h | h<;>rw[h]<;>simp
   exact(hf b ac).1 (by rw[e];exact yy)
 .rw[W,<-ir,ID];exact#[I.nd,n1,λa ha b F e=>(hf b F).1 (e ▸ ha)]
 .rw[W,<-ir]at F;rcases K8.mp F with h | h
  .exact I.ns b h
  .exact(hf b h).2.1
 .rw[W,<-ir]at F;rcases K8.mp F with h | h
  .exact I.nw b h
  .exact(hf b h).2.2
theorem Df.pop{H0:Hp}(I:Df H0 H J (gs++[x]) S)(hg:gs.length<=8) :
  Df H0 (upd H J (.lst (gs.map λx=>V.ref x.fa))) J gs (λb=>S b\/b=x.a1\/b=x.a2)/\Bt (λb=>S b\/b=x.a1\/b=x.a2) (10-gs.length) (upd H J (.lst (gs.map λx=>V.ref x.fa))) x.a1 x.f.a/\Bt (λb=>S b\/b=x.a1\/b=x.a2) (10-gs.length) (upd H J (.lst (gs.map λx=>V.ref x.fa))) x.a2 x.f.b:=by
 refine yE3 (I.fr gs.length x (c8 gs x)) λha O W=>yB6 λh1 h2 h3 h4 h5 h6=>?_;have ad:¬ S J:=I.ns J yy;have ac:H0 J=Nn:=I.nw J yy;have U:=I.nd;rw[fD,<-ir,ID]at U;let#[d1,d2,d3]:=U;have dx:∀b∈J::fO gs,b≠x.a1/\b≠x.a2:=λb F=>#[λe=>d3 b F x.a1 (by show _∈[x.fa,x.a1,x.a2];simp) e,λe=>d3 b F x.a2 (by show _∈[x.fa,x.a1,x.a2];simp) e];have kt:∀b xs,H b=Sm (.tup xs)->upd H J (.lst (gs.map λx=>V.ref x.fa)) b=Sm (.tup xs):=λb xs z=>by rw[aw (dh z I.pile (λy=>nomatch y))];exact z
 have Y:∀b xs,S b->H b=Sm (.lst xs)->upd H J (.lst (gs.map λx=>V.ref x.fa)) b=Sm (.lst xs):=λb xs F z=>by rw[aw (wV F ad)];exact z
 have p1:=(dx J yy).1;have p2:=(dx J yy).2;have k3:upd H J (.lst (gs.map λx=>V.ref x.fa)) x.a1=Sm (.lst (O.map V.ref)):=by rw[aw p1.symm];exact h3
 have k4:upd H J (.lst (gs.map λx=>V.ref x.fa)) x.a2=Sm (.lst (W.map V.ref)):=by rw[aw p2.symm];exact h4
 have ab:x∈gs++[x]:=nS _ yy;let#[m1,m2,m3]:=fT ab;have e9:10-gs.length=9-gs.length+1:=()
 refine#[#[I.sm.upd ac _,ai,λk y hy=>?_,d1,λb F z=>?_,λb F=>?_,λb F=>?_],?_,?_]
 .have hk:=(KO.mp hy).1;refine(I.fr k y (by rw[xR hk];exact hy)).imp kt Y (λ_ z=>.inl z) (λb o F z=>?_);have Z:b∈fO gs:=by
   let#[m1,m2,m3]:=fT (me hy);rcases F with rfl | rfl | rfl<;>assumption
  rw[IJ]at d1;rw[aw (KS Z d1.1).symm];exact z
 .rcases z with z | z | z
  .exact I.ns b (by rw[fD,<-ir];exact sE _ F) z
  .exact(dx b F).1 z
  .exact(dx b F).2 z
 .exact I.nw b (by rw[fD,<-ir];exact sE _ F)
 .rcases F with F | rfl | rfl
  .exact#[(I.sn b F).1,by let#[xs,z]:=(I.sn b F).2;exact#[xs,Y b xs F z]]
  .exact#[I.nw _ (yS _ m2),_,k3]
  .exact#[I.nw _ (yS _ m3),_,k4]
 .rw[e9];exact#[.inr (.inl rfl),O,k3,cY kt Y (λ_ z=>.inl z) h5]
 .rw[e9];exact#[.inr (.inr rfl),W,k4,cY kt Y (λ_ z=>.inl z) h6]
def yQ:Sp:=λvs H Q _=>∃(pp t:so) (H0:Hp) (gs:List C6) (x:C6) (S:so->Prop) (st:vr),vs=[.ref pp,.ref t]/\Df H0 H pp (gs++[x]) S/\Ct (Bt S (9-gs.length) H) H t st/\x.f.a.length<=1000/\x.f.b.length<=1000/\gs.length<=100/\
 ∀H':Hp,Df H0 H' pp (gs++[{x with f:=bC x.f st}]) S->Q .non H'
theorem hZ:cM ((gs++[x]).map λx=>V.ref x.fa) (-1)=Sm (.ref x.fa):=EK (by rw[ze,yf,jn];simp)
theorem Iz(D:xn K mg "_law_put" ij):aH P w K mg base 1 "_law_put" qAW yQ:=by
 refine D.cal (k:=0) xK (λf ac A outer s0 H vs Q E hr h=>?_);revert h;refine yF7 λpp t H0 gs x S st=>yB7 ?_;rintro rfl I ht Z ad ab q;refine#[_,(aj (bo (bB K xl mB mF bw (am (au K) (am (au K) (pv 0) (fH eP af)) (ar aF af (am (au K) (am (au K) (pv 0) (fH eP af)) af))) (aa (pv 1) ae)))),?_];refine yE3 (I.fr gs.length x (c8 gs x)) λha Y ag=>yB6 λh1 h2 h3 h4 h5 h6=>?_;refine yE2 (I.put ht) λq0 as=>yB4 λO J F U=>?_;cbv;refine X2 (ud.of I.pile) hZ ?_;cbv;refine X2 (ud.of I.pile) hZ ?_;cbv;refine X2 (ud.of h1) (ao (j:=3) rfl) ?_;cases hs:x.f.s with
 | true=>
  rw[hs,KZ rfl]at O F;subst O;rw[show mX true=V.int 1 from rfl];cbv;refine X2 (ud.of h1) (ao (j:=2) rfl) ?_;cbv;refine#[#[_,ud.of J],_,J,by rw[ze,F];exact cI (),?_];exact q _ U
 | false=>
  rw[hs,KQ ∅]at O F;subst O;rw[show mX false=V.int 0 from rfl];cbv;refine X2 (ud.of h1) (ao (j:=1) rfl) ?_;cbv;refine#[#[_,ud.of J],_,J,by rw[ze,F];exact cI (),?_];exact q _ U
def oK:Sp:=λvs H Q _=>∃(pp:so) (H0:Hp) (gs:List C6) (g x:C6) (S:so->Prop),vs=[.ref pp]/\Df H0 H pp (gs++[g]++[x]) S/\x.f.hd ≠ .top/\g.f.a.length<=1000/\g.f.b.length<=1000/\gs.length<=7/\
 ∀(H':Hp) (S':so->Prop),Df H0 H' pp (gs++[{g with f:=bC g.f (gk x.f)}]) S'->Q .non H'
theorem Bw(D:xn K mg "_law_close" cy) (J:aH P w K mg base 1 "_law_put" qAW yQ):aH P w K mg base 2 "_law_close" ["_law_pile"] oK:=by
 refine D.cal (k:=1) Dp (λf a6 A outer s0 H vs Q E hr h=>?_);revert h;refine yF6 λY H0 gs g x S=>yB7 ?_;rintro rfl I hx Z ab a5 q;refine⟨_,(ah (iT (wg K xl F.slot_list_pop F.type_list_pop vO (pv 0)) (E7 K (n:=4) (cG (aV 1 Dp.nd) (cG (aV 2 Dp.nd) (cG (aV 3 Dp.nd) (cG (aV 4 Dp.nd) gT))))))
   (aj (aS (az aM (am (au K) (pv 1) af) ay (aB _)) (aj (bo (ax J hr (aa (pv 0) (aa (ar (ee K) (pv 1) (aN (aa (pv 2) (aa (pv 3) ae)))) ae))))) (aj (bo (ax J hr (aa (pv 0) (aa (ar (ee K) (pv 1) (aN (aa (pv 2) ae))) ae)))))))),?_⟩
 refine yE3 (I.fr (gs++[g]).length x (c8 (gs++[g]) x)) λha a4 a7=>yB6 λh1 h2 h3 h4 h5 h6=>?_;let#[I2,pa,pb]:=I.pop (by rw[jn];simp;lia);have ad:(gs++[g]).length=gs.length+1:='~';rw[ad,show 10-(gs.length+1)=9-gs.length from ()]at pa pb;cbv;refine#[#[_,ud.of I.pile],yI2 _ _ #[I.pile,(by rw[yH,jn,uC '~'];simp:_=Sm (V.ref x.fa)),?_]];rw[yH,yX,IT,List.dropLast_concat];have as:x.fa≠Y:=λe=>by
  have:=I.nd;rw[IJ]at this;exact this.1 (by rw[<-e];exact(fT (nS _ yy)).1)
 have ac:upd H Y (.lst ((gs++[g]).map λx=>V.ref x.fa)) x.fa=Sm (.lst [.ref ha,.ref x.a1,.ref x.a2,mX x.f.s]):=by rw[aw as];exact h1
 have O:upd H Y (.lst ((gs++[g]).map λx=>V.ref x.fa)) ha=Sm (.tup (je x.f.hd)):=by rw[aw (dh h2 I.pile (λy=>nomatch y))];exact h2
 generalize upd H Y (.lst ((gs++[g]).map λx=>V.ref x.fa))=H1 at I2 pa pb ac O |-
 rw[EU];refine yI2 x.fa _ #[rfl,ud.of ac,rfl,?_];have a3:C6.mk g.fa g.a1 g.a2 (bC g.f (gk x.f))={g with f:=bC g.f (gk x.f)}:=rfl;cases hh:x.f.hd with
 | top=>exact absurd hh hx
 | ite n=>
  rw[hh]at O;cbv;rw?;refine X1 (su.of O) (show cM (je (.ite n)) 0=Sm (.str "if") from ke) ?_;cbv;refine#[∅,λt1 ag=>?_];∎;rename_i H2 s2 e2;refine yI2 _ _ #[su.of (s2 _ _ O),su.of e2,by simp[je],aJ (by simp[je]),λz=>by simp at z,λ_ t2 al=>?_];∎;rename_i H3 s3 W;have W:H3 t2=Sm (.tup [.str "if",.int n,.ref x.a1,.ref x.a2]):=W;have U:=s2.trans s3;refine yI7 Y t2 H0 gs g _ (gk x.f) #[rfl,I2.alloc U,?_,Z,ab,(),λH' I3=>q H' _ I3];unfold gk;rw[hh];exact yI2 x.a1 x.a2 #[W,pa.mono U,pb.mono U]
 | lend u v=>
  rw[hh]at O;cbv;rw?;refine X1 (su.of O) (show cM (je (.lend u v)) 0=Sm (.str "lend") from ke) ?_;cbv;rw[KQ ⋯];refine#[∅,λt1 ag=>?_];∎;rename_i H2 s2 e2;refine yI2 _ _ #[su.of (s2 _ _ O),su.of e2,by simp[je],aJ (by simp[je]),λz=>by simp at z,λ_ t2 al=>?_];∎;rename_i H3 s3 W;have W:H3 t2=Sm (.tup [.str "lend",.str u,.str v,.ref x.a1]):=W;have U:=s2.trans s3;refine yI7 Y t2 H0 gs g _ (gk x.f) #[rfl,I2.alloc U,?_,Z,ab,(),λH' I3=>q H' _ I3];unfold gk;rw[hh];exact#[x.a1,W,pa.mono U]
 | whl n=>
  rw[hh]at O;cbv;rw?;refine X1 (su.of O) (show cM (je (.whl n)) 0=Sm (.str "while") from ke) ?_;cbv;rw[KQ ⋯];refine#[∅,λt1 ag=>?_];∎;rename_i H2 s2 e2;refine yI2 _ _ #[su.of (s2 _ _ O),su.of e2,by simp[je],aJ (by simp[je]),λz=>by simp at z,λ_ t2 al=>?_];∎;rename_i H3 s3 W;have W:H3 t2=Sm (.tup [.str "while",.int n,.ref x.a1]):=W;have U:=s2.trans s3;refine yI7 Y t2 H0 gs g _ (gk x.f) #[rfl,I2.alloc U,?_,Z,ab,(),λH' I3=>q H' _ I3];unfold gk;rw[hh];exact#[x.a1,W,pa.mono U]
theorem EI{x:Str}(h:∀c∈x.cps.toList,c∈Gg.cps.toList):32∉x.cps.toList:=λz=>absurd (h 32 z) ∅
def dQ(x:Str):Prop:=x.length<=20/\dE x
def nZ:Sp:=λvs H Q _=>∃(c:Int) (n:Nat),vs=[.int c,.int (n:Int)]/\n<=10/\∀(L:so) (ss:LI) (H':Hp),sg H H'->H L=Nn->H' L=Sm (.lst (ss.map V.str))->ss.length=n->(∀x∈ss,dQ x)->Q (.ref L) H'
theorem BB(D:xn K mg "_law_words" aZ) (J:mg "range" = Nn) (ac:mg "int" = Nn):aH P w K mg base 1 "_law_words" qAh nZ:=by
 refine D.cal (k:=0) BR (λf bg A outer s0 H vs Q E hr h=>?_);revert h;refine yF2 λc n=>yB3 ?_;rintro rfl hn q;refine⟨_,(ah (av 2 BR.nd ay (hx:=MY))
   (ah (av 3 BR.nd (ar aF af (ar b5 (pv 0) af)))
   (ah (av 4 BR.nd (ar b5 (ar eU (pv 0) af) (pv 3)) (hx:=MJ))
   (ah (av 5 BR.nd (ar b5 (ar eU (pv 0) af) (ar ng af af)))
   (ah (av 6 BR.nd (aI ae) (hx:=NP))
   (ah (bT xm rfl (fA CS J (aa (pv 3) ae)) (aV 7 BR.nd (hx:=JQ)) (ah (bo (bB K xl mB mF bw (pv 6 (hv:=Lz)) (aa (ar b5 (pv 5) af) ae)))
   (aj (av 5 BR.nd (ar eU (pv 5) af)))))
   (ah (av 8 BR.nd (aI ae))
   (ah (bT xm rfl (fA CS J (aa (pv 1) ae)) (aV 7 BR.nd (hx:=JQ)) (aj (bo (bB K xl mB mF bw (pv 8) (aa (bB K zbv F.slot_str_join F.type_str_join (si K) ay (aa (eV (C5.to (fsc:=(rd aZ)) (N:=qAD) (N0:=qAD) (T:=["_law_j"])) rfl (fA CS J (aa (pv 3) ae)) (λ_ _ _ _=>(aV 9 (show (["_law_cell","_law_many","_law_letters","_law_size","_law_at","_law_rest","_law_base","_law_k","_law_words_here","_law_j"]:LI).Nodup from ⋯))) (cN (show (qAD:LI).length<=9 from ∅)) (λ_ _ _ _=>eJ) (λ_ _ _ _=>(am (au K) (pv 2 (hv:=(cJ (rd aZ) ⋯))) (ar b5 (ar aF (am (au K) (pv 6 (hv:=(cJ (rd aZ) ⋯))) (pv 9)) (ar fE (pv 7 (hv:=(cJ (rd aZ) ⋯))) (fS kG ac rR (aa (iK aM (pv 9) (pv 4 (hv:=(cJ (rd aZ) ⋯))) (aB _)) ae)))) af)))) ae)) ae)))))
   (aj (aA (pv 8))))))))))),?_⟩
 cbv;rw?;refine#[∅,?_];have a4:∃z:Nat,1+c%8=(z:Int)/\1<=z/\z<=8:=#[(1+c%8).toNat,(),(),()];revert a4;refine yF1 λsz=>yB3 λa7 bp bh=>?_;rw[a7];rw?;refine#[#[∅,∅],(),?_];generalize c/8%(sz:Int)=at';rw?;refine#[#[∅,∅],#[∅,∅,∅],∅,?_];generalize hrest:c/64%26^Int.toNat 8=Bv;rw?;refine#[∅,λp hp=>?_];∎;rename_i H1 s1 e1;have e1:H1 p=Sm (.lst (([]:LS).map V.int)):=e1;rw?;refine#[(),(),?_];rw[mi];refine gu (λi σ H'=>∃(ns:LS) (r0:Int) (Y:LR),σ=[Sm (.int c),Sm (.int (n:Int)),Sm (.str "abcdefghijklmnopqrstuvwxyz"),Sm (.int (sz:Int)),Sm (.int at'),Sm (.int r0),Sm (.ref p),Y,Nn]/\sg H H'/\H' p=Sm (.lst (ns.map V.int))/\ns.length=i)
  (yI3 ([]) Bv Nn #[rfl,s1,e1,rfl]) ?_ ?_
 .intro i σ H' hi;refine yF3 λns r0 Y=>yB4 ?_;rintro rfl sm hl as;cbv;refine#[#[_,ud.of hl],∅,?_];cbv;refine#[_,hl,by rw[ze];exact cI (),?_];rw?;exact#[#[∅,∅],yI3 (ns++[r0%26]) _ _ #[rfl,sm.upd hp _,by rw[ai,yH];rfl,by simp[as]]]
 intro σ H2;refine yF3 λns r0 Y=>yB4 ?_;rintro rfl s2 e2 as;rw?;refine#[∅,λL hL=>?_];have s3:=ak hL (.lst []);have e3:upd H2 L (.lst []) L=Sm (.lst (([]:LI).map V.str)):=ai;have a3:H L=Nn:=s2.free hL;have a5:p≠L:=a_ e2 hL;have ag:=s3 _ _ e2;generalize upd H2 L (.lst [])=H3 at s3 e3 ag |-;rw?;refine#[(),(),?_]
 rw[mi];refine gu (λi σ H'=>∃(ss:LI) (Y:LR),σ=[Sm (.int c),Sm (.int (n:Int)),Sm (.str "abcdefghijklmnopqrstuvwxyz"),Sm (.int (sz:Int)),Sm (.int at'),Sm (.int r0),Sm (.ref p),Y,Sm (.ref L)]/\sg H H'/\H' p=Sm (.lst (ns.map V.int))/\H' L=Sm (.lst (ss.map V.str))/\ss.length=i/\∀x∈ss,dQ x)
  (yI2 ([]) _ #[rfl,s2.trans s3,ag,e3,rfl,'~']) ?_ ?_
 .intro i σ H' hi;refine yF2 λss Y=>yB6 ?_;rintro rfl sm hl S ad Z;cbv;refine#[#[_,ud.of S],(),(),λC hC=>?_];rw[mi];refine l_ (λj ys H2=>sg H' H2/\H2 C=Sm (.lst ys)/\∃ds:LJ,ys=ds.map (λd=>V.str #[#v[d]])/\ds.length=j/\∀d∈ds,d∈Gg.cps.toList) #[ak hC _,ai,[],rfl,rfl,'~'] ?_ ?_
  .intro j ys H4 hj;refine yB3 λO U=>yF1 λds=>yB3 ?_;rintro rfl ab W;cbv;have be:j<ns.length:=()
   refine X2 (ud.of (O _ _ hl)) (show cM (ns.map V.int) (0+(j:Int))=Sm (.int ns[j]) by rw[Int.zero_add];exact ao (by rw[yf,zg be];rfl)) ?_;cbv;refine yE1 (AS (ns[j]+(0+(i:Int))*if 0+(j:Int)=at' then 1 else 0)) λch=>yB3 λz1 z2 z3=>?_;refine#[.inl #[(),()],∅,ch,z1,z2,?_];refine iD hj (by rw[ze];lia) (aJ ()) U #[O.upd hC _,ai,ds++[ch],by rw[yH];rfl,by simp[ab],λd hd=>?_];rcases K8.mp hd with hd | hd
   .exact W d hd
   .rw[KU.mp hd];exact z3
  .intro ys H4;refine yB3 λO U=>yF1 λds=>yB3 ?_;rintro rfl ab W;cbv;have a8:ds.map (λc=>V.str #[#v[c]])=(ds.map λc=>(#[#v[c]] : Str)).map V.str:=by rw[oq];rfl
   rw[a8]at U;have bc:(Str.ofString "").length=0:=∅;refine#[_,ud.of U,?_,?_]
   .rw[bc];have:=jN 1 (ds.map λc=>(#[#v[c]] : Str)) (λs hs=>by let#[c,_,rfl]:=K3.mp hs;exact zu _);rw[ze]at this |-
    lia
   have a9:(Mj "" (ds.map λc=>(#[#v[c]] : Str))).length=sz:=by rw[CV];exact ab
   have al:∀c∈(Mj "" (ds.map λc=>(#[#v[c]] : Str))).cps.toList,c∈Gg.cps.toList:=by rw[uH];exact W
   generalize Mj "" (ds.map λc=>(#[#v[c]] : Str))=bs at a9 al |-
   have a6:=O _ _ S;cbv;refine#[_,a6,by rw[ze];exact cI (),yI2 (ss++[bs]) _ #[rfl,(sm.trans O).upd a3 _,?_,by rw[ai,yH];rfl,by simp[ad],λx hx=>?_]]
   .rw[aw a5];exact O _ _ hl
   .rcases K8.mp hx with hx | hx
    .exact Z x hx
    .rw[KU.mp hx];exact#[(),EI al]
 .intro σ H4;refine yF2 λss Y=>yB6 ?_;rintro rfl sm hl S ad Z;rw?;exact q L ss H4 sm a3 S ad Z
def BO:uR->Prop
 | .top=>False
 | .lend x y=>dQ x/\dQ y
 | .ite n=>n.natAbs<10^61
 | .whl n=>n.natAbs<10^61
noncomputable def jk(k:Nat)(x:C6):Nat:=aq (10-k) x.f.a+aq (10-k) x.f.b+(if k=0 then 0 else 3)
noncomputable def jr:Nat->List C6->Nat
 | _,[]=>0
 | k,x::r=>jk k x+jr (k+1) r
theorem gX(x:C6):∀(gs:List C6) (k:Nat),jr k (gs++[x])=jr k gs+jk (k+gs.length) x
 | [],k=>by simp[jr]
 | g::gs,k=>by
  show jk k g+jr (k+1) (gs++[x])=jk k g+jr (k+1) gs+_;rw[gX x gs (k+1),ye,show k+1+gs.length=k+(gs.length+1) from ()];lia
structure rz (k:Nat) (f:tK):Prop where
 top:k=0->f.hd = .top
 hd:0<k->BO f.hd
 a:cj (10-k) f.a/\dC (10-k) f.a
 b:cj (10-k) f.b/\dC (10-k) f.b
 sd:(∃n,f.hd = .ite n)\/(f.s=false/\f.b=[])
structure G1 (fs:List C6) (m:Nat):Prop where
 ok:∀k x,fs[k]?=Sm x->rz k x.f
 cnt:jr 0 fs<=m
 len:fs.length<=5
 pos:1<=fs.length
theorem eC{gs:List α}{x y:α}{k:Nat}(h:(gs++[x])[k]?=Sm y):(k<gs.length/\gs[k]?=Sm y)\/(k=gs.length/\y=x):=by
 by_cases hk:k<gs.length
 .rw[xR hk]at h;exact .inl #[hk,h]
 .rw[uC ()]at h;have F:k-gs.length=0:=by have:=(KO.mp h).1;simp at this;lia
  rw[F]at h;cases h;exact .inr #[(),rfl]
theorem vJ(d:Nat)(T U:List vr):aq (d+1) (T++U)=aq (d+1) T+aq (d+1) U:=by
 show ((T++U).map _).sum=_;rw[yH,List.sum_append];rfl
theorem zV{U:List vr}(h:dC (d+1) T)(h':dC (d+1) U):dC (d+1) (T++U):=λs F=>(K8.mp F).elim (h s) (h' s)
theorem G1.put{c:Nat}{st:vr}(I:G1 (gs++[x]) m)(h1:eh (cj (9-gs.length)) st)(h2:kg (dC (9-gs.length)) st)(h3:bz (aq (9-gs.length)) st<=c):G1 (gs++[{x with f:=bC x.f st}]) (m+c):=by
 have hl:gs.length<=4:=by have:=I.len;simp at this;lia
 have F:10-gs.length=9-gs.length+1:=()
 have hx:=I.ok gs.length x (c8 gs x);let#[a1,a2]:=hx.a;let#[S,J]:=hx.b;have O:=I.cnt;rw[gX,ms]at O;refine#[λk y U=>?_,?_,by have:=I.len;simpa using this,'~']
 .rcases eC U with ⟨hk,U⟩ | ⟨rfl,rfl⟩
  .exact I.ok k y (by rw[xR hk];exact U)
  .unfold bC;rw[F]at a1 a2 S J;have n1:cj (9-gs.length+1) (x.f.a++[st]):=sI a1 h1;have n2:dC (9-gs.length+1) (x.f.a++[st]):=zV a2 λu W=>by rw[KU.mp W];exact h2
   have n3:cj (9-gs.length+1) (x.f.b++[st]):=sI S h1;have Y:dC (9-gs.length+1) (x.f.b++[st]):=zV J λu W=>by rw[KU.mp W];exact h2
   split
   .rename_i hs;refine#[hx.top,hx.hd,by rw[F];exact#[a1,a2],by rw[F];exact#[n3,Y],?_];rcases hx.sd with z | ⟨z,_⟩
    .exact .inl z
    .rw[hs]at z;cases z
   .refine#[hx.top,hx.hd,by rw[F];exact#[n1,n2],by rw[F];exact#[S,J],?_];rcases hx.sd with z | ⟨z,Z⟩
    .exact .inl z
    .exact .inr #[z,Z]
 .rw[gX,ms];unfold jk at O |-
  unfold bC;rw[F]at O |-
  have ab:aq (9-gs.length+1) [st]<=c:=by show bz (aq (9-gs.length)) st+0<=c;lia
  split<;>simp only[vJ]<;>lia
theorem G1.drop(I:G1 (gs++[x]) m)(hg:1<=gs.length):G1 gs (m-(aq (10-gs.length) x.f.a+aq (10-gs.length) x.f.b+3))/\aq (10-gs.length) x.f.a+aq (10-gs.length) x.f.b+3<=m:=by
 have F:=I.cnt;rw[gX,ms]at F;unfold jk at F;rw[KQ ()]at F;exact#[#[λk y J=>I.ok k y (by rw[xR (KO.mp J).1];exact J),(),by have:=I.len;simp at this;lia,hg],()]
theorem Fe{k:Nat}{f:tK}(O:0<k)(J:k<=5)(h:rz k f):eh (cj (10-k)) (gk f)/\kg (dC (10-k)) (gk f)/\bz (aq (10-k)) (gk f)<=aq (10-k) f.a+aq (10-k) f.b+3:=by
 have hh:=h.hd O;have F:∀n:Int,n.natAbs<10^61->n.natAbs.log2<1920:=λn S=>by
  by_cases z:n.natAbs=0
  .rw[z];decide
  .have:=(Nat.log2_lt z (k:=1920)).mpr (Nat.lt_trans S ∅);exact this
 unfold gk;cases hhd:f.hd with
 | top=>rw[hhd]at hh;exact hh.elim
 | lend x y=>
  rw[hhd]at hh;exact#[#[hh.1.2,hh.2.2,h.a.1],#[hh.1.1,hh.2.1,h.a.2],by show aq _ f.a+2<=_;lia]
 | ite n=>
  rw[hhd]at hh;exact#[#[hh,h.a.1,h.b.1],#[F n hh,h.a.2,h.b.2],zu _]
 | whl n=>
  rw[hhd]at hh;exact#[#[hh,h.a.1],#[F n hh,h.a.2],by show aq _ f.a+2<=_;lia]
theorem G1.close{g:C6}(I:G1 (gs++[g]++[x]) m):G1 (gs++[{g with f:=bC g.f (gk x.f)}]) m:=by
 have F:(gs++[g]).length=gs.length+1:='~';have J:=I.len;rw[jn,F]at J;simp at J;have hx:=I.ok (gs++[g]).length x (c8 _ x);rw[F]at hx;let#[S,W,U]:=Fe () () hx;let#[O,hle]:=I.drop (by rw[F];lia);rw[F]at O hle;rw[show 10-(gs.length+1)=9-gs.length from ()]at S W U O hle;have:=O.put S W U
 rwa [Nat.sub_add_cancel hle]at this
theorem G1.side{n:Int}(I:G1 (gs++[x]) m)(h:x.f.hd = .ite n):G1 (gs++[{x with f:={x.f with s:=true}}]) m:=by
 have hx:=I.ok gs.length x (c8 gs x);refine#[λk y F=>?_,?_,by have:=I.len;simpa using this,'~']
 .rcases eC F with ⟨O,F⟩ | ⟨rfl,rfl⟩
  .exact I.ok k y (by rw[xR O];exact F)
  .exact#[hx.top,hx.hd,hx.a,hx.b,.inl #[n,h]]
 .have J:=I.cnt;rw[gX]at J |-
  exact J
theorem G1.open{fs:List C6}(I:G1 fs m)(hl:fs.length<=4){h:uR}(hh:BO h)(fa a1 a2:so):G1 (fs++[#[fa,a1,a2,#[h,[],[],false]]]) (m+3):=by
 have S:=I.pos;have F:10-fs.length=9-fs.length+1:=()
 have nl:cj (10-fs.length) []/\dC (10-fs.length) []:=by rw[F];exact#[mf _,λs O=>by cases O]
 refine#[λk y J=>?_,?_,by simp;lia,'~']
 .rcases eC J with ⟨U,J⟩ | ⟨rfl,rfl⟩
  .exact I.ok k y J
  .exact#[λz=>(),λ_=>hh,nl,nl,.inr #[rfl,rfl]]
 .rw[gX,ms];unfold jk;rw[KQ (),F];have:=I.cnt;show jr 0 fs+(0+0+3)<=m+3;lia
theorem G1.small{fs:List C6}{m k:Nat}{x:C6}(I:G1 fs m)(e:fs[k]?=Sm x):x.f.a.length<=m/\x.f.b.length<=m:=by
 have F:=(KO.mp e).1;have hl:=I.len;have w:∀(fs:List C6) (j k:Nat) (x:C6),fs[k]?=Sm x->jk (j+k) x<=jr j fs:=λfs=>by
  induction fs with
  | nil=>intro j k x e;simp at e
  | cons y r ih=>
   intro j k x e;cases k with
   | zero=>cases e;show jk j _<=jk j _+_;lia
   | succ k=>
    have:=ih (j+1) k x (by simpa using e);show _<=jk j y+jr (j+1) r;rw[show j+(k+1)=j+1+k from ()];lia
 have h:=w fs 0 k x e;have J:=I.cnt;rw[ms]at h;unfold jk at h;have ln:∀(d:Nat) (T:List vr),T.length<=aq (d+1) T:=λd T=>by
  show T.length<=(T.map (bz (aq d))).sum
  induction T with
  | nil=>exact zu _
  | cons s T ih=>
   rw[yX,iS,ye];have:1<=bz (aq d) s:=by cases s<;>simp[bz]
   lia
 rw[show 10-k=9-k+1 from ()]at h;have:=ln (9-k) x.f.a;have:=ln (9-k) x.f.b;lia
noncomputable def pM(p l o:Nat)(f:List vr->Nat):vr->Nat
 | .plain _=>p
 | .lend _ _ b=>f b+l
 | .ite _ b c=>f b+f c+o
 | .whl _ b=>f b+o
noncomputable def dW(p l o:Nat):Nat->List vr->Nat
 | 0,_=>0
 | d+1,T=>(T.map (pM p l o (dW p l o d))).sum
noncomputable def ni(l o:Nat):uR->Nat
 | .top=>0
 | .lend _ _=>l
 | .ite _=>o
 | .whl _=>o
noncomputable def jA(p l o k:Nat)(x:C6):Nat:=dW p l o (10-k) x.f.a+dW p l o (10-k) x.f.b+ni l o x.f.hd
noncomputable def iu(p l o:Nat):Nat->List C6->Nat
 | _,[]=>0
 | k,x::r=>jA p l o k x+iu p l o (k+1) r
section
variable{p l o:Nat}
theorem dL(x:C6):∀(gs:List C6) (k:Nat),iu p l o k (gs++[x])=iu p l o k gs+jA p l o (k+gs.length) x
 | [],k=>by simp[iu]
 | g::gs,k=>by
  show jA p l o k g+iu p l o (k+1) (gs++[x])=jA p l o k g+iu p l o (k+1) gs+_;rw[dL x gs (k+1),ye,show k+1+gs.length=k+(gs.length+1) from ()];lia
theorem vW(d:Nat)(T U:List vr):dW p l o (d+1) (T++U)=dW p l o (d+1) T+dW p l o (d+1) U:=by
 show ((T++U).map _).sum=_;rw[yH,List.sum_append];rfl
theorem mw{st:vr}(hl:gs.length<=9):iu p l o 0 (gs++[{x with f:=bC x.f st}])=iu p l o 0 (gs++[x])+pM p l o (dW p l o (9-gs.length)) st:=by
 rw[dL,dL,ms];have F:dW p l o (9-gs.length+1) [st]=pM p l o (dW p l o (9-gs.length)) st:=by show _+0=_;lia
 unfold jA bC;rw[show 10-gs.length=9-gs.length+1 from ()];split<;>simp only[vW,F]<;>lia
theorem J8{d k:Nat}{f:tK}(h:rz k f)(J:0<k)(hd:0<d):pM p l o (dW p l o d) (gk f)=dW p l o d f.a+dW p l o d f.b+ni l o f.hd:=by
 obtain⟨d,rfl⟩ : ∃e,d=e+1:=⟨d-1,()⟩
 have F:(∀n,f.hd ≠ .ite n)->dW p l o (d+1) f.b=0:=λz=>by
  rcases h.sd with ⟨n,y⟩ | ⟨_,y⟩
  .exact absurd y (z n)
  .rw[y];rfl
 unfold gk;cases hh:f.hd with
 | top=>have:=h.hd J;rw[hh]at this;exact this.elim
 | lend x y=>rw[F (by rw[hh];simp)];rfl
 | ite n=>rfl
 | whl n=>rw[F (by rw[hh];simp)];rfl
theorem nh{g:C6}(hl:gs.length<=8)(h:rz (gs.length+1) x.f):iu p l o 0 (gs++[{g with f:=bC g.f (gk x.f)}])=iu p l o 0 (gs++[g]++[x]):=by
 rw[mw (),J8 h () (),dL x,ms,jn];show _=_+jA p l o (gs.length+1) x;unfold jA;rw[show 10-(gs.length+1)=9-gs.length from ()]
end
structure PX (nm:LI) (fs:List C6) (n l:Nat):Prop where
 nk:∀k x,fs[k]?=Sm x->fQ (· ∈ nm) (3-k) x.f.a/\fQ (· ∈ nm) (3-k) x.f.b/\∀y z,x.f.hd = .lend y z->y∈nm/\z∈nm
 nd:iu 1 1 1 0 fs<=n
 ld:iu 0 1 0 0 fs<=l
 len:fs.length<=3
section
variable{nm:LI}{fs gs:List C6}{g x:C6}{n l:Nat}
theorem PX.mono{n' F:Nat}(h:PX nm fs n l)(h1:n<=n')(h2:l<=F):PX nm fs n' F:=#[h.nk,xH h.nd h1,xH h.ld h2,h.len]
theorem lz{N:Str->Prop}(h:fQ N (d+1) T)(J:lT (fQ N d) N s):fQ N (d+1) (T++[s]):=λu F=>(K8.mp F).elim (h u) (λz=>by rw[KU.mp z];exact J)
theorem PX.put{st:vr}{c e:Nat}(h:PX nm (gs++[x]) n l)(h1:lT (fQ (· ∈ nm) (2-gs.length)) (· ∈ nm) st)(h2:pM 1 1 1 (dW 1 1 1 (9-gs.length)) st<=c)(O:pM 0 1 0 (dW 0 1 0 (9-gs.length)) st<=e):PX nm (gs++[{x with f:=bC x.f st}]) (n+c) (l+e):=by
 have hl:=h.len;simp at hl;have S:=h.nd;have U:=h.ld;refine#[λk y F=>?_,by rw[mw ()];lia,by rw[mw ()];lia,by simpa using hl];rcases eC F with ⟨J,F⟩ | ⟨rfl,rfl⟩
 .exact h.nk k y (by rw[xR J];exact F)
 .let#[a,b,c]:=h.nk gs.length x (c8 gs x);rw[show 3-gs.length=2-gs.length+1 from ()]at a b |-
  unfold bC;split
  .exact#[a,lz b h1,c]
  .exact#[lz a h1,b,c]
theorem PX.close(h:PX nm (gs++[g]++[x]) n l)(hf:rz (gs.length+1) x.f):PX nm (gs++[{g with f:=bC g.f (gk x.f)}]) n l:=by
 have hl:=h.len;simp at hl;have Z:=h.nd;have g2:=h.ld;have J:=nh (p:=1) (l:=1) (o:=1) (g:=g) () hf;have O:=nh (p:=0) (l:=1) (o:=0) (g:=g) () hf;refine#[λk y S=>?_,by rw[J];exact Z,by rw[O];exact g2,by simp;lia];rcases eC S with ⟨hk,S⟩ | ⟨rfl,rfl⟩
 .exact h.nk k y (by rw[xR (by simp;lia),xR hk];exact S)
 .let#[a,b,c]:=h.nk gs.length g (by rw[uP,uC (zu _),JL];rfl);let#[F,W,Y]:=h.nk (gs.length+1) x (by have:=c8 (gs++[g]) x;simpa using this);rw[show 3-(gs.length+1)=2-gs.length from ()]at F W;rw[show 3-gs.length=2-gs.length+1 from ()]at a b |-
  have U:lT (fQ (· ∈ nm) (2-gs.length)) (· ∈ nm) (gk x.f):=by
   unfold gk;cases hh:x.f.hd with
   | top=>have:=hf.hd ();rw[hh]at this;exact this.elim
   | lend y z=>exact#[(Y y z hh).1,(Y y z hh).2,F]
   | ite n=>exact#[F,W]
   | whl n=>exact F
  unfold bC;split
  .exact#[a,lz b U,c]
  .exact#[lz a U,b,c]
theorem PX.side(h:PX nm (gs++[x]) n l):PX nm (gs++[{x with f:={x.f with s:=true}}]) n l:=by
 have J:=h.nd;have O:=h.ld;rw[dL]at J O;refine#[λk y F=>?_,by rw[dL];exact J,by rw[dL];exact O,by have:=h.len;simpa using this];rcases eC F with ⟨S,F⟩ | ⟨rfl,rfl⟩
 .exact h.nk k y (by rw[xR S];exact F)
 .exact h.nk gs.length x (c8 gs x)
theorem PX.open(h:PX nm fs n l)(hl:fs.length<=2){hd:uR}(hh:∀y z,hd = .lend y z->y∈nm/\z∈nm)(fa a1 a2:so):PX nm (fs++[#[fa,a1,a2,#[hd,[],[],false]]]) (n+ni 1 1 hd) (l+ni 1 0 hd):=by
 have S:=h.nd;have W:=h.ld;have O:∀p q o,jA p q o (0+fs.length) #[fa,a1,a2,#[hd,[],[],false]]=ni q o hd:=λp q o=>by
  unfold jA;rw[show 10-(0+fs.length)=9-fs.length+1 from ()];exact ms _
 refine#[λk y J=>?_,by rw[dL,O];lia,by rw[dL,O];lia,by simp;lia];rcases eC J with ⟨U,J⟩ | ⟨rfl,rfl⟩
 .exact h.nk k y J
 .rw[show 3-fs.length=2-fs.length+1 from ()];exact#[λs F=>(by cases F),λs F=>(by cases F),hh]
end
noncomputable def pA(nm:LI)(z:Int):Str:=nm.getD (z%(nm.length:Int)).toNat ""
theorem rD(h:1<=nm.length)(z:Int):pA nm z∈nm/\cM (nm.map V.str) (z%(nm.length:Int))=Sm (.str (pA nm z)):=by
 have F:=zaT z (show (nm.length:Int)≠0 from ());have h1:=zaU z (show (0:Int)<nm.length from ());have hl:(z%(nm.length:Int)).toNat<nm.length:=()
 have e:pA nm z=nm[(z%(nm.length:Int)).toNat]:=by unfold pA;rw[xV,zg hl];rfl
 refine#[by rw[e];exact xF hl,?_];have:=ao (xs:=nm.map V.str) (j:=(z%(nm.length:Int)).toNat) (v:=.str (pA nm z)) (by rw[yf,zg hl,e];rfl)
 rwa [show (((z%(nm.length:Int)).toNat:Nat):Int)=z%(nm.length:Int) from ()]at this
noncomputable def xW(c:Int):Int:=c*40692%(2*10^60-1)-10^60+1
theorem Fn(c:Int):(xW c).natAbs<10^61:=by
 unfold xW;have F:=zaT (c*40692) (show (2*10^60-1:Int)≠0 from ∅);have h1:=zaU (c*40692) (show (0:Int)<2*10^60-1 from ∅);lia
noncomputable def yP(x y wd:Str)(b:Int):List LM:=[[.str "open",.str x],[.str "do",.str wd,.str x],[.str "do",.str wd,.str x],[.str "do",.str wd,.str x],[.str "copy",.str x,.str y],[.str "drop",.str x],[.str "tie",.str x,.str y],[.str "lend",.str x,.str y],[.str "if",.int b],[.str "while",.int b],[.str "while",.int b],[.str "do",.str wd,.str x],[.str "tie",.str x,.str y],[.str "open",.str x],[.str "other"],[.str "close"]]
def Eo(nm ws:LI):Prop:=(ws.headD "" = "do" -> ws.length=3)/\∀n∈di ws,n∈nm
inductive iy (nm:LI):LM->Prop
 | plain (ws:LI):fm ws->ig ws->(∀x∈ws,dE x)->Eo nm ws->iy nm (ws.map V.str)
 | lend (x y:Str):dQ x->dQ y->x∈nm->y∈nm->iy nm [.str "lend",.str x,.str y]
 | ite (n:Int):n.natAbs<10^61->iy nm [.str "if",.int n]
 | whl (n:Int):n.natAbs<10^61->iy nm [.str "while",.int n]
 | other:iy nm [.str "other"]
 | close:iy nm [.str "close"]
theorem nP{h x:Str}(hh:h∈dw)(hl:h.length<=20)(hx:x.length<=20):ig [h,x]:=⟨'~','~',hh,λz hz=>by
 simp only[yk,yT,or_false]at hz;rcases hz with rfl | rfl<;>assumption⟩
theorem lF{h x:Str}(hh:h∈dw)(hl:h.length<=20)(hx:x.length<=20)(F:y.length<=20):ig [h,x,y]:=⟨'~','~',hh,λz hz=>by
 simp only[yk,yT,or_false]at hz;rcases hz with rfl | rfl | rfl<;>assumption⟩
theorem y_{x wd:Str}{b:Int}(Z:x∈nm)(yn:y∈nm)(hx:dQ x)(S:dQ y)(hw:dQ wd)(hb:b.natAbs<10^61):∀r∈yP x y wd b,iy nm r:=by
 have kk:∀ {u:Str},u∈(qAs:LI)->dE u:=λ{u} hu=>by
  simp only[yk,yT,or_false]at hu;rcases hu with rfl | rfl | rfl | rfl | rfl<;>(unfold dE;decide)
 have f2:∀ {a c:Str},dE a->dE c->∀z∈[a,c],dE z:=λha hc z hz=>by
  simp only[yk,yT,or_false]at hz;rcases hz with rfl | rfl<;>assumption
 have W:∀ {a c e:Str},dE a->dE c->dE e->∀z∈[a,c,e],dE z:=λha hc he z hz=>by
  simp only[yk,yT,or_false]at hz;rcases hz with rfl | rfl | rfl<;>assumption
 have J:∀ {g:Str},¬ g = "do" -> Eo nm [g,x]:=λhg=>#[λz=>absurd z hg,λn F=>by unfold di at F;rw[KQ (show ¬ List.headD [_,x] "" = "do" from hg)]at F;rw[KU.mp F];exact Z];have U:∀ {g:Str},¬ g = "do" -> Eo nm [g,x,y]:=λhg=>⟨λz=>absurd z hg,λn F=>by
  unfold di at F;rw[KQ (show ¬ List.headD [_,x,y] "" = "do" from hg)]at F;have O:n∈[x,y]:=F;simp only[yk,yT,or_false]at O;rcases O with rfl | rfl<;>assumption⟩
 have op:iy nm [.str "open",.str x]:=.plain ["open",x] (.op x) (nP ⋯ ∅ hx.1) (f2 (kk ⋯) hx.2) (J ⋯);have dr:iy nm [.str "drop",.str x]:=.plain ["drop",x] (.dr x) (nP ⋯ ∅ hx.1) (f2 (kk ⋯) hx.2) (J ⋯);have dd:iy nm [.str "do",.str wd,.str x]:=.plain ["do",wd,x] (.dd wd x) (lF ⋯ ∅ hw.1 hx.1) (W (kk ⋯) hw.2 hx.2) #[λ_=>rfl,λn F=>by unfold di at F;rw[KZ (show List.headD [("do" : Str),wd,x] "" = "do" from rfl)]at F;rw[KU.mp F];exact Z];have cp:iy nm [.str "copy",.str x,.str y]:=.plain ["copy",x,y] (.cp x y) (lF ⋯ ∅ hx.1 S.1) (W (kk ⋯) hx.2 S.2) (U ⋯);have ti:iy nm [.str "tie",.str x,.str y]:=.plain ["tie",x,y] (.ti x y) (lF ⋯ ∅ hx.1 S.1) (W (kk ⋯) hx.2 S.2) (U ⋯);have le:iy nm [.str "lend",.str x,.str y]:=.lend x y hx S Z yn;have it:iy nm [.str "if",.int b]:=.ite b hb;have wh:iy nm [.str "while",.int b]:=.whl b hb;intro r Y;unfold yP at Y;simp only[yk,yT,or_false]at Y;rcases Y with rfl | rfl | rfl | rfl | rfl | rfl | rfl | rfl | rfl | rfl | rfl | rfl | rfl | rfl | rfl | rfl
 .exact op
 .exact dd
 .exact dd
 .exact dd
 .exact cp
 .exact dr
 .exact ti
 .exact le
 .exact it
 .exact wh
 .exact wh
 .exact dd
 .exact ti
 .exact op
 .exact .other
 .exact .close
def zB:Sp:=λvs H Q _=>∃(c:Int) (np wp:so) (nm ws:LI),vs=[.int c,.ref np,.ref wp]/\H np=Sm (.lst (nm.map V.str))/\H wp=Sm (.lst (ws.map V.str))/\1<=nm.length/\nm.length<=20/\1<=ws.length/\ws.length<=20/\(∀x∈nm,dQ x)/\(∀x∈ws,dQ x)/\
 ∀(t:so) (H':Hp) (v:LM),sg H H'->H' t=Sm (.tup v)->iy nm v->Q (.ref t) H'
theorem FM(D:xn K mg "_law_step" bQ) (F:wAK mg):aH P w K mg base 1 "_law_step" qAY zB:=by
 refine D.cal (k:=0) Co (λf d3 A outer s0 H vs Q E hr h=>?_);revert h;refine yF5 λc np wp nm ws=>yB10 ?_;rintro rfl ag bc n1 n2 w1 w2 a4 b0 q;refine⟨_,(ah (av 3 Co.nd (am (au K) (pv 1) (ar b5 (ar b5 (ar fE (pv 0) af) af) (br (aU K) F bG (aa (pv 1) ae)))))
   (ah (av 4 Co.nd (am (au K) (pv 1) (ar b5 (ar b5 (ar fE (pv 0) af) af) (br (aU K) F bG (aa (pv 1) ae)))))
   (ah (av 5 Co.nd (am (au K) (pv 2) (ar b5 (ar b5 (ar fE (pv 0) af) af) (br (aU K) F bG (aa (pv 2) ae)))))
   (ah (av 6 Co.nd (ar aF (ar fR (ar b5 (ar fE (pv 0) af) (ar fR (ar fE af (ar ng af af)) af)) (ar ng af af)) af))
   (ah (av 7 Co.nd (aI (aa (aN (aa ay (aa (pv 3) ae))) (aa (aN (aa ay (aa (pv 5) (aa (pv 3) ae)))) (aa (aN (aa ay (aa (pv 5) (aa (pv 3) ae)))) (aa (aN (aa ay (aa (pv 5) (aa (pv 3) ae)))) (aa (aN (aa ay (aa (pv 3) (aa (pv 4) ae)))) (aa (aN (aa ay (aa (pv 3) ae))) ae))))))))
   (ah (av 7 Co.nd (ar aF (pv 7) (aI (aa (aN (aa ay (aa (pv 3) (aa (pv 4) ae)))) (aa (aN (aa ay (aa (pv 3) (aa (pv 4) ae)))) (aa (aN (aa ay (aa (pv 6) ae))) (aa (aN (aa ay (aa (pv 6) ae))) (aa (aN (aa ay (aa (pv 6) ae))) ae))))))))
   (ah (av 7 Co.nd (ar aF (pv 7) (aI (aa (aN (aa ay (aa (pv 5) (aa (pv 3) ae)))) (aa (aN (aa ay (aa (pv 3) (aa (pv 4) ae)))) (aa (aN (aa ay (aa (pv 3) ae))) (aa (aN (aa ay ae)) (aa (aN (aa ay ae)) ae))))))))
   (aj (aA (am (au K) (pv 7) (ar b5 (pv 0) af))))))))))),?_⟩
 let#[x1,x2]:=rD n1 (c*48271%99991);let#[y1,y2]:=rD n1 (c*69621%99989);let#[u1,u2]:=rD w1 (c*16807%99971);cbv;refine#[.inr #[∅,∅],∅,_,.inl (ud.of ag),?_];rw[ze];refine#[(),X2 (ud.of ag) x2 ?_];generalize pA nm (c*48271%99991)=x at x1 |-;rw?;refine#[.inr #[∅,∅],∅,_,.inl (ud.of ag),?_]
 rw[ze];refine#[(),X2 (ud.of ag) y2 ?_];generalize pA nm (c*69621%99989)=y at y1 |-;rw?;refine#[.inr #[∅,∅],∅,_,.inl (ud.of bc),?_]
 rw[ze];refine#[(),X2 (ud.of bc) u2 ?_];generalize pA ws (c*16807%99971)=wd at u1 |-;rw?;refine#[.inr #[∅,∅],#[∅,∅,∅],.inl #[∅,∅],∅,#[∅,∅,∅],?_]
 have hb:=Fn c;rw[show c*40692%(2*10^Int.toNat 60-1)-10^Int.toNat 60+1=xW c from rfl];generalize xW c=b at hb |-;rw?;refine⟨∅,λt1 d6=>?_⟩
 ∎;rename_i H1 s1 r1;refine#[∅,λt2 dl=>?_];∎;rename_i H2 s2 r2;refine#[∅,λt3 dm=>?_];∎;rename_i H3 s3 r3;refine#[∅,λt4 d4=>?_];∎;rename_i H4 s4 r4;refine#[∅,λt5 dV=>?_];∎;rename_i H5 s5 r5;refine#[∅,λt6 dP=>?_];∎;rename_i H6 s6 r6;refine#[∅,λl0 cn=>?_];have J:=ak cn (.lst [.ref t1,.ref t2,.ref t3,.ref t4,.ref t5,.ref t6]);have L0:B5 (upd H6 l0 (.lst [.ref t1,.ref t2,.ref t3,.ref t4,.ref t5,.ref t6])) l0 [[.str "open",.str x],[.str "do",.str wd,.str x],[.str "do",.str wd,.str x],[.str "do",.str wd,.str x],[.str "copy",.str x,.str y],[.str "drop",.str x]]:=#[[t1,t2,t3,t4,t5,t6],ai,.cons (J _ _ (s6 _ _ (s5 _ _ (s4 _ _ (s3 _ _ (s2 _ _ (r1))))))) (.cons (J _ _ (s6 _ _ (s5 _ _ (s4 _ _ (s3 _ _ (r2)))))) (.cons (J _ _ (s6 _ _ (s5 _ _ (s4 _ _ (r3))))) (.cons (J _ _ (s6 _ _ (s5 _ _ (r4)))) (.cons (J _ _ (s6 _ _ (r5))) (.cons (J _ _ (r6)) .nil)))))];have bg:sg H (upd H6 l0 (.lst [.ref t1,.ref t2,.ref t3,.ref t4,.ref t5,.ref t6])):=((((((s1.trans s2).trans s3).trans s4).trans s5).trans s6).trans J)
 generalize upd H6 l0 (.lst [.ref t1,.ref t2,.ref t3,.ref t4,.ref t5,.ref t6])=cm at L0 bg |-;have C0:=L0;have S0:=bg;rw?;refine⟨∅,λt7 dt=>?_⟩
 ∎;rename_i H7 s7 r7;refine#[∅,λt8 da=>?_];∎;rename_i H8 s8 r8;refine#[∅,λt9 d5=>?_];∎;rename_i H9 s9 r9;refine#[∅,λac c4=>?_];∎;rename_i H10 s10 r10;refine#[∅,λab c3=>?_];∎;rename_i H11 s11 r11;refine#[∅,λl1 cc=>?_];have O:=ak cc (.lst [.ref t7,.ref t8,.ref t9,.ref ac,.ref ab]);have L1:B5 (upd H11 l1 (.lst [.ref t7,.ref t8,.ref t9,.ref ac,.ref ab])) l1 [[.str "tie",.str x,.str y],[.str "lend",.str x,.str y],[.str "if",.int b],[.str "while",.int b],[.str "while",.int b]]:=#[[t7,t8,t9,ac,ab],ai,.cons (O _ _ (s11 _ _ (s10 _ _ (s9 _ _ (s8 _ _ (r7)))))) (.cons (O _ _ (s11 _ _ (s10 _ _ (s9 _ _ (r8))))) (.cons (O _ _ (s11 _ _ (s10 _ _ (r9)))) (.cons (O _ _ (s11 _ _ (r10))) (.cons (O _ _ (r11)) .nil))))];have a3:sg cm (upd H11 l1 (.lst [.ref t7,.ref t8,.ref t9,.ref ac,.ref ab])):=(((((s7.trans s8).trans s9).trans s10).trans s11).trans O)
 generalize upd H11 l1 (.lst [.ref t7,.ref t8,.ref t9,.ref ac,.ref ab])=ce at L1 a3 |-;let#[a5,a1,b1]:=C0.mono a3
 let#[a6,c1,d1]:=L1;refine yI2 _ _ #[a1,c1,dG b1 d1 '~',λm1 a9=>?_];have C1:=eR b1 d1 a9;have S1:=(S0.trans a3).trans (ak a9 (.lst (a5.map V.ref++a6.map V.ref)));generalize upd ce m1 (.lst (a5.map V.ref++a6.map V.ref))=cd at C1 S1 |-;rw?;refine⟨∅,λY cB=>?_⟩
 ∎;rename_i H12 s12 r12;refine#[∅,λad cA=>?_];∎;rename_i H13 s13 r13;refine#[∅,λU c9=>?_];∎;rename_i H14 s14 r14;refine#[∅,λZ c5=>?_];∎;rename_i H15 s15 r15;refine#[∅,λW cz=>?_];∎;rename_i H16 s16 r16;refine#[∅,λl2 cv=>?_];have S:=ak cv (.lst [.ref Y,.ref ad,.ref U,.ref Z,.ref W]);have L2:B5 (upd H16 l2 (.lst [.ref Y,.ref ad,.ref U,.ref Z,.ref W])) l2 [[.str "do",.str wd,.str x],[.str "tie",.str x,.str y],[.str "open",.str x],[.str "other"],[.str "close"]]:=#[[Y,ad,U,Z,W],ai,.cons (S _ _ (s16 _ _ (s15 _ _ (s14 _ _ (s13 _ _ (r12)))))) (.cons (S _ _ (s16 _ _ (s15 _ _ (s14 _ _ (r13))))) (.cons (S _ _ (s16 _ _ (s15 _ _ (r14)))) (.cons (S _ _ (s16 _ _ (r15))) (.cons (S _ _ (r16)) .nil))))];have al:sg cd (upd H16 l2 (.lst [.ref Y,.ref ad,.ref U,.ref Z,.ref W])):=(((((s12.trans s13).trans s14).trans s15).trans s16).trans S)
 generalize upd H16 l2 (.lst [.ref Y,.ref ad,.ref U,.ref Z,.ref W])=b4 at L2 al |-;let#[be,a2,b2]:=C1.mono al
 let#[bh,c2,d2]:=L2;refine yI2 _ _ #[a2,c2,dG b2 d2 '~',λm2 a8=>?_];have C2:=eR b2 d2 a8;have S2:=(S1.trans al).trans (ak a8 (.lst (be.map V.ref++bh.map V.ref)));generalize upd b4 m2 (.lst (be.map V.ref++bh.map V.ref))=bt at C2 S2 |-;rw?;have b3:B5 bt m2 (yP x y wd b):=C2
 refine#[∅,?_];let#[as,ca,a7]:=b3;have cq:=aQ a7;have d7:=zaT c (show (16:Int)≠0 from ∅);have dc:=zaU c (show (0:Int)<16 from ∅);have cb:as.length=16:=cq;have bp:(c%16).toNat<as.length:=()
 let#[r,e1,e2]:=cP a7 (zg bp);refine X2 (ud.of ca) (show cM (as.map V.ref) (c%16)=Sm (.ref as[(c%16).toNat]) from ?_) (q _ bt r S2 e2 (y_ x1 y1 (a4 x x1) (a4 y y1) (b0 wd u1) hb r (me e1)));have:=ao (xs:=as.map V.ref) (j:=(c%16).toNat) (v:=.ref as[(c%16).toNat]) (by rw[yf,zg bp];rfl)
 rwa [show (((c%16).toNat:Nat):Int)=c%16 from ()]at this
theorem gR(x:Str):∀ss:LI,iQ (.str x) (ss.map V.str)=decide (x∈ss)
 | []=>rfl
 | y::ss=>by
  have ih:=gR x ss;show (kZ (.str y) (.str x)||iQ (.str x) (ss.map V.str))=_;rw[ih];show ((y==x)||decide (x∈ss))=_;by_cases h:y=x
  .subst h;simp
  .have h2:¬ x=y:=λz=>h z.symm;rw[beq_eq_false_iff_ne.mpr h];simp[h2]
theorem G1.mono{fs:List C6}(I:G1 fs m)(h:m<=n):G1 fs n:=#[I.ok,xH I.cnt h,I.len,I.pos]
def GZ(a1:so)(fs:List C6):Prop:=∃x,fs[0]?=Sm x/\x.a1=a1
theorem GZ.set{a1:so}{gs:List C6}{x F:C6}(h:GZ a1 (gs++[x]))(e:F.a1=x.a1):GZ a1 (gs++[F]):=by
 cases gs with
 | nil=>let#[y,O,J]:=h;cases O;exact#[F,rfl,by rw[e];exact J]
 | cons g gs=>let#[y,O,J]:=h;exact#[y,O,J]
theorem GZ.cut{a1:so}{gs:List C6}{x:C6}(h:GZ a1 (gs++[x]))(hg:1<=gs.length):GZ a1 gs:=by
 cases gs with
 | nil=>simp at hg
 | cons g gs=>let#[y,J,F]:=h;exact#[y,J,F]
theorem GZ.add{a1:so}{fs:List C6}{x:C6}(h:GZ a1 fs):GZ a1 (fs++[x]):=by
 cases fs with
 | nil=>let#[y,F,_]:=h;cases F
 | cons g gs=>let#[y,F,J]:=h;exact#[y,F,J]
theorem Df.side{H0:Hp}{pp:so}(I:Df H0 H pp (gs++[x]) S){ha:so}{z:V}(h1:H x.fa=Sm (.lst [.ref ha,.ref x.a1,.ref x.a2,z])):Df H0 (upd H x.fa (.lst [.ref ha,.ref x.a1,.ref x.a2,.int 1])) pp (gs++[{x with f:={x.f with s:=true}}]) S:=by
 refine yE3 (I.fr gs.length x (c8 gs x)) λF W ad=>yB6 λJ h2 h3 h4 h5 h6=>?_;have Z:F=ha:=by rw[h1]at J;simp at J;exact J.1.symm
 subst Z;have ab:x∈gs++[x]:=nS _ yy;have U:=I.nd;rw[IJ,fD,ID]at U;have O:[x.fa,x.a1,x.a2].Nodup:=U.2.2.1;simp only[IJ,yk,yT,or_false,not_or,not_false_eq_true,Ih,and_true]at O;let#[#[n1,n2],n3]:=O;have ac:¬ S x.fa:=I.ns _ (yS _ (fT ab).1);have Y:∀b xs,H b=Sm (.tup xs)->upd H x.fa (.lst [.ref F,.ref x.a1,.ref x.a2,.int 1]) b=Sm (.tup xs):=λb xs y=>by rw[aw (dh y h1 (λy=>nomatch y))];exact y
 have kl:∀b xs,S b->H b=Sm (.lst xs)->upd H x.fa (.lst [.ref F,.ref x.a1,.ref x.a2,.int 1]) b=Sm (.lst xs):=λb xs hb y=>by rw[aw (wV hb ac)];exact y
 refine I.write (.inl rfl) rfl rfl rfl (yI3 F W ad #[ai,Y _ _ h2,?_,?_,cY Y kl (λ_ z=>z) h5,cY Y kl (λ_ z=>z) h6])
 .rw[aw (uW n1)];exact h3
 .rw[aw (uW n2)];exact h4
def pe:Sp:=λvs H Q _=>∃(cp np wp:so) (cs:LS) (nm ws:LI) (l0:Nat),vs=[.ref cp,.ref np,.ref wp,.int (l0:Int),.int 2]/\H cp=Sm (.lst (cs.map V.int))/\H np=Sm (.lst (nm.map V.str))/\H wp=Sm (.lst (ws.map V.str))/\cs.length<=20/\1<=nm.length/\nm.length<=20/\1<=ws.length/\ws.length<=20/\(∀x∈nm,dQ x)/\(∀x∈ws,dQ x)/\
 ∀(root:so) (H':Hp) (S:so->Prop) (T:List vr),sg H H'->H root=Nn->Bt S 10 H' root T->cj 10 T->dC 10 T->aq 10 T<=60->fQ (· ∈ nm) 3 T->dW 1 1 1 10 T<=cs.length->dW 0 1 0 10 T<=l0->Q (.ref root) H'
def DK(H:Hp)(cp np wp pp a1:so)(nm:LI)(l0 n:Nat)(σ : L2.St)(H':Hp):Prop:=∃(le:Nat) (o6 o7:LR) (fs:List C6) (S:so->Prop),σ=[Sm (.ref cp),Sm (.ref np),Sm (.ref wp),Sm (.int (le:Int)),Sm (.int 2),Sm (.ref pp),o6,o7]/\Df H H' pp fs S/\G1 fs (3*n)/\GZ a1 fs/\le<=l0/\PX nm fs n (l0-le)
theorem LK{p q:Prop}[Decidable p][Decidable q]{A B:Prop}(h1:p\/q->A)(h2:¬ (p\/q)->B):if p then A else if q then A else B:=by
 by_cases hp:p
 .rw[KZ hp];exact h1 (.inl hp)
 .rw[KQ hp];exact aP (λc=>h1 (.inr c)) (λc=>h2 (λz=>z.elim hp c))
theorem rG{l:List α}(h:l≠[]):∃a x,l=a++[x]:=yI2 l.dropLast (l.getLast h) ((za7 h).symm)
theorem O6{a b c:so}(h1:a≠b)(h2:a≠c)(F:b≠c):[a,b,c].Nodup:=by simp[h1,h2,F]
theorem w_(D:xn K mg "_law_program" bq) (W:wAK mg) (bp:mg "int" = Nn) (Z:aH P w K mg base 1 "_law_step" qAY zB) (ac:aH P w K mg base 1 "_law_put" qAW yQ) (J:aH P w K mg base 2 "_law_close" ["_law_pile"] oK):aH P w K mg base 3 "_law_program" qAL pe:=by
 refine D.cal (k:=2) C4 (λf d7 A outer s0 H vs Q E hr h=>?_);revert h;refine yF7 λcp np wp cs nm ws l0=>yB12 ?_;rintro rfl cb d2 dl ea n1 n2 w1 w2 cz cA q;refine⟨_,(ah (av 5 C4.nd (aI (aa (aI (aa (aN (aa ay ae)) (aa (aI ae) (aa (aI ae) (aa af ae))))) ae)))
   (ah (bT xm rfl (bJ K (pv 0)) (aV 6 C4.nd) (ah (av 7 C4.nd (ax Z hr (aa (pv 6) (aa (pv 1) (aa (pv 2) ae)))))
   (aj (aS (az (um K) (am (au K) (pv 7) af) (aN (aa ay (aa ay ae))) (by with_unfolding_all rfl)) (aj (aS (PW.pt' (cw (az lf (br (aU K) W bG (aa (pv 5) ae)) af (aB _)) (cw (az aM (am (au K) (pv 7) af) ay (aB _)) (cw (az aM (am (au K) (am (au K) (am (au K) (pv 5) (fH eP af)) af) af) ay (aB _)) (cS (az aM (am (au K) (am (au K) (pv 5) (fH eP af)) af) af (aB _))))))) (aj (iT af (kM (am (au K) (pv 5) (fH eP af)) af Ki))) (aj (aS (az lf (br (aU K) W bG (aa (pv 5) ae)) af (aB _)) (aj (bo (ax J hr (aa (pv 5) ae)))) aL)))) (aj (aS (az (im K) (am (au K) (pv 7) af) (aN (aa ay (aa ay (aa ay ae)))) (by with_unfolding_all rfl)) (aj (bo (ax ac hr (aa (pv 5) (aa (pv 7) ae))))) (aj (aS (PW.pt' (cw (az Kk (br (aU K) W bG (aa (pv 5) ae)) (pv 4) (aB _)) (cS (PW.pt' (y8 (az rH (am (au K) (pv 7) af) ay (aB _)) (tL (az lf (pv 3) af (aB _)))))))) (ah (av 3 C4.nd (ar fR (pv 3) (fS kG bp rR (aa (iK aM (am (au K) (pv 7) af) ay (aB _)) ae))))
   (aj (bo (bB K xl mB mF bw (pv 5) (aa (aI (aa (pv 7) (aa (aI ae) (aa (aI ae) (aa af ae))))) ae))))) aL))))))))
   (ah (j3 xm (az lf (br (aU K) W bG (aa (pv 5) ae)) af (aB _)) (aj (bo (ax J hr (aa (pv 5) ae)))))
   (aj (aA (am (au K) (am (au K) (pv 5) af) af)))))),?_⟩
 cbv;refine#[∅,λth d9=>?_];∎;rename_i H1 s1 e1;refine#[∅,λa1 c5=>?_];∎;rename_i H2 s2 e2;have e2:H2 a1=Sm (.lst (([]:LL).map V.ref)):=e2;refine#[∅,λa2 cq=>?_];∎;rename_i H3 s3 e3;have e3:H3 a2=Sm (.lst (([]:LL).map V.ref)):=e3;refine#[∅,λfa bh=>?_];∎;rename_i H4 s4 e4;have e4:H4 fa=Sm (.lst [.ref th,.ref a1,.ref a2,mX false]):=e4;refine#[∅,λU a7=>?_];∎;rename_i H5 s5 e5;have ad:=s1.trans s2;have cc:=ad.trans s3;have cd:=cc.trans s4;have cn:=cd.trans s5;have i1:a1≠a2:=a_ e2 cq;have i2:a1≠fa:=a_ (s3 _ _ e2) bh;have i3:a2≠fa:=a_ e3 bh;have i4:a1≠U:=a_ (s4 _ _ (s3 _ _ e2)) a7;have i5:a2≠U:=a_ (s4 _ _ e3) a7;have i6:fa≠U:=a_ e4 a7;have I0:Df H H5 U [#[fa,a1,a2,#[.top,[],[],false]]] (λ_=>False):=by
  refine#[cn,e5,λk x hx=>?_,?_,λb _ z=>z,λb hb=>?_,λb z=>z.elim]
  .have hk:k=0:=by have:=(KO.mp hx).1;simp at this;lia
   subst hk;cases hx;exact yI3 th ([]) ([]) #[s5 _ _ e4,s5 _ _ (s4 _ _ (s3 _ _ (s2 _ _ e1))),s5 _ _ (s4 _ _ (s3 _ _ e2)),s5 _ _ (s4 _ _ e3),.nil,.nil]
  .show [U,fa,a1,a2].Nodup;simp only[IJ,yk,yT,or_false,not_or,not_false_eq_true,Ih,and_true];exact#[#[λe=>i6 e.symm,λe=>i4 e.symm,λe=>i5 e.symm],#[λe=>i2 e.symm,λe=>i3 e.symm],i1]
  .have a4:b∈[U,fa,a1,a2]:=hb;simp only[yk,yT,or_false]at a4;rcases a4 with rfl | rfl | rfl | rfl
   .exact cd.free a7
   .exact cc.free bh
   .exact s1.free c5
   .exact ad.free cq
 have O0:G1 [#[fa,a1,a2,#[.top,[],[],false]]] (3*0):=by
  refine#[λk x hx=>?_,zu _,'~','~'];have hk:k=0:=by have:=(KO.mp hx).1;simp at this;lia
  subst hk;cases hx;exact#[λ_=>rfl,λz=>absurd z ∅,#[mf 9,λs hs=>by cases hs],#[mf 9,λs hs=>by cases hs],.inr #[rfl,rfl]]
 have X0:PX nm [#[fa,a1,a2,#[.top,[],[],false]]] 0 (l0-l0):=by
  refine#[λk x hx=>?_,zu _,gV _,'~'];have hk:k=0:=by have:=(KO.mp hx).1;simp at this;lia
  subst hk;cases hx;exact#[λs hs=>(by cases hs),λs hs=>(by cases hs),λy z e=>(by cases e)]
 rw?;refine#[#[_,ud.of (cn _ _ cb)],?_];refine b6 (xs:=cs.map V.int) (DK H cp np wp U a1 nm l0)
  (yI5 l0 Nn Nn _ _ #[rfl,I0,O0,#[_,rfl,rfl],zu _,X0]) (λi σ H' _ hh=>by revert hh;refine yF5 λ_ _ _ _ _=>yB3 λ_ I _=>?_;exact ud.of (I.sm _ _ cb)) ?_ ?_
 .intro i v σ H6 hv;refine yF5 λle o6 o7 fs S=>yB6 ?_;rintro rfl I O F hle X;have hi:i<cs.length:=by have:=(KO.mp hv).1;simpa using this
  rw[yf,zg hi]at hv;cases hv;cbv;refine yI5 (cs[i]) np wp nm ws #[rfl,I.sm _ _ d2,I.sm _ _ dl,n1,n2,w1,w2,cz,cA,λt H7 v s7 et hk=>?_];have I7:=I.alloc s7;rw?;let#[gs,x,rfl]:=rG (λz=>by have:=O.pos;rw[z]at this;simp at this:fs≠[]);have ag:=O.ok gs.length x (c8 gs x);have cB:=O.small (c8 gs x);have bt:=O.len;rw[jn,ye,yU]at bt;have dc:∃(g:Str) (u:LM),v = .str g::u:=by cases hk<;>first | exact yI2 _ _ rfl | (rename_i px _ _ _;cases px<;>exact yI2 _ _ rfl)
  let#[gh,u,hv]:=dc;have a3:cM v 0=Sm (.str gh):=by rw[hv];exact ke
  refine X1 (su.of et) a3 #[∅,λp1 ec=>?_];∎;rename_i H8 s8 e8;have e8:H8 p1=Sm (.tup ((["other","close"]:LI).map V.str)):=e8;have I8:=I7.alloc s8;have b0:=s8 _ _ et;refine#[_,.inr (su.of e8),rfl,rfl,?_];rw[gR];have ab:(((gs++[x]).map λx=>V.ref x.fa).length:Int)=(gs.length:Int)+1:='~';have stay:∀ {H'},Df H H' U (gs++[x]) S->DK H cp np wp U a1 nm l0 (i+1) [Sm (.ref cp),Sm (.ref np),Sm (.ref wp),Sm (.int (le:Int)),Sm (.int 2),Sm (.ref U),Sm (.int cs[i]),Sm (.ref t)] H':=λI'=>yI5 _ _ _ _ _ #[rfl,I',O.mono (),F,hle,X.mono () (zu _)];refine aP (λc1=>?_) (λc1=>?_)
  .have cls:∃xs,(ud K H8 U xs\/su K H8 U xs)/\if (1:Int)<(xs.length:Int) then oK [.ref U] H8 (λ_ H'=>DK H cp np wp U a1 nm l0 (i+1) [Sm (.ref cp),Sm (.ref np),Sm (.ref wp),Sm (.int (le:Int)),Sm (.int 2),Sm (.ref U),Sm (.int cs[i]),Sm (.ref t)] H') E0 else DK H cp np wp U a1 nm l0 (i+1) [Sm (.ref cp),Sm (.ref np),Sm (.ref wp),Sm (.int (le:Int)),Sm (.int 2),Sm (.ref U),Sm (.int cs[i]),Sm (.ref t)] H8:=by
    refine#[_,.inl (ud.of I8.pile),?_];rw[ab];refine aP (λc2=>?_) (λ_=>stay I8);let#[Y,g,rfl]:=rG (λz=>by rw[z]at c2;simp at c2:gs≠[]);have cv:=O.small (k:=Y.length) (x:=g) (by rw[uP,uC (zu _),JL];rfl);have bg:=O.len;simp at bg;exact⟨U,H,Y,g,x,S,rfl,I8,λz=>by
     have:=ag.hd '~';rw[z]at this;exact this,(),(),(),λH9 S9 I9=>yI5 _ _ _ _ _ ⟨rfl,I9,O.close.mono (),(F.cut '~').set rfl,hle,(X.close (by simpa using ag)).mono () (zu _)⟩⟩
   refine#[_,.inl (ud.of I8.pile),?_];rw[ab];refine aP (λc2=>?_) (λ_=>cls);refine X1 (su.of b0) a3 ?_;cbv;refine aP (λ_=>?_) (λ_=>cls);refine yE3 (I8.fr gs.length x (c8 gs x)) λha b4 dV=>yB6 λh1 h2 h3 h4 h5 h6=>?_;refine X2 (ud.of I8.pile) hZ ?_;cbv;refine X2 (ud.of h1) ke ?_;cbv;cases hhd:x.f.hd with
   | ite n=>
    rw[hhd]at h2;refine X1 (su.of h2) (show cM (je (.ite n)) 0=Sm (.str "if") from ke) ?_;cbv;refine X2 (ud.of I8.pile) hZ ?_;cbv;refine X2 (ud.of h1) (ao (j:=3) rfl) ?_;cases hs:x.f.s with
    | true=>
     rw[show mX true=V.int 1 from rfl];cbv;rw[KQ ∅];exact cls
    | false=>
     rw[show mX false=V.int 0 from rfl];cbv;refine X2 (ud.of I8.pile) hZ ?_;cbv;exact yI2 _ 3 #[h1,rfl,yI5 _ _ _ _ _ #[rfl,I8.side h1,(O.side hhd).mono (),F.set rfl,hle,X.side.mono () (zu _)]]
   | _=>
    rw[hhd]at h2;refine X1 (su.of h2) ke ?_;cbv;rw[KQ ⋯];exact cls
  .have ca:gh∉(["other","close"]:LI):=λz=>c1 (decide_eq_true z);cbv;refine X1 (su.of b0) a3 #[∅,λp2 d6=>?_];∎;rename_i H9 s9 e9;have e9:H9 p2=Sm (.tup ((qAm:LI).map V.str)):=e9;have I9:=I8.alloc s9;have a5:=s9 _ _ b0;refine#[_,.inr (su.of e9),rfl,rfl,?_];rw[gR];have ce:(∃us,v=us.map V.str/\fm us/\ig us/\(∀x∈us,dE x)/\Eo nm us)\/∃h:uR,v=je h/\gh∈(qAm:LI)/\BO h/\(∀y z,h = .lend y z->y∈nm/\z∈nm)/\ni 1 1 h<=1/\ni 1 0 h=if gh = "lend" then 1 else 0:=by
    cases hk with
    | plain us a b c d=>exact .inl #[us,rfl,a,b,c,d]
    | lend y z k1 k2 m1 m2=>cases hv;exact .inr #[.lend y z,rfl,'~',#[k1,k2],λ_ _ e=>by cases e;exact#[m1,m2],zu _,(KZ rfl).symm]
    | ite n k1=>cases hv;exact .inr #[.ite n,rfl,'~',k1,λ_ _ e=>(by cases e),zu _,(KQ ⋯).symm]
    | whl n k1=>cases hv;exact .inr #[.whl n,rfl,'~',k1,λ_ _ e=>(by cases e),zu _,(KQ ⋯).symm]
    | other=>cases hv;exact absurd ⋯ ca
    | close=>cases hv;exact absurd ⋯ ca
   rcases ce with ⟨us,rfl,px,pw,d3,nw⟩ | ⟨h,rfl,c9,hok,dm,d8,dP⟩
   .have d4:us.headD "" = gh:=by cases px<;>(cases hv;rfl)
    have dt:gh∉(qAm:LI):=by
     rw[<-d4];rcases ju px with h | h | h | h | h<;>rw[h]<;>decide +kernel
    rw[decide_eq_false dt,KZ ∅];exact yI7 U t H gs x S (.plain us) #[rfl,I9,a5,(),(),(),λd1 al=>yI5 _ _ _ _ _ #[rfl,al,(O.put (st:=.plain us) (c:=1) #[px,d3] pw (zu _)).mono (),F.set rfl,hle,X.put (st:=.plain us) (c:=1) (e:=0) nw (zu _) (zu _)]]
   .rw[decide_eq_true c9,KQ ∅];refine#[_,.inl (ud.of I9.pile),?_];rw[ab];refine aP (λc3=>?_) (λ_=>stay I9);refine X1 (su.of a5) a3 ?_;cbv;refine LK (λc4=>?_) (λ_=>stay I9);refine X1 (su.of a5) a3 ?_;cbv;rw?;refine#[#[_,ud.of I9.pile],∅,λb1 b3=>?_];∎;rename_i d1 s10 f1;refine#[∅,λb2 a6=>?_];∎;rename_i H11 s11 f2;refine#[∅,λfb as=>?_];∎;rename_i H12 ad f3;have al:=I9.alloc s10;have a8:=al.alloc s11;have cm:=a8.alloc ad;refine#[_,cm.pile,by rw[ze,jn];exact cI (by simp;lia),?_];have hX:=X.open (hd:=h) (by simp;lia) dm fb b1 b2;have be:(le:Int)-(if gh = "lend" then 1 else 0)=((le-ni 1 0 h:Nat):Int)/\ni 1 0 h<=le:=by
     rw[dP];by_cases hl:gh = "lend"
     .have:(0:Int)<le:=c4.resolve_left (λz=>by simp[hl]at z);rw[KZ hl,KZ hl];lia
     .rw[KQ hl,KQ hl];lia
    rw[be.1];have d5:=be.2;refine yI5 _ _ _ _ _ #[rfl,cm.push (x:=#[fb,b1,b2,#[h,[],[],false]]) (yI3 t ([]) ([]) #[f3,(s10.trans (s11.trans ad)) _ _ a5,(s11.trans ad) _ _ f1,ad _ _ f2,.nil,.nil]) (O6 (a_ (s11 _ _ f1) as).symm (a_ f2 as).symm (a_ f1 a6)) (λb hb=>?_),O.open (h:=h) (by simp;lia) hok fb b1 b2,F.add,(),hX.mono () ()];have a4:b∈[fb,b1,b2]:=hb;simp only[yk,yT,or_false]at a4;rcases a4 with rfl | rfl | rfl
    .exact#[a8.notop as,(a8.free as).2,(a8.free as).1]
    .exact#[I9.notop b3,(I9.free b3).2,(I9.free b3).1]
    .exact#[al.notop a6,(al.free a6).2,(al.free a6).1]
 .intro σ H6;refine yF5 λle o6 o7 fs S=>yB6 ?_;rintro rfl I O F hle X;rw[ze]at O X;rw?;refine#[λm σ H'=>∃(fs:List C6) (S:so->Prop),σ=[Sm (.ref cp),Sm (.ref np),Sm (.ref wp),Sm (.int (le:Int)),Sm (.int 2),Sm (.ref U),o6,o7]/\Df H H' U fs S/\G1 fs (3*cs.length)/\GZ a1 fs/\fs.length=m/\PX nm fs cs.length l0,yI3 _ fs S #[rfl,I,O,F,rfl,X.mono (zu _) ()],?_];clear I O F X;intro m σ H7;refine yF2 λfs S=>yB6 ?_;rintro rfl I O F hm X;have a9:fs≠[]:=λz=>by have:=O.pos;rw[z]at this;simp at this
  obtain⟨gs,x,rfl⟩ : ∃gs x,fs=gs++[x]:=yI2 fs.dropLast (fs.getLast a9) ((za7 a9).symm);have ag:=O.ok gs.length x (c8 gs x);have cB:=O.small (c8 gs x);have ab:(((gs++[x]).map λx=>V.ref x.fa).length:Int)=(gs.length:Int)+1:='~';cbv;refine#[_,.inl (ud.of I.pile),?_];rw[ab];refine aP (λc2=>?_) (λc2=>?_)
  .have bc:gs≠[]:=λz=>by rw[z]at c2;simp at c2
   obtain⟨Y,g,rfl⟩ : ∃Y g,gs=Y++[g]:=yI2 gs.dropLast (gs.getLast bc) ((za7 bc).symm);have cv:=O.small (k:=Y.length) (x:=g) (by rw[uP,uC (zu _),JL];rfl);have bg:=O.len;simp at bg hm;refine#[λσ' H'=>∃(fs:List C6) (S:so->Prop),σ'=[Sm (.ref cp),Sm (.ref np),Sm (.ref wp),Sm (.int (le:Int)),Sm (.int 2),Sm (.ref U),o6,o7]/\Df H H' U fs S/\G1 fs (3*cs.length)/\GZ a1 fs/\fs.length=Y.length+1/\PX nm fs cs.length l0,λσ' H' z=>#[Y.length+1,(),z],?_];refine⟨U,H,Y,g,x,S,rfl,I,λz=>by
    have:=ag.hd '~';rw[z]at this;exact this,(),(),(),λH9 S9 I9=>?_⟩
   exact yI2 _ S9 #[rfl,I9,O.close,(F.cut '~').set rfl,'~',X.close (by simpa using ag)]
  .have da:gs=[]:=zaP ();subst da;refine yE3 (I.fr 0 x rfl) λha b4 dV=>yB6 λh1 h2 h3 h4 h5 h6=>?_;let#[y,hy,eb]:=F;cases hy;rw?;refine X2 (ud.of I.pile) ke ?_;cbv;refine X2 (ud.of h1) (ao (j:=1) rfl) ?_;have hc:=O.cnt;have hw:jk 0 x+0<=3*cs.length:=hc;unfold jk at hw;refine q x.a1 H7 (λb=>S b\/b=x.a1) x.f.a I.sm (I.nw _ (yS _ (fT (fs:=[]++[x]) (x:=x) '~').2.1)) #[.inr rfl,b4,h3,cY (λ_ _ z=>z) (λ_ _ _ z=>z) (λ_ z=>.inl z) h5] ag.a.1 ag.a.2 (by simp at hw;lia) (X.nk 0 x rfl).1 (by have:jA 1 1 1 0 x+0<=cs.length:=X.nd;unfold jA at this;simp at this;lia) (by have:jA 0 1 0 0 x+0<=l0:=X.ld;unfold jA at this;simp at this;lia)
noncomputable def du:LW->V
 | none=>.non
 | some n=>.int n
set_option genInjectivity false in
set_option genSizeOf false in
structure Rl where
 s:Int
 ws:LI
 rs:List (List LW)
structure dD (r:Rl):Prop where
 s:r.s=1\/r.s=2
 nw:r.ws.length<=16
 n0:1<=r.rs.length
 n1:r.rs.length<=60
 row:∀x∈r.rs,x.length=r.ws.length/\∀k,Sm k∈x->k<r.rs.length
 lw:∀w∈r.ws,w.length<=30
def G0(H:Hp)(p:so)(rs:List (List LW))(as:LL):Prop:=
 H p=Sm (.lst (as.map V.ref))/\as.length=rs.length/\∀(i:Nat) a x,as[i]?=Sm a->rs[i]?=Sm x->H a=Sm (.lst (x.map du))
def CU(H:Hp)(p:so)(r:Rl):Prop:=∃pw pr as,H p=Sm (.tup [.int r.s,.ref pw,.ref pr])/\H pw=Sm (.lst (r.ws.map V.str))/\G0 H pr r.rs as
theorem G0.mono{rs:List (List LW)}{F:LL}(sm:sg H H')(h:G0 H p rs F):G0 H' p rs F:=by
 let#[h1,h2,J]:=h;exact#[sm _ _ h1,h2,λi a x O S=>sm _ _ (J i a x O S)]
theorem CU.mono{r:Rl}(sm:sg H H')(h:CU H p r):CU H' p r:=by
 revert h;refine yF3 λS J O=>yB3 λh1 h2 F=>?_;exact yI3 S J O #[sm _ _ h1,sm _ _ h2,F.mono sm]
theorem pI(F:LI):(F.map V.str).all cW=true:=by
 rw[zbr];intro x hx;let#[s,_,rfl]:=K3.mp hx;rfl
theorem wt(y:Str)(F:LI):iQ (.str y) (F.map V.str)=decide (y∈F):=by
 rw[zaK];unfold iQ;rw[List.any_eq_true,decide_eq_true_eq];constructor
 .rintro⟨x,hx,e⟩;let#[s,O,rfl]:=K3.mp hx;have J:(s==y)=true:=e;rw[<-eq_of_beq J];exact O
 .intro h;exact#[.str y,K3.mpr #[y,h,rfl],by show (y==y)=true;simp]
noncomputable def step(r:Rl)(k:Nat)(y:Str):LW:=if y∈r.ws then (r.rs.getD k []).getD (r.ws.idxOf y) Nn else Sm k
noncomputable def after(r:Rl):Nat->LI->LW
 | k,[]=>Sm k
 | k,y::ys=>match step r k y with
  | none=>Nn
  | some k'=>after r k' ys
theorem li{r:Rl}{k:Nat}(ok:dD r)(F:k<r.rs.length)(h:step r k y=Sm j):j<r.rs.length:=by
 unfold step at h;by_cases hy:y∈r.ws
 .rw[KZ hy,xV (l:=r.rs),zg F]at h;have hx:=ok.row r.rs[k] (xF F);have O:r.ws.idxOf y<(r.rs[k]).length:=by rw[hx.1];exact Ln.mpr hy
  have h':(r.rs[k]).getD (r.ws.idxOf y) Nn=Sm j:=h;rw[xV,zg O]at h';have J:(r.rs[k])[r.ws.idxOf y]=Sm j:=h';exact hx.2 j (J ▸ xF O)
 .rw[KQ hy]at h;cases h;exact F
def uq:Sp:=λvs H Q _=>∃(p:so) (r:Rl) (k:Nat) (y:Str),vs=[.ref p,.int k,.str y]/\CU H p r/\dD r/\k<r.rs.length/\Q (du (step r k y)) H
def Aj(K:K_):Sp:=λvs H Q _=>∃(p b:so) (r:Rl) (j:Nat) (ys:LI),vs=[.ref p,.int j,.ref b]/\CU H p r/\dD r/\j<r.rs.length/\ud K H b (ys.map V.str)/\Q (du (after r j ys)) H
theorem wf{r:Rl}{k:Nat}{x:List LW}(ok:dD r)(hx:r.rs[k]?=Sm x)(J:y∈r.ws):(x.map du)[r.ws.idxOf y]?=Sm (du (step r k y)):=by
 have F:r.ws.idxOf y<x.length:=by rw[(ok.row x (me hx)).1];exact Ln.mpr J
 rw[yf,zg F];show Sm (du x[r.ws.idxOf y])=_;unfold step;rw[KZ J,xV (l:=r.rs),hx];show _=Sm (du (x.getD (r.ws.idxOf y) Nn));rw[xV,zg F];rfl
theorem Fq(D:xn K mg "next_room" dz):aH P w K mg base 1 "next_room" qAk uq:=by
 refine D.cal GW (λf Z A outer s H vs Q E hr h=>?_);revert h;refine yF4 λp r k y=>yB5 ?_;rintro rfl U ok hk q;revert U;refine yF3 λpw pr O=>yB5 λh1 h2 W h4 h5=>?_;refine⟨_,(ah (av 3 GW.nd (am (au K) (pv 0) af))
   (ah (aS (az (im K) (pv 2) (pv 3) (by with_unfolding_all rfl)) (aj (aA (pv 1))) aL)
   (aj (aA (am (au K) (am (au K) (am (au K) (pv 0) af) (pv 1)) (bB K xl zbs F.type_list_index (qh K) (pv 3) (aa (pv 2) ae))))))),?_⟩
 cbv;refine X1 (su.of h1) rfl ?_;rw?;refine#[_,.inl (ud.of h2),rfl,pI _,?_];rw[wt];refine aP (λc=>?_) (λc=>?_)
 .have J:y∉r.ws:=by simpa using c
  have e:step r k y=Sm k:=by unfold step;rw[KQ J]
  rw[e]at q;exact q
 .have J:y∈r.ws:=by simpa using c
  obtain⟨b,S⟩ : ∃b,O[k]?=Sm b:=⟨O[k],zg ()⟩
  obtain⟨x,hx⟩ : ∃x,r.rs[k]?=Sm x:=⟨_,zg hk⟩
  rw?;refine X1 (su.of h1) rfl ?_;cbv;refine X2 (ud.of W) (nI () (by simpa using S)) ?_;cbv;refine#[#[_,ud.of h2],_,ud.of h2,J,?_];exact X2 (ud.of (h5 k b x S hx)) (ao (wf ok hx J)) q
theorem nK{r:Rl}{k i:Nat}{ys:LI}{y:Str}(h:ys[i]?=Sm y):after r k (ys.drop i)=match step r k y with
  | none=>Nn
  | some k'=>after r k' (ys.drop (i+1)):=by
 have hi:=(KO.mp h);let#[hi,e]:=hi;rw[za4 hi,e]
 rfl
theorem sT(D:xn K mg "room_from" cV) (F:aH P w K mg base 1 "next_room" qAk uq):aH P w K mg base 2 "room_from" qAt (Aj K):=by
 refine D.cal Gu (λf ab A outer s H vs Q E W h=>?_);revert h;refine yF5 λp b r j ys=>yB6 ?_;rintro rfl U ok Z S q;refine⟨_,(ah (bT xm rfl (bJ K (pv 2)) (aV 3 Gu.nd) (ah (av 1 Gu.nd (ax F W (aa (pv 0) (aa (pv 1) (aa (pv 3) ae)))))
   (aj (aS (az jH (pv 1) dJ (aB _)) (aj (aA dJ)) aL))))
   (aj (aA (pv 1)))),?_⟩
 cbv;refine#[#[_,S],?_];refine b6 (xs:=ys.map V.str) (λi σ H'=>∃(k:Nat) (o:LR),σ=[Sm (.ref p),Sm (.int k),Sm (.ref b),o]/\H=H'/\k<r.rs.length/\after r j ys=after r k (ys.drop i)) (yI2 j Nn #[rfl,rfl,Z,rfl]) (λi σ H' _ h=>by revert h;refine yF2 λ_ _=>yB3 ?_;rintro _ rfl _;exact S) ?_ ?_
 .intro i x σ H' hx;refine yF2 λk o=>yB4 ?_;rintro rfl rfl O e;rw[yf]at hx;cases qy:ys[i]? with
  | none=>rw[qy]at hx;cases hx
  | some y=>
   rw[qy]at hx;cases hx;rw[nK qy]at e;cbv;refine yI4 p r k y #[rfl,U,ok,O,?_];cases hst:step r k y with
   | none=>
    rw[hst]at e;rw?;refine aP (λc=>?_) (λc=>?_)
    .rw[e]at q;exact q
    .exact absurd rfl c
   | some k'=>
    rw[hst]at e;have J:=li ok O hst;rw?;refine aP (λc=>?_) (λc=>?_)
    .cases c
    .exact yI2 k' _ #[rfl,J,e]
 .intro σ H';refine yF2 λk o=>yB4 ?_;rintro rfl rfl O e;rw[ze,List.drop_length]at e;rw?;have e':after r j ys=Sm k:=e;rw[e']at q;exact q
theorem jE{c:so}(h:B5 H c R)(e:R[i]?=Sm r):∃(F:LL) (b:so),H c=Sm (.lst (F.map V.ref))/\F.length=R.length/\F[i]?=Sm b/\H b=Sm (.tup r):=by
 let#[F,a1,a2]:=h;have hl:=aQ a2;have hi:=(KO.mp e).1;have J:i<F.length:=()
 let#[U,O,S]:=cP a2 (zg J);rw[e]at O;cases O;exact yI2 F _ #[a1,hl,zg J,S]
theorem NH(n:Nat):iQ (.int (n:Int)) [.int 2,.int 4]=decide (n=2\/n=4):=by
 show ((2:Int)==(n:Int)||((4:Int)==(n:Int)||false))=_;by_cases a:n=2
 .subst a;rfl
 .by_cases b:n=4
  .subst b;rfl
  .rw[decide_eq_false (),beq_eq_false_iff_ne.mpr (),beq_eq_false_iff_ne.mpr ()];rfl
theorem Ni:(Nr++Str.ofString (toString (1:Int))++Str.ofString "." : Str)=("1." : Str):=⋯
theorem Lp:(Nr++Str.ofString (toString (2:Int))++Str.ofString "." : Str)=("2." : Str):=⋯
theorem AU{a:so}{g:TG}{te:TE}{nT:Nat}{σ:L2.St}{D:so}{Q:VK}{tc:TT}(F:Nat->LM->Hp->Prop)(J:F 0 [] H)(hl:∀i ys H,i<=xs.length->F i ys H->su K H a xs)
  (S:∀i ys H x,xs[i]?=Sm x->i<xs.length->F i ys H->g x (σ++List.replicate nT Nn) H (nG xs.length i F D ys tc te))
  (hd:∀ys H,F xs.length ys H->Q (.ref D) H):gG (wy K a) g tc te nT σ D Q H:=by
 refine mj xs.length F J (λi ys H hi p=>yI2 xs (xs[i]) #[hl i ys H (xE hi) p,by simp[hi]]) (λys H p=>#[xs,hl _ ys H (zu _) p,zu _]) (λi ys H x H' hi p O=>?_) hd;let#[rfl,y]:=O;exact S i ys _ x (y xs (hl i ys _ (xE hi) p)) hi p
inductive Do (N:Nat):aC->Prop
 | op (l s:Nat):s<N->Do N [.str "open",iN l,iN s]
 | dd (l s:Nat) (x:Str):s<N->x.length<=20->Do N [.str "do",iN l,iN s,.str x]
 | cp (l s t:Nat):s<N->t<N->Do N [.str "copy",iN l,iN s,iN t]
 | dr (l s:Nat):s<N->Do N [.str "drop",iN l,iN s]
 | ti (l s t:Nat):s<N->t<N->Do N [.str "tie",iN l,iN s,iN t]
 | ts (l:Nat) (n:Int) (j:Nat):Do N [.str "test",iN l,.int n,iN j]
 | jm (l j:Nat):Do N [.str "jump",iN l,iN j]
 | en (l:Nat):Do N [.str "end",iN l]
noncomputable def aG(r:aC)(k:Nat):Nat:=match r.getD k .non with
 | .int j=>j.toNat
 | _=>0
noncomputable def cO(r:aC):Str:=match r.getD 0 .non with
 | .str x=>x
 | _ => ""
noncomputable def j9(r:aC):Str:=match r.getD 3 .non with
 | .str x=>x
 | _ => ""
theorem Do.hd(h:Do N r):r[0]?=Sm (.str (cO r)):=by cases h<;>rfl
theorem Do.s2{N:Nat}{r:aC}(h:Do N r)(g:cO r∈(["open","copy","drop","do","tie"]:LI)):r[2]?=Sm (.int (aG r 2:Nat))/\aG r 2<N:=by
 cases h with
 | op l s h | dr l s h=>exact#[rfl,h]
 | dd l s x h _=>exact#[rfl,h]
 | cp l s t h _ | ti l s t h _=>exact#[rfl,h]
 | ts l n j=>exact absurd g (by show ¬ (("test" : Str)∈_);decide)
 | jm l j=>exact absurd g (by show ¬ (("jump" : Str)∈_);decide)
 | en l=>exact absurd g (by show ¬ (("end" : Str)∈_);decide)
theorem Do.s3{N:Nat}{r:aC}(h:Do N r)(g:cO r∈(["copy","tie"]:LI)):r[3]?=Sm (.int (aG r 3:Nat))/\aG r 3<N:=by
 cases h with
 | cp l s t _ h | ti l s t _ h=>exact#[rfl,h]
 | op l s h=>exact absurd g (by show ¬ (("open" : Str)∈_);decide)
 | dr l s h=>exact absurd g (by show ¬ (("drop" : Str)∈_);decide)
 | dd l s x h _=>exact absurd g (by show ¬ (("do" : Str)∈_);decide)
 | ts l n j=>exact absurd g (by show ¬ (("test" : Str)∈_);decide)
 | jm l j=>exact absurd g (by show ¬ (("jump" : Str)∈_);decide)
 | en l=>exact absurd g (by show ¬ (("end" : Str)∈_);decide)
theorem Do.wd{N:Nat}{r:aC}(h:Do N r)(g:cO r = "do"):r[3]?=Sm (.str (j9 r))/\(j9 r).length<=20:=by
 cases h with
 | dd l s x _ h=>exact#[rfl,h]
 | op l s h=>exact absurd g (by show ¬ (("open" : Str)=_);decide)
 | dr l s h=>exact absurd g (by show ¬ (("drop" : Str)=_);decide)
 | cp l s t _ h=>exact absurd g (by show ¬ (("copy" : Str)=_);decide)
 | ti l s t _ h=>exact absurd g (by show ¬ (("tie" : Str)=_);decide)
 | ts l n j=>exact absurd g (by show ¬ (("test" : Str)=_);decide)
 | jm l j=>exact absurd g (by show ¬ (("jump" : Str)=_);decide)
 | en l=>exact absurd g (by show ¬ (("end" : Str)=_);decide)
noncomputable def ci(r:aC)(n:Nat):Nat:=if cO r = "copy" /\ bi n (aG r 3)=true then jv n (aG r 2) else if cO r∈(qAe:LI) then aX n (aG r 2) else n
def mZ:Sp:=λvs H Q _=>∃s n:Nat,vs=[.int (s:Int),.int (n:Int)]/\Q (.bl (bi n s)) H
theorem Fj(D:xn K mg "is_in" jF):aH P w K mg base 1 "is_in" qAS mZ:=by
 refine D.cal (k:=0) BJ (λf F A outer O H vs Q E S h=>?_);revert h;refine yF2 λs n=>yB2 ?_;rintro rfl q;refine#[_,(aj (aA (iK aM (ar km (ar tu (pv 1) (pv 0)) af) af (aB _)))),?_];cbv;refine#[(),?_];rw[mi,Ij];have e:decide ((if bi n s=true then (1:Int) else 0)=1)=bi n s:=by cases bi n s<;>decide
 rw[e];exact q
def kC:Sp:=λvs H Q _=>∃s n:Nat,vs=[.int (s:Int),.int (n:Int)]/\s<=1000000/\Q (.int (aX n s:Nat)) H
theorem yi(D:xn K mg "without" iq):aH P w K mg base 1 "without" qAS kC:=by
 refine D.cal (k:=0) yb (λf J A outer U H vs Q E O h=>?_);revert h;refine yF2 λs n=>yB3 ?_;rintro rfl S q;refine#[_,(aj (aA (ar km (pv 1) (fH F9 (ar fN af (pv 0)))))),?_];cbv;refine#[#[(),(),∅],?_];rw[mi,show (1:Int)*2^s=((2^s:Nat):Int) by push_cast;lia,u6];exact q
def Ar:Sp:=λvs H Q _=>∃(b:so) (r:aC) (n N:Nat),vs=[.ref b,.int (n:Int)]/\bN H b r/\Do N r/\N<=1000000/\∀H':Hp,sg H H'->Q (.int (ci r n:Nat)) H'
theorem EW(D:xn K mg "held_behind" dj) (S:aH P w K mg base 1 "is_in" qAS mZ) (J:aH P w K mg base 1 "without" qAS kC):aH P w K mg base 2 "held_behind" qAw Ar:=by
 refine D.cal (k:=1) ox (λf ab A outer s0 H vs Q E hr h=>?_);revert h;refine yF4 λb r n N=>yB5 ?_;rintro rfl U Y hN q;refine⟨_,(ah (aS (PW.pt' (cw (az aM (am (au K) (pv 0) af) ay (aB _)) (cS (cQ (ax S hr (aa (am (au K) (pv 0) af) (aa (pv 1) ae))))))) (aj (aA (ar JX (pv 1) (ar fN af (am (au K) (pv 0) af))))) aL)
   (ah (aS (az (um K) (am (au K) (pv 0) af) (aN (aa ay (aa ay (aa ay ae)))) (by with_unfolding_all rfl)) (aj (aA (ax J hr (aa (am (au K) (pv 0) af) (aa (pv 1) ae))))) aL)
   (aj (aA (pv 1))))),?_⟩
 cbv;refine X1 (su.of U) (ao (j:=0) Y.hd) ?_;cbv;refine aP (λc=>?_) (λc=>?_)
 .let#[h2,l2]:=Y.s2 (by rw[c];decide);let#[h3,l3]:=Y.s3 (by rw[c];decide);refine X1 (su.of U) (ao (j:=3) h3) ?_;refine yI2 (aG r 3) n #[rfl,_,rfl,aP (λd=>?_) (λd=>?_)]
  .refine X1 (su.of U) (ao (j:=2) h2) ?_;cbv;refine#[#[(),(),∅],?_];have F:=q H (λ_ _ z=>z);unfold ci at F;rw[KZ #[c,d]]at F;rw[mi,show (1:Int)*2^aG r 2=((2^aG r 2:Nat):Int) by push_cast;lia];show Q (V.int (N6 (n:Int) ((2^aG r 2:Nat):Int))) H;rw[JJ];exact F
  .have cc:¬ (cO r = "copy" /\ bi n (aG r 3)=true):=λz=>d z.2;rw?;refine X1 (su.of U) (ao (j:=0) Y.hd) #[∅,λp Z=>?_];have W:=ak Z (.tup [V.str "open",.str "copy",.str "drop"]);refine#[_,.inr (su.of ai),rfl,rfl,?_];have O:=W _ _ U;generalize upd H p (.tup [V.str "open",.str "copy",.str "drop"])=H1 at W O |-;rw[show [V.str "open",.str "copy",.str "drop"]=(qAe:LI).map V.str from rfl,gR];have F:=q H1 W;unfold ci at F;rw[KQ cc]at F
   refine aP (λe=>?_) (λe=>?_)
   .have e:=of_decide_eq_true e;rw[KZ e]at F;let#[h2,l2]:=Y.s2 (by simp only[yk,yT,or_false]at e |-;rcases e with e | e | e<;>simp[e]);exact X1 (su.of O) (ao (j:=2) h2) (yI2 (aG r 2) n #[rfl,(),F])
   .rw[KQ (λz=>e (decide_eq_true z))]at F;rw?;exact F
 .have cc:¬ (cO r = "copy" /\ bi n (aG r 3)=true):=λz=>c z.1;rw?;refine X1 (su.of U) (ao (j:=0) Y.hd) #[∅,λp Z=>?_];have W:=ak Z (.tup [V.str "open",.str "copy",.str "drop"]);refine#[_,.inr (su.of ai),rfl,rfl,?_];have O:=W _ _ U;generalize upd H p (.tup [V.str "open",.str "copy",.str "drop"])=H1 at W O |-;rw[show [V.str "open",.str "copy",.str "drop"]=(qAe:LI).map V.str from rfl,gR];have F:=q H1 W;unfold ci at F;rw[KQ cc]at F
  refine aP (λe=>?_) (λe=>?_)
  .have e:=of_decide_eq_true e;rw[KZ e]at F;let#[h2,l2]:=Y.s2 (by simp only[yk,yT,or_false]at e |-;rcases e with e | e | e<;>simp[e]);exact X1 (su.of O) (ao (j:=2) h2) (yI2 (aG r 2) n #[rfl,(),F])
  .rw[KQ (λz=>e (decide_eq_true z))]at F;rw?;exact F
def cF(H:Hp)(t:so)(ts:LJ):Prop:=H t=Sm (.tup (ts.map iN))
theorem nA(h:ts[j]?=Sm n):cM (ts.map iN) (j:Int)=Sm (.int (n:Int)):=ao (by rw[yf,h];rfl)
def qO:Sp:=λvs H Q _=>∃(t:so) (ts:LJ),vs=[.ref t]/\cF H t ts/\Q (.bl (decide (2<ts.length))) H
theorem JH(D:xn K mg "is_of_two" fM) (F:wAK mg):aH P w K mg base 1 "is_of_two" ["token"] qO:=by
 refine D.cal (k:=0) tI (λf O A outer W H vs Q E U h=>?_);revert h;refine yF2 λt ts=>yB3 ?_;rintro rfl S q;refine#[_,(aj (aA (iK lf (br (aU K) F bG (aa (pv 0) ae)) af (aB _)))),?_];cbv;refine#[_,.inr (su.of S),?_];cbv;rw[ze,show decide ((ts.length:Int)>2)=decide (2<ts.length) from decide_eq_decide.mpr ()];exact q
def D7:Sp:=λvs H Q _=>∃(t:so) (ts:LJ),vs=[.ref t]/\cF H t ts/\∀H':Hp,sg H H'->Q (.bl (decide (ts.length=2\/ts.length=4))) H'
theorem HI(D:xn K mg "has_room" gv) (F:wAK mg):aH P w K mg base 1 "has_room" ["token"] D7:=by
 refine D.cal (k:=0) ve (λf S A outer Y H vs Q E W h=>?_);revert h;refine yF2 λt ts=>yB3 ?_;rintro rfl U q;refine#[_,(aj (aA (iK (um K) (br (aU K) F bG (aa (pv 0) ae)) (aN (aa af (aa af ae))) (by with_unfolding_all rfl)))),?_];cbv;refine#[_,.inr (su.of U),∅,λp J=>?_];refine#[_,.inr (su.of ai),rfl,rfl,?_];rw[ze,NH];exact q _ (ak J _)
def F3(r:aC):LJ->LI
 | [n,_]=>if bi n (aG r 2)=true then [j9 r] else []
 | n::m::_=>(if bi n (aG r 2)=true then [("1." : Str)++j9 r] else [])++(if bi m (aG r 2)=true then [("2." : Str)++j9 r] else [])
 | _=>[]
noncomputable def Rf:LJ->LI
 | [_,_]=>["end"]
 | _::_::o::_=>if o=1 then qAx else qAy
 | _=>[]
def gB(r:aC)(ts:LJ):LI:=if cO r = "do" then F3 r ts else if cO r = "end" then Rf ts else []
inductive mS:LJ->Nat->Prop
 | h1 (n k:Nat):mS [n,k] k
 | tie (n m o k:Nat):mS [n,m,o,k] k
def A5:Sp:=λvs H Q _=>∃(b t:so) (r:aC) (ts:LJ) (k N:Nat),vs=[.ref b,.ref t]/\bN H b r/\Do N r/\cO r = "do" /\ cF H t ts/\mS ts k/\∀(L:so) (H':Hp),sg H H'->H L=Nn->H' L=Sm (.lst ((F3 r ts).map V.str))->Q (.ref L) H'
theorem FS(D:xn K mg "texts_done" bu) (J:aH P w K mg base 1 "is_in" qAS mZ) (F:aH P w K mg base 1 "is_of_two" ["token"] qO):aH P w K mg base 2 "texts_done" qAf A5:=by
 refine D.cal (k:=1) Gq (λf ad A outer s0 H vs Q E hr h=>?_);revert h;refine yF6 λb t r ts k N=>yB7 ?_;rintro rfl hb hk hd ht Z q;refine⟨_,(ah (av 2 Gq.nd (am (au K) (pv 0) af) (hx:=Qx))
   (ah (av 3 Gq.nd (am (au K) (pv 0) af) (hx:=QO))
   (ah (aS (i0 (cQ (ax F hr (aa (pv 1 (hv:=KR)) ae)))) (aj (aA (ft (cQ (ax J hr (aa (pv 2 (hv:=Rv)) (aa (am (au K) (pv 1 (hv:=KR)) af) ae)))) (aI (aa (pv 3 (hv:=Q2)) ae)) (aI ae)))) aL)
   (aj (aA (eV (C5.to (fsc:=(rd bu)) (N:=qAb) (N0:=qAb) (T:=["side"])) rfl ((iH K) (aN (aa af (aa af ae)))) (λ_ _ _ _=>(aV 4 (show (["row","token","slot","word","side"]:LI).Nodup from ⋯))) (cN (show (qAb:LI).length<=4 from ∅)) (λ_ _ _ _=>(iR (cQ (ax J hr (aa (pv 2 (hv:=(cJ (rd bu) ⋯))) (aa (am (au K) (pv 1 (hv:=(cJ (rd bu) ⋯))) (ar fR (pv 4) af)) ae)))))) (λ_ _ _ _=>(EO (oN (Bl (pv 4)) (oN ay (oN (Bl (pv 3 (hv:=(cJ (rd bu) ⋯)))) Gi))))))))))),?_⟩
 let#[h2,l2]:=hk.s2 (by rw[hd];decide);let#[h3,l3]:=hk.wd hd;cbv;refine X1 (su.of hb) (ao (j:=2) h2) ?_;rw?;refine X1 (su.of hb) (ao (j:=3) h3) ?_;rw?;refine yI2 t _ #[rfl,ht,_,rfl,?_];cases Z with
 | h1 n k=>
  rw[KZ '~'];refine X1 (su.of ht) rfl ?_;refine yI2 (aG r 2) n #[rfl,_,rfl,aP (λc=>?_) (λc=>?_)]
  .refine#[∅,λp U=>q p _ (ak U _) U ?_];show _=Sm (HO.lst ((if bi n (aG r 2)=true then [j9 r] else []).map V.str));rw[KZ c];exact ai
  .refine#[∅,λp U=>q p _ (ak U _) U ?_];show _=Sm (HO.lst ((if bi n (aG r 2)=true then [j9 r] else []).map V.str));rw[KQ c];exact ai
 | tie n m o k=>
  rw[KQ '~'];rw?;refine#[∅,λp U=>?_];∎;rename_i H1 s1 e1;refine#[#[_,su.of e1],λL Y=>?_];refine AU (xs:=[V.int 1,V.int 2]) (λi ys H'=>sg H1 H'/\H' L=Sm (.lst ys)/\ys.length<=i/\ys=((if bi n (aG r 2)=true/\1<=i then [("1." : Str)++j9 r] else [])++(if bi m (aG r 2)=true/\2<=i then [("2." : Str)++j9 r] else [])).map V.str)
   #[ak Y _,ai,zu _,'~'] (λi ys H' _ hh=>su.of (hh.1 _ _ e1)) ?_ ?_
  .intro i ys H' v hv hi;refine yB4 λsm hl S O=>?_;have W:=sm _ _ (s1 _ _ ht);have ab:i=0\/i=1:=by have:i<2:=hi;lia
   rcases ab with rfl | rfl
   .cases hv;cbv;refine X1 (su.of W) rfl ?_;refine yI2 (aG r 2) n #[rfl,_,rfl,aP (λc=>?_) (λc=>?_)]
    .rw[Ni];have hz:("1." : Str).length=2:=⋯;refine#[∅,⋯,by rw[hz];exact aJ ∅,aJ (),by rw[JI,hz];exact aJ (),by rw[JI,hz];exact aJ (),?_];have ac:ys=[]:=by cases ys with
      | nil=>rfl
      | cons _ _=>simp at S
     subst ac;exact jD ∅ '~' (aJ ∅) hl #[sm.upd Y _,ai,'~',by simp[c]]
    .exact lx ∅ #[sm,hl,(),by rw[O];simp[c]]
   .cases hv;cbv;refine X1 (su.of W) rfl ?_;refine yI2 (aG r 2) m #[rfl,_,rfl,aP (λc=>?_) (λc=>?_)]
    .rw[Lp];have hz:("2." : Str).length=2:=⋯;refine#[∅,⋯,by rw[hz];exact aJ ∅,aJ (),by rw[JI,hz];exact aJ (),by rw[JI,hz];exact aJ (),?_];exact jD ∅ S (aJ ∅) hl #[sm.upd Y _,ai,by rw[jn];simp;lia,by rw[O];simp[c]]
    .exact lx ∅ #[sm,hl,(),by rw[O];simp[c]]
  .intro ys H';refine yB4 λsm hl S O=>?_;refine q L H' (s1.trans sm) (s1.free Y) ?_;rw[hl,O];unfold F3;simp
def DT:Sp:=λvs H Q _=>∃(b t:so) (r:aC) (ts:LJ) (k N:Nat),vs=[.ref b,.ref t]/\bN H b r/\Do N r/\cF H t ts/\mS ts k/\∀(L:so) (H':Hp),sg H H'->H L=Nn->H' L=Sm (.lst ((gB r ts).map V.str))->Q (.ref L) H'
theorem Cu(D:xn K mg "texts_at" ef) (F:aH P w K mg base 2 "texts_done" qAf A5) (J:aH P w K mg base 1 "is_of_two" ["token"] qO):aH P w K mg base 3 "texts_at" qAf DT:=by
 refine D.cal (k:=2) va (λf ab A outer s0 H vs Q E hr h=>?_);revert h;refine yF6 λb t r ts k N=>yB6 ?_;rintro rfl W Z Y S q;refine⟨_,(ah (aS (az aM (am (au K) (pv 0) af) ay (aB _)) (aj (aA (ax F hr (aa (pv 0) (aa (pv 1) ae))))) aL)
   (ah (aS (az rH (am (au K) (pv 0) af) ay (aB _)) (aj (aA (aI ae))) aL)
   (ah (aS (i0 (cQ (ax J hr (aa (pv 1) ae)))) (aj (aA (aI (aa ay ae)))) aL)
   (aj (aA (ft (az aM (am (au K) (pv 1) af) af (aB _)) (aI (aa ay (aa ay ae))) (aI (aa ay (aa ay ae))))))))),?_⟩
 unfold gB at q;cbv;refine X1 (su.of W) (ao (j:=0) Z.hd) ?_;cbv;refine aP (λc=>?_) (λc=>?_)
 .rw[KZ c]at q;exact yI6 b t r ts k N #[rfl,W,Z,c,Y,S,q]
 .rw[KQ c]at q;rw?;refine X1 (su.of W) (ao (j:=0) Z.hd) ?_;cbv;refine aP (λd=>?_) (λd=>?_)
  .rw[KQ (by simpa using d)]at q;exact#[∅,λp O=>q p _ (ak O _) O ai]
  .rw[KZ (by simpa using d)]at q;rw?;refine yI2 t _ #[rfl,Y,_,rfl,?_];cases S with
   | h1 n k=>
    rw[KZ '~'];exact#[∅,λp O=>q p _ (ak O _) O ai]
   | tie n m o k=>
    rw[KQ '~'];rw?;refine X1 (su.of Y) rfl ?_;rw[show iN o=V.int (o:Int) from rfl];cbv;have U:∀(L:so) (H':Hp),sg H H'->H L=Nn->H' L=Sm (.lst (((if o=1 then qAx else qAy):LI).map V.str))->Q (.ref L) H':=q;refine aP (λe=>?_) (λe=>?_)
    .rw[KZ ()]at U;exact#[∅,λp O=>U p _ (ak O _) O ai]
    .rw[KQ ()]at U;exact#[∅,λp O=>U p _ (ak O _) O ai]
def oQ:Sp:=λvs H Q _=>∃(p b t:so) (rl:Rl) (r:aC) (ts:LJ) (k N:Nat),vs=[.ref p,.ref b,.ref t]/\CU H p rl/\dD rl/\k<rl.rs.length/\bN H b r/\Do N r/\cF H t ts/\mS ts k/\∀H':Hp,sg H H'->Q (du (after rl k (gB r ts))) H'
theorem BI(D:xn K mg "room_behind" c_) (F:aH P w K mg base 2 "room_from" qAt (Aj K)) (J:aH P w K mg base 3 "texts_at" qAf DT):aH P w K mg base 4 "room_behind" qAl oQ:=by
 refine D.cal (k:=3) n9 (λf ab A outer s0 H vs Q E U h=>?_);revert h;refine yF8 λp b t rl r ts k N=>yB9 ?_;rintro rfl Z ok S hb hk Y O q;refine#[_,(aj (aA (ax F U (aa (pv 0) (aa (am (au K) (pv 2) (fH eP af)) (aa (ax J U (aa (pv 1) (aa (pv 2) ae))) ae)))))),?_];cbv;refine X1 (su.of Y) (by cases O<;>rfl:cM (ts.map iN) (-1)=Sm (.int (k:Int))) ?_;refine yI6 b t r ts k N #[rfl,hb,hk,Y,O,λL H1 W hL e1=>?_];exact yI5 p L rl k _ #[rfl,Z.mono W,ok,S,ud.of e1,q H1 W]
inductive kq (sd:Int) (Z:Nat):LJ->Prop
 | h1 (n k:Nat):sd=1->k<Z->kq sd Z [n,k]
 | one (n:Nat):sd=2->kq sd Z [n]
 | two (n m o:Nat):sd=2->kq sd Z [n,m,o]
 | tie (n m o k:Nat):sd=2->k<Z->kq sd Z [n,m,o,k]
def gq(rl:Rl)(s:Nat)(tss:List LJ):List LJ:=if rl.s=1 then (match step rl 0 "open" with | some j=>[[2^s,j]] | none=>[]) else [2^s]::tss.flatMap λts=>if ts.length=1 then [[aX (ts.getD 0 0) s,2^s,1],[2^s,aX (ts.getD 0 0) s,2]] else []
def gb(s t:Nat)(tss:List LJ):List LJ:=(tss.filter λts=>decide (ts.length=3)&&bi (ts.getD 0 0) s&&bi (ts.getD 1 0) t).map (· ++ [0])
def yl(H:Hp)(bs:LL)(tss:List LJ):Prop:=bs.length=tss.length/\∀(i:Nat) b ts,bs[i]?=Sm b->tss[i]?=Sm ts->cF H b ts
theorem yl.nil(H:Hp):yl H [] []:=#[rfl,λi b ts h=>by simp at h]
theorem yl.same{bs:LL}{F:List LJ}(h:yl H bs F)(s:sg H H'):yl H' bs F:=#[h.1,λi b ts h1 h2=>s _ _ (h.2 i b ts h1 h2)]
theorem yl.snoc{H:Hp}{bs:LL}{F:List LJ}{b:so}{ts:LJ}(h:yl H bs F)(O:cF H b ts):yl H (bs++[b]) (F++[ts]):=by
 refine#[by rw[jn,jn,h.1];rfl,λi c J h1 h2=>?_];rcases HU i bs.length with z | z
 .rw[xR z]at h1;rw[xR (by rw[<-h.1];exact z)]at h2;exact h.2 i c J h1 h2
 .rw[uC z]at h1;rw[uC (by rw[<-h.1];exact z),<-h.1]at h2;cases e:i-bs.length with
  | zero=>
   rw[e]at h1 h2;obtain rfl:=Option.some.inj h1;obtain rfl:=Option.some.inj h2;exact O
  | succ n=>rw[e]at h1;simp at h1
theorem oV{l a:so}{cs:LL}{F:List LJ}(ts:LJ)(sm:sg H H')(W:H l=Nn)(hl:H' l=Sm (.lst (cs.map V.ref)))(hT:yl H' cs F)(S:∀c∈cs,H c=Nn/\c≠l)(U:H' a=Nn) :
  sg H (upd (upd H' a (.tup (ts.map iN))) l (.lst (cs.map V.ref++[V.ref a])))/\upd (upd H' a (.tup (ts.map iN))) l (.lst (cs.map V.ref++[V.ref a])) l=Sm (.lst ((cs++[a]).map V.ref))/\yl (upd (upd H' a (.tup (ts.map iN))) l (.lst (cs.map V.ref++[V.ref a]))) (cs++[a]) (F++[ts])/\∀c∈cs++[a],H c=Nn/\c≠l:=by
 have O:a≠l:=λz=>by rw[z,hl]at U;cases U
 have Z:=ak U (.tup (ts.map iN));have off:∀c J,c≠l->upd H' a (.tup (ts.map iN)) c=J->upd (upd H' a (.tup (ts.map iN))) l (.lst (cs.map V.ref++[V.ref a])) c=J:=λc J Y e=>by rw[aw Y];exact e
 refine#[(sm.trans Z).upd W _,by rw[ai,yH];rfl,yl.snoc #[hT.1,λi b J h1 h2=>?_] (off a _ O ai),λc Y=>?_]
 .exact off b _ (S b (me h1)).2 (Z _ _ (hT.2 i b J h1 h2))
 .rcases K8.mp Y with z | z
  .exact S c z
  .rw[KU.mp z];exact#[sm.free U,O]
def AB:Sp:=λvs H Q _=>∃(p L:so) (rl:Rl) (s:Nat) (bs:LL) (tss:List LJ),vs=[.ref p,.int (s:Int),.ref L]/\CU H p rl/\dD rl/\s<9000/\H L=Sm (.lst (bs.map V.ref))/\yl H bs tss/\tss.length<=7/\
 ∀(L':so) (H':Hp) (cs:LL),sg H H'->H L'=Nn->H' L'=Sm (.lst (cs.map V.ref))->yl H' cs (gq rl s tss)->(∀c∈cs,H c=Nn)->Q (.ref L') H'
theorem Fk(D:xn K mg "begun_by_open" bb) (ac:wAK mg) (F:aH P w K mg base 1 "next_room" qAk uq) (O:aH P w K mg base 1 "without" qAS kC):aH P w K mg base 2 "begun_by_open" qAq AB:=by
 refine D.cal (k:=1) B1 (λf bc A outer s0 H vs Q E hr h=>?_);revert h;refine yF6 λp L rl s bs J=>yB8 ?_;rintro rfl hp hok hs hL hT h7 q;refine⟨_,(ah (av 3 B1.nd (ar fN af (pv 1)))
   (ah (aS (az aM (am (au K) (pv 0) af) af (aB _)) (ah (av 4 B1.nd (ax F hr (aa (pv 0) (aa af (aa ay ae)))))
   (aj (aA (ft (az jH (pv 4) dJ (aB _)) (aI ae) (aI (aa (aN (aa (pv 3) (aa (pv 4) ae))) ae)))))) aL)
   (ah (av 5 B1.nd (aI (aa (aN (aa (pv 3) ae)) ae)))
   (ah (bT xm rfl (bJ K (pv 2)) (aV 6 B1.nd) (aj (aS (az aM (br (aU K) ac bG (aa (pv 6) ae)) af (aB _)) (ah (av 7 B1.nd (ax O hr (aa (pv 1) (aa (am (au K) (pv 6) af) ae))))
   (ah (bo (bB K xl mB mF bw (pv 5) (aa (aN (aa (pv 7) (aa (pv 3) (aa af ae)))) ae)))
   (aj (bo (bB K xl mB mF bw (pv 5) (aa (aN (aa (pv 3) (aa (pv 7) (aa af ae)))) ae)))))) aL)))
   (aj (aA (pv 5))))))),?_⟩
 cbv;refine#[#[(),(),∅],?_];have e2:(1:Int)*2^(Int.toNat (s:Int))=((2^s:Nat):Int):=by rw[mi];push_cast;lia
 rw[e2];refine yE3 (id hp) λpw pr as=>yB3 λa5 a8 a9=>?_;rw?;refine X1 (su.of a5) (ao (j:=0) (by rfl)) ?_;cbv;refine aP (λc1=>?_) (λc1=>?_)
 .cbv;refine yI4 p rl 0 ("open") #[rfl,hp,hok,by have:=hok.n0;lia,?_];have eb:gq rl s J=(match step rl 0 "open" with | some j=>[[2^s,j]] | none=>[]):=by unfold gq;rw[KZ c1]
  cases hst:step rl 0 "open" with
  | none=>
   rw?;rw[KZ (show du Nn=V.non from rfl)];refine#[∅,λu hu=>q u _ [] (ak hu _) hu ai ?_ (λc Z=>nomatch Z)];rw[eb,hst];exact yl.nil _
  | some j=>
   rw?;rw[KQ (by simp[du])];refine#[∅,λt ht=>?_];have s1:=ak ht (.tup [V.int (2^s:Nat),V.int (j:Int)]);have e1:cF (upd H t (.tup [V.int (2^s:Nat),V.int (j:Int)])) t [2^s,j]:=ai;refine#[∅,λu hu=>q u _ [t] (s1.trans (ak hu _)) (s1.free hu) ai ?_ (λc Z=>by rw[KU.mp Z];exact ht)];rw[eb,hst];exact(yl.nil _).snoc ((ak hu _) _ _ e1)
 .rw?;refine#[∅,λt ht=>#[∅,λl hl=>?_]];have s1:=ak ht (.tup [V.int (2^s:Nat)]);have e1:cF (upd H t (.tup [V.int (2^s:Nat)])) t [2^s]:=ai;have ad:H l=Nn:=s1.free hl;have a4:t≠l:=λz=>by rw[z,ai]at hl;cases hl
  have s2:=s1.trans (ak hl (.lst [V.ref t]));have ag:=ak hl (.lst [V.ref t]) _ _ e1;have e3:upd (upd H t (.tup [V.int (2^s:Nat)])) l (.lst [V.ref t]) l=Sm (.lst ([t].map V.ref)):=ai;generalize upd (upd H t (.tup [V.int (2^s:Nat)])) l (.lst [V.ref t])=H2 at s2 ag e3 |-;rw?;refine#[#[_,ud.of (s2 _ _ hL)],?_]
  refine b6 (xs:=bs.map V.ref) (λi σ H'=>∃(cs:LL) (o6 o7:LR),σ=[Sm (.ref p),Sm (.int (s:Int)),Sm (.ref L),Sm (.int (2^s:Nat)),Nn,Sm (.ref l),o6,o7]/\sg H H'/\H' l=Sm (.lst (cs.map V.ref))/\
   yl H' cs ([2^s]::(J.take i).flatMap λts=>if ts.length=1 then [[aX (ts.getD 0 0) s,2^s,1],[2^s,aX (ts.getD 0 0) s,2]] else [])/\(∀c∈cs,H c=Nn/\c≠l)/\cs.length<=1+2*i)
   (yI3 ([t]) Nn Nn #[rfl,s2,e3,(yl.nil _).snoc ag,λc Z=>by rw[KU.mp Z];exact#[ht,a4],'~']) (λi σ H' _ hh=>by revert hh;refine yF3 λ_ _ _=>yB3 λ_ z _=>?_;exact ud.of (z _ _ hL)) ?_ ?_
  .intro i v σ H' hv;refine yF3 λcs o6 o7=>yB6 ?_;rintro rfl sm S U W a6;have hi:i<bs.length:=by have:=(KO.mp hv).1;simpa using this
   rw[yf,zg hi]at hv;cases hv;have a3:i<J.length:=by rw[<-hT.1];exact hi
   have ab:=hT.2 i _ _ (zg hi) (zg a3);have a7:J.take (i+1)=J.take i++[J[i]]:=by rw[rT,zg a3];rfl
   rw[a7,zbn,List.flatMap_singleton,<-ir];generalize J[i]=ts at ab |-;generalize bs[i]=b at ab |-;have Y:H' b=Sm (.tup (ts.map iN)):=sm _ _ ab
   cbv;refine#[_,.inr (su.of Y),?_];rw[ze];refine aP (λc2=>?_) (λc2=>?_)
   .let#[n,rfl]:=List.length_eq_one_iff.mp (show ts.length=1 from ());refine X1 (su.of Y) (ao (j:=0) (by rfl)) ?_;refine yI2 s n #[rfl,(),?_];rw?;refine#[#[_,ud.of S],∅,λa ha=>#[_,ak ha _ _ _ S,by rw[ze];exact aJ (),?_]];refine yA4 (oV [aX n s,2^s,1] sm ad S U W ha) λsA lA tA cA=>?_;rw[show [V.int ((aX n s:Nat):Int),V.int ((2^s:Nat):Int),V.int 1]=[aX n s,2^s,1].map iN from rfl];generalize upd (upd H' a (.tup ([aX n s,2^s,1].map iN))) l (.lst (cs.map V.ref++[V.ref a]))=H3 at sA lA tA |-;rw?;refine⟨⟨_,ud.of lA⟩,∅,λa2 al=>⟨_,ak al _ _ _ lA,by rw[ze,jn];exact aJ (by simp;lia),?_⟩⟩
    refine yA4 (oV [2^s,aX n s,2] sA ad lA tA cA al) λsB lB tB cB=>?_;refine yI3 (cs++[a]++[a2]) _ _ #[rfl,sB,lB,?_,cB,by simp;lia];have eq:([2^s]::((J.take i).flatMap λts=>if ts.length=1 then [[aX (ts.getD 0 0) s,2^s,1],[2^s,aX (ts.getD 0 0) s,2]] else []))++[[aX n s,2^s,1]]++[[2^s,aX n s,2]]=[2^s]::(((J.take i).flatMap λts=>if ts.length=1 then [[aX (ts.getD 0 0) s,2^s,1],[2^s,aX (ts.getD 0 0) s,2]] else [])++[[aX n s,2^s,1],[2^s,aX n s,2]]):='~';rw[eq]at tB;exact tB
   .refine yI3 cs (Sm (.ref b)) o7 #[rfl,sm,S,?_,W,()];rw[KQ (),sF];exact U
  .intro σ H';refine yF3 λcs o6 o7=>yB6 ?_;rintro rfl sm S U W a6;rw?;refine q l H' cs sm ad S ?_ λc Z=>(W c Z).1;rw[ze,hT.1,tO]at U;unfold gq;rw[KQ c1];exact U
def Bc:Sp:=λvs H Q _=>∃(L:so) (s t:Nat) (bs:LL) (tss:List LJ),vs=[.int (s:Int),.int (t:Int),.ref L]/\s<9000/\t<9000/\H L=Sm (.lst (bs.map V.ref))/\yl H bs tss/\tss.length<=7/\
 ∀(L':so) (H':Hp) (cs:LL),sg H H'->H L'=Nn->H' L'=Sm (.lst (cs.map V.ref))->yl H' cs (gb s t tss)->(∀c∈cs,H c=Nn)->Q (.ref L') H'
theorem E8(D:xn K mg "begun_by_tie" aW) (a3:wAK mg) (S:aH P w K mg base 1 "is_in" qAS mZ):aH P w K mg base 2 "begun_by_tie" qAr Bc:=by
 refine D.cal (k:=1) GE (λf be A outer s0 H vs Q E hr h=>?_);revert h;refine yF5 λL s t bs O=>yB7 ?_;rintro rfl hs ht hL hT h7 q;refine⟨_,(ah (iA (C5.to (fsc:=(rd aW)) (N:=qAJ) (N0:=qAJ) (T:=["token"])) rfl GE.nd (i:=3) rfl Re (bJ K (pv 2)) (λ_ _ _ _=>(aV 4 (show (qAn:LI).Nodup from ⋯))) (cN (show (qAJ:LI).length<=4 from ∅)) (λ_ _ _ _=>(iR (az aM (br (aU K) a3 bG (aa (pv 4) ae)) af (aB _)))) (λ_ _ _ _=>(pv 4)))
   (aj (aA (eV (C5.to (fsc:=(rd aW)) (N:=qAJ) (N0:=qAJ) (T:=["token"])) rfl (bJ K (pv 3)) (λ_ _ _ _=>(aV 4 (show (qAn:LI).Nodup from ⋯))) (cN (show (qAJ:LI).length<=4 from ∅)) (λ_ _ _ _=>(iR (PW.pt' (cw (cQ (ax S hr (aa (pv 0 (hv:=(cJ (rd aW) ⋯))) (aa (am (au K) (pv 4) af) ae)))) (cS (cQ (ax S hr (aa (pv 1 (hv:=(cJ (rd aW) ⋯))) (aa (am (au K) (pv 4) af) ae))))))))) (λ_ _ _ _=>(ar (ee K) (pv 4) (aN (aa af ae)))))))),?_⟩
 cbv;refine#[#[_,ud.of hL],λD1 bc=>?_];have ab:∀(F:List LJ) i (h:i<F.length),F.take (i+1)=F.take i++[F[i]]:=λF i h=>by rw[rT,zg h];rfl
 have hl:=hT.1;refine jY (xs:=bs.map V.ref) (λi ys H'=>sg H H'/\∃cs:LL,ys=cs.map V.ref/\H' D1=Sm (.lst (cs.map V.ref))/\cs.length<=i/\yl H cs ((O.take i).filter λts=>decide (ts.length=3))) #[ak bc _,[],rfl,ai,zu _,yl.nil _] (λi ys H' _ hh=>ud.of (hh.1 _ _ hL)) ?_ ?_
 .intro i ys H' v hv hi;refine yB2 λsm=>yF1 λcs=>yB4 ?_;rintro rfl hD a4 W;have Z:i<bs.length:=by simpa using hi
  rw[yf,zg Z]at hv;cases hv;have U:i<O.length:=()
  have J:=hT.2 i _ _ (zg Z) (zg U);have e:=ab O i U;generalize O[i]=ts at J e;generalize bs[i]=b at J |-;cbv;refine#[_,.inr (su.of (sm _ _ J)),?_]
  rw[ze];refine aP (λc=>?_) (λc=>?_)
  .refine jD hi (by rw[ze];exact a4) (aJ (by rw[ze];lia)) hD #[sm.upd bc _,cs++[b],'~',by rw[ai];simp,by simp;lia,?_];rw[e,IH,show [ts].filter (λts=>decide (ts.length=3))=[ts] by simp;lia];exact W.snoc J
  .refine lx hi #[sm,cs,rfl,hD,(),?_];rw[e,IH,show [ts].filter (λts=>decide (ts.length=3))=[] by simp;lia,sF];exact W
 .intro ys H1;refine yB2 λs1=>yF1 λcs=>yB4 ?_;rintro rfl hD a4 W;rw[ze,hl,tO]at W;rw[ze]at a4;have ag:=W.same s1;have h3:∀F∈(O.filter λts=>decide (ts.length=3)),F.length=3:=λF hu=>of_decide_eq_true (Lh.mp hu).2;have eb:gb s t O=((O.filter λts=>decide (ts.length=3)).filter λts=>bi (ts.getD 0 0) s&&bi (ts.getD 1 0) t).map (· ++ [0]):=by
   unfold gb;rw[List.filter_filter];congr 1;refine List.filter_congr λx _=>?_;cases decide (x.length=3)<;>simp
  generalize (O.filter λts=>decide (ts.length=3))=F at ag h3 eb;rw?;refine#[#[_,ud.of hD],λD2 a5=>?_];refine jY (xs:=cs.map V.ref) (λi ys H'=>sg H1 H'/\∃ds:LL,ys=ds.map V.ref/\H' D2=Sm (.lst (ds.map V.ref))/\ds.length<=i/\yl H' ds (((F.take i).filter λts=>bi (ts.getD 0 0) s&&bi (ts.getD 1 0) t).map (· ++ [0]))/\∀c∈ds,H1 c=Nn/\c≠D2) #[ak a5 _,[],rfl,ai,zu _,yl.nil _,λc hc=>nomatch hc] (λi ys H' _ hh=>ud.of (hh.1 _ _ hD)) ?_ ?_
  .intro i ys H' v hv hi;refine yB2 λsm=>yF1 λds=>yB5 ?_;rintro rfl Y a9 ac al;have Z:i<cs.length:=by simpa using hi
   rw[yf,zg Z]at hv;cases hv;have U:i<F.length:=by have:=ag.1;lia
   have J:=ag.2 i _ _ (zg Z) (zg U);have e:=ab F i U;have a6:=h3 F[i] (xF U);generalize F[i]=ts at J e a6;generalize cs[i]=b at J |-;have ad:H' b=Sm (.tup (ts.map iN)):=sm _ _ J
   obtain⟨x,y,z,rfl⟩ : ∃x y z,ts=[x,y,z]:=by
    match ts,a6 with
    | [x,y,z],_=>exact yI3 x y z rfl
   cbv;have as:(bi x s&&bi y t)=false->qP (cs.map V.ref).length i (λi ys H'=>sg H1 H'/\∃ds:LL,ys=ds.map V.ref/\H' D2=Sm (.lst (ds.map V.ref))/\ds.length<=i/\yl H' ds (((F.take i).filter λts=>bi (ts.getD 0 0) s&&bi (ts.getD 1 0) t).map (· ++ [0]))/\∀c∈ds,H1 c=Nn/\c≠D2) (ds.map V.ref) H':=λhz=>by
    refine lx hi #[sm,ds,rfl,Y,(),?_,al];rw[e,IH,show [[x,y,z]].filter (λts=>bi (ts.getD 0 0) s&&bi (ts.getD 1 0) t)=[] by simpa using hz,sF];exact ac
   refine X1 (su.of ad) (ao (j:=0) (by rfl)) (yI2 s x #[rfl,_,rfl,aP (λc=>?_) (λc=>as (by rw[Ll.mpr c];rfl))]);refine X1 (su.of ad) (ao (j:=1) (by rfl)) (yI2 t y #[rfl,_,rfl,aP (λc'=>?_) (λc'=>as (by rw[Ll.mpr c',Bool.and_false]))]);refine#[∅,λa1 a7=>yI2 _ _ #[su.of (ak a7 _ _ _ ad),su.of ai,'~',(by show 4<=L_;decide),?_]];refine#[λz=>absurd z '~',λ_ a2 a8=>?_];have sa:=ak a7 (.tup [V.int 0]);refine yA4 (oV [x,y,z,0] (sm.trans sa) a5 (sa _ _ Y) (ac.same sa) al a8) λsB lB tB cB=>?_;refine jD hi (by rw[ze];exact a9) (aJ (by rw[ze];lia)) (ak a8 _ _ _ (sa _ _ Y)) #[sB,ds++[a2],'~',lB,by simp;lia,?_,cB];rw[e,IH,show [[x,y,z]].filter (λts=>bi (ts.getD 0 0) s&&bi (ts.getD 1 0) t)=[[x,y,z]] by simp[c,c'],yH];exact tB
  .intro ys H2;refine yB2 λs2=>yF1 λds=>yB5 ?_;rintro rfl Y a9 ac al;rw[ze,ag.1,tO,<-eb]at ac;exact q D2 H2 ds (s1.trans s2) (s1.free a5) Y ac λc hc=>s1.free (al c hc).1
def cE(rl:Rl)(r:aC)(tss:List LJ):List LJ:=if cO r = "open" then gq rl (aG r 2) tss else if cO r = "tie" then gb (aG r 2) (aG r 3) tss else []
noncomputable def Hh(v:V):Int:=match v with
 | .int i=>i
 | _=>0
noncomputable def f7(H:Hp)(q:so):LS:=match H q with
 | some (.tup xs)=>xs.map Hh
 | _=>[]
noncomputable def zN(ts:LJ):LS:=ts.map Int.ofNat
theorem ou(h:cF H q ts):f7 H q=zN ts/\H q=Sm (.tup ((f7 H q).map V.int)):=by
 have e:f7 H q=zN ts:=by
  unfold f7 zN;rw[show H q=Sm (.tup (ts.map iN)) from h];show (ts.map iN).map Hh=_;rw[oq];rfl
 refine#[e,?_];rw[e,show H q=Sm (.tup (ts.map iN)) from h];unfold zN;rw[oq];rfl
theorem As:∀ {a b:LJ},zN a=zN b->a=b
 | [],[],_=>rfl
 | [],_::_,h=>nomatch h
 | _::_,[],h=>nomatch h
 | x::a,y::b,h=>by
  unfold zN at h;rw[yX,yX]at h;injection h with h1 h2
  rw[Int.ofNat.inj h1,As h2]
theorem De(J:Rl)(s:Nat)(F:List LJ):(gq J s F).length<=1+2*F.length:=by
 unfold gq;split
 .split<;>simp
 .rw[ye];have:∀l:List LJ,(l.flatMap λts=>if ts.length=1 then [[aX (ts.getD 0 0) s,2^s,1],[2^s,aX (ts.getD 0 0) s,2]] else []).length<=2*l.length:=by
   intro l
   induction l with
   | nil=>simp
   | cons x l ih=>
    rw[KD,jn,ye];have h2:(if x.length=1 then [[aX (x.getD 0 0) s,2^s,1],[2^s,aX (x.getD 0 0) s,2]] else []).length<=2:=by split<;>simp
    lia
  have:=this F;lia
theorem mo(J:Rl)(r:aC)(F:List LJ)(h:F.length<=1):(cE J r F).length<=3:=by
 unfold cE;split
 .have:=De J (aG r 2) F;lia
 .split
  .unfold gb;rw[ze];have:=List.length_filter_le (λts:LJ=>decide (ts.length=3)&&bi (ts.getD 0 0) (aG r 2)&&bi (ts.getD 1 0) (aG r 3)) F;lia
  .simp
theorem ET(J:Rl)(r:aC)(F:List LJ)(ts:LJ)(h:ts∈cE J r F):ts≠[]:=by
 unfold cE at h;rintro rfl;split at h
 .unfold gq at h;split at h
  .split at h<;>simp at h
  .rcases K7.mp h with z | z
   .cases z
   .let#[x,_,hx]:=K2.mp z;split at hx<;>simp at hx
 .split at h
  .unfold gb at h;let#[x,_,hx]:=K3.mp h;simp at hx
  .cases h
theorem A6{w:Lu}{H2:Hp}{Bg:so}{cs:LL}{kk:List LJ}{Q:VK}(as:H2 Bg=Sm (.lst (cs.map V.ref)))(U:yl H2 cs kk)(a4:kk.length<=3)(al:∀ts∈kk,ts≠[])
  (q:∀(l2:so) (H':Hp) (F:LL) (Z:List LJ),sg H2 H'->H2 l2=Nn->H' l2=Sm (.lst (F.map V.ref))->yl H' F Z->Z.length<=3->(∀k,k∈Z ↔ k∈kk)->(∀x∈F,x∈cs)->Q (.ref l2) H') :
  yY K (iF w) [.ref Bg] H2 λv H'=>kz K (iF w) [v] H' Q:=by
 have a3:=U.1;have at_:∀x∈cs,∃ts,cF H2 x ts/\ts∈kk:=λx hx=>by
  let#[j,hj,e]:=Le.mp hx;have S:j<kk.length:=()
  exact#[_,U.2 j x _ (by rw[zg hj,e]) (zg S),xF S]
 have gU:∀x∈cs,H2 x=Sm (.tup ((f7 H2 x).map V.int))/\f7 H2 x≠[]:=λx hx=>by
  let#[ts,t1,t2]:=at_ x hx;let#[k1,k2]:=ou t1;refine#[k2,?_];rw[k1];intro z;exact al ts t2 (As (b:=[]) z)
 refine yI3 Bg cs (f7 H2) #[rfl,ud.of as,λx hx=>su.of (gU x hx).1,(),λl ab hl Y ag hle=>?_];have s3:=ak hl (iF w l ab);refine yI3 l ab (f7 H2) #[rfl,ai,(),λx hx=>#[su.of (s3 _ _ (gU x (Y x hx)).1),(gU x (Y x hx)).2],λl2 F ad J=>?_];have s4:=s3.trans (ak ad (.lst (F.map V.ref)));have O:∀x∈F,x∈cs:=λx hx=>Y x (J.mem_iff.mp hx);have fz:∀k,(zN k).map Int.toNat=k:=λk=>by unfold zN;rw[oq];exact List.map_id k
 have hf:∀x∈cs,∃ts,cF H2 x ts/\ts∈kk/\(f7 H2 x).map Int.toNat=ts/\f7 H2 x=zN ts:=λx hx=>by
  let#[ts,t1,t2]:=at_ x hx;have k1:=(ou t1).1;exact#[ts,t1,t2,by rw[k1,fz],k1]
 refine q l2 _ F (F.map λx=>(f7 H2 x).map Int.toNat) s4 (s3.free ad) ai #[by rw[ze],λj x ts h1 h2=>?_] ?_ (λk=>#[λac=>?_,λac=>?_]) O
 .rw[yf,h1]at h2;obtain rfl:=Option.some.inj h2;refine yE1 (hf x (O x (me h1))) λts=>yB4 λt1 _ t3 _=>?_;show cF _ x ((f7 H2 x).map Int.toNat);rw[t3];exact s4 _ _ t1
 .rw[ze,J.length_eq];lia
 .let#[x,hx,rfl]:=K3.mp ac;refine yE1 (hf x (O x hx)) λts=>yB4 λ_ t2 t3 _=>?_;rw[t3];exact t2
 .let#[j,hj,e]:=Le.mp ac;have S:j<cs.length:=()
  have t1:=U.2 j _ _ (zg S) (by rw[zg hj,e]);have hm:zN k∈ab.map (f7 H2):=(ag (zN k)).mpr (K3.mpr #[cs[j],xF S,(ou t1).1]);let#[x,hx,ex]:=K3.mp hm;exact K3.mpr #[x,J.mem_iff.mpr hx,by rw[ex,fz]]
def ug:Sp:=λvs H Q _=>∃(c p L:so) (R:List aC) (rl:Rl) (r:aC) (i N:Nat) (bs:LL) (tss:List LJ),vs=[.ref c,.ref p,.int (i:Int),.ref L]/\B5 H c R/\R[i]?=Sm r/\Do N r/\N<=9000/\CU H p rl/\dD rl/\H L=Sm (.lst (bs.map V.ref))/\yl H bs tss/\tss.length<=1/\
 ∀(L':so) (H':Hp) (cs:LL) (kss:List LJ),sg H H'->H L'=Nn->H' L'=Sm (.lst (cs.map V.ref))->yl H' cs kss->kss.length<=3->(∀k,k∈kss ↔ k∈cE rl r tss)->(∀c∈cs,H c=Nn)->Q (.ref L') H'
theorem Fy(D:xn K mg "begins_at" bS) (Z:mg "set" = Nn) (O:mg "sorted" = Nn) (F:aH P w K mg base 2 "begun_by_open" qAq AB) (J:aH P w K mg base 2 "begun_by_tie" qAr Bc):aH P w K mg base 3 "begins_at" qAc ug:=by
 refine D.cal (k:=2) Dq (λf a8 A outer s0 H vs Q E hr h=>?_);revert h;refine yF10 λc p L R rl r i N bs U=>yB11 ?_;rintro rfl hR hi hk hN hp hok hL hT h7 q;refine⟨_,(ah (av 4 Dq.nd (am (au K) (pv 0) (pv 2)))
   (ah (av 5 Dq.nd (aI ae))
   (ah (aS (az aM (am (au K) (pv 4) af) ay (aB _)) (aj (av 5 Dq.nd (ax F hr (aa (pv 1) (aa (am (au K) (pv 4) af) (aa (pv 3) ae)))))) (aj (aS (az aM (am (au K) (pv 4) af) ay (aB _)) (aj (av 5 Dq.nd (ax J hr (aa (am (au K) (pv 4) af) (aa (am (au K) (pv 4) af) (aa (pv 3) ae)))))) aL)))
   (aj (aA (br (nY K w hr) O jg (aa (fS (xY K w hr) Z ue (aa (pv 5) ae)) ae))))))),?_⟩
 refine yE2 (jE hR hi) λas b=>yB4 λa1 a2 a3 hb=>?_;cbv;refine X2 (ud.of a1) (ao (by rw[yf,a3];rfl)) ?_;rw?;refine#[∅,λB hB=>?_];∎;rename_i H1 s1 e1;have e1:H1 B=Sm (.lst (([]:LL).map V.ref)):=e1;refine dX (λσ' H'=>∃(Bg:so) (cs:LL),σ'=[Sm (.ref c),Sm (.ref p),Sm (.int (i:Int)),Sm (.ref L),Sm (.ref b),Sm (.ref Bg)]/\sg H H'/\H' Bg=Sm (.lst (cs.map V.ref))/\yl H' cs (cE rl r U)/\∀c∈cs,H c=Nn) (λk W=>?_) ?_
 .cbv;refine X1 (su.of (s1 _ _ hb)) (ao (j:=0) hk.hd) ?_;cbv;refine aP (λc1=>?_) (λc1=>?_)
  .let#[h2,l2]:=hk.s2 (by rw[c1];decide);refine X1 (su.of (s1 _ _ hb)) (ao (j:=2) h2) (yI6 p L rl (aG r 2) bs U #[rfl,hp.mono s1,hok,(),s1 _ _ hL,hT.same s1,(),λL' H' cs sm ag e S hc=>W _ _ (yI2 L' cs #[rfl,s1.trans sm,e,?_,λc Y=>s1.free (hc c Y)])]);unfold cE;rw[KZ c1];exact S
  .refine X1 (su.of (s1 _ _ hb)) (ao (j:=0) hk.hd) ?_;cbv;refine aP (λc2=>?_) (λc2=>?_)
   .let#[h2,l2]:=hk.s2 (by rw[c2];decide);let#[h3,l3]:=hk.s3 (by rw[c2];decide);refine X1 (su.of (s1 _ _ hb)) (ao (j:=2) h2) (X1 (su.of (s1 _ _ hb)) (ao (j:=3) h3) (yI5 L (aG r 2) (aG r 3) bs U #[rfl,(),(),s1 _ _ hL,hT.same s1,(),λL' H' cs sm ag e S hc=>W _ _ (yI2 L' cs #[rfl,s1.trans sm,e,?_,λc Y=>s1.free (hc c Y)])]));unfold cE;rw[KQ c1,KZ c2];exact S
   .refine W _ _ (yI2 B ([]) #[rfl,s1,e1,?_,λc hc=>nomatch hc]);unfold cE;rw[KQ c1,KQ c2];exact yl.nil _
 .intro σ' H2;refine yF2 λBg cs=>yB5 ?_;rintro rfl s2 a6 S a4;rw?;exact A6 a6 S (mo rl r U h7) (ET rl r U) λl2 H' a7 al sm a5 e2 ac ad hm ab=>q l2 H' a7 al (s2.trans sm) (s2.free a5) e2 ac ad hm λx hx=>a4 x (ab x hx)
theorem AM(F:LJ)(k:Nat):dO ((F++[k]).map iN) Nn (Sm (-1))=F.map iN:=by
 unfold dO;have h1:HT.sIx ((F++[k]).map iN).length 0 Nn=0:=rfl;have h2:HT.sIx ((F++[k]).map iN).length ((F++[k]).map iN).length (Sm (-1))=F.length:=by
  rw[ze,jn,Jj];unfold HT.sIx;simp;lia
 rw[h1,h2,List.drop_zero,Nat.sub_zero,yH,List.take_left' (by rw[ze])]
def fP(rl:Rl)(r:aC)(ts:LJ):Option LJ:=if cO r = "end" then Nn else match ts with
 | [n]=>Sm [ci r n]
 | [n,k]=>(after rl k (gB r [n,k])).map λj=>[ci r n,j]
 | [n,m,o]=>Sm [ci r n,ci r m,o]
 | [n,m,o,k]=>(after rl k (gB r [n,m,o,k])).map λj=>[ci r n,ci r m,o,j]
 | _=>Nn
def Ai:Sp:=λvs H Q _=>∃(c p t:so) (R:List aC) (rl:Rl) (r:aC) (i N:Nat) (ts:LJ),vs=[.ref c,.ref p,.int (i:Int),.ref t]/\B5 H c R/\R[i]?=Sm r/\CU H p rl/\dD rl/\kq rl.s rl.rs.length ts/\Do N r/\N<=1000000/\cF H t ts/\∀(H':Hp),sg H H'->(fP rl r ts=Nn->Q .non H')/\∀(us:LJ) (u:so),fP rl r ts=Sm us->H u=Nn->cF H' u us->Q (.ref u) H'
theorem FH(D:xn K mg "behind_at" bf) (ad:mg "tuple" = Nn) (S:aH P w K mg base 1 "is_of_two" ["token"] qO) (U:aH P w K mg base 1 "has_room" ["token"] D7) (O:aH P w K mg base 2 "held_behind" qAw Ar) (J:aH P w K mg base 4 "room_behind" qAl oQ):aH P w K mg base 5 "behind_at" qAR Ai:=by
 refine D.cal (k:=4) Du (λf cd A outer s0 H vs Q E hr h=>?_);revert h;refine yF9 λc p t R rl r i N ts=>yB10 ?_;rintro rfl hL b1 hR ok a4 hk hN ht q;refine⟨_,(ah (av 4 Du.nd (am (au K) (pv 0) (pv 2)) (hx:=Qu))
   (ah (aS (az aM (am (au K) (pv 4 (hv:=Ja)) af) ay (aB _)) (aj (aA dJ)) aL)
   (ah (av 5 Du.nd (ft (cQ (ax S hr (aa (pv 3) ae))) af af))
   (ah (av 6 Du.nd (ar (ee K) (fS (pF K) ad mh (aa (eV (C5.to (fsc:=(rd bf)) (N:=qAI) (N0:=qAI) (T:=["held"])) rfl ((iH K) (fe (gY K) (pv 3) gS (fG (pv 5)))) (λ_ _ _ _=>(aV 8 (show (["code","rule","at","token","row","count","behind","room","held"]:LI).Nodup from ⋯))) (cN (show (qAI:LI).length<=8 from ∅)) (λ_ _ _ _=>eJ) (λ_ _ _ _=>(ax O hr (aa (pv 4 (hv:=(cJ (rd bf) ⋯))) (aa (pv 8) ae))))) ae)) (fe (gY K) (pv 3) (fG (pv 5)) gS)))
   (ah (aS (i0 (cQ (ax U hr (aa (pv 3) ae)))) (aj (aA (pv 6))) aL)
   (ah (av 7 Du.nd (ax J hr (aa (pv 1) (aa (pv 4 (hv:=Ja)) (aa (pv 3) ae)))))
   (aj (aA (ft (az jH (pv 7) dJ (aB _)) dJ (ar (ee K) (fe (gY K) (pv 6) gS (fG (fH eP af))) (aN (aa (pv 7) ae)))))))))))),?_⟩
 refine yE2 (jE hL b1) λas b=>yB4 λa1 al ab hb=>?_;have b2:cM (as.map V.ref) (i:Int)=Sm (.ref b):=ao (by rw[yf,ab];rfl);cbv;refine X2 (ud.of a1) b2 ?_;rw?;refine X1 (su.of hb) (ao (j:=0) hk.hd) ?_;cbv;refine aP (λcc=>?_) (λcc=>?_)
 .exact(q H (sg.refl H)).1 (by unfold fP;rw[KZ cc])
 refine dX (λσ' H'=>H=H'/\∃W:Nat,σ'=[Sm (.ref c),Sm (.ref p),Sm (.int (i:Int)),Sm (.ref t),Sm (.ref b),Sm (.int (W:Int)),Nn,Nn]/\W=if 2<ts.length then 2 else 1) (λk ac=>?_) ?_
 .cbv;refine yI2 t ts #[rfl,ht,_,rfl,aP (λd=>?_) (λd=>?_)]
  .exact ac _ _ #[rfl,2,rfl,by rw[KZ (of_decide_eq_true d)]]
  .exact ac _ _ #[rfl,1,rfl,by rw[KQ (λz=>d (decide_eq_true z))]]
 intro σ' H';refine yB2 ?_;rintro rfl;refine yF1 λW=>yB2 ?_;rintro rfl F;have b3:W<=ts.length/\1<=W/\W<=2:=by
  cases a4
  .rw[KQ '~']at F;subst F;simp
  .rw[KQ '~']at F;subst F;simp
  .rw[KZ '~']at F;subst F;simp
  .rw[KZ '~']at F;subst F;simp
 refine dX (λσ' H'=>∃v:so,σ'=[Sm (.ref c),Sm (.ref p),Sm (.int (i:Int)),Sm (.ref t),Sm (.ref b),Sm (.int (W:Int)),Sm (.ref v),Nn]/\sg H H'/\H v=Nn/\cF H' v ((ts.take W).map (ci r)++ts.drop W)) (λk ac=>?_) ?_
 .cbv;refine ga (su.of ht) (λp1 H1 s1 a3=>?_);rw[v0,<-List.map_take]at a3;refine#[p1,rfl,#[_,a3],λL hL=>?_];refine kJ (xs:=(ts.take W).map iN) (λi ys H'=>sg H1 H'/\H' L=Sm (.lst ys)/\ys=(((ts.take W).take i).map (ci r)).map iN) #[ak hL _,ai,rfl] (λi ys H' _ hh=>a3.same hh.1) ?_ ?_
  .rintro i ys H' v hv hi ⟨sm,hl,rfl⟩;rw[ze]at hi;rw[yf,zg hi]at hv;cases hv;cbv;refine yI4 b r ((ts.take W)[i]) N #[rfl,sm _ _ (s1 _ _ hb),hk,hN,λH2 s2=>?_];refine iD (by rw[ze];exact hi) (by rw[ze,ze,sQ];lia) (by rw[ze,sQ];exact aJ ()) (s2 _ _ hl) #[(sm.trans s2).upd hL _,ai,?_];rw[rT,zg hi,yH,yH];rfl
  rintro ys H2 ⟨s2,e2,rfl⟩;rw[ze,tO]at e2;cbv;refine#[_,.inl #[ud.of e2,λt2 bt=>?_]];∎;rename_i H3 s3 e3;have a8:=s1.trans s2;have ag:=a8.trans s3;refine ga (su.of (ag _ _ ht)) (λp4 H4 s4 a9=>?_);rw[jl,<-List.map_drop]at a9;cbv;have b0:((ts.take W).map (ci r)).map iN≠[]:=λz=>by
   have:=congrArg List.length z;rw[ze,ze,sQ,yU]at this;lia
  have ce:ts.length<=4:=by cases a4<;>simp
  refine yI2 _ _ #[su.of (s4 _ _ e3),a9,b0,by rw[ze,ze,ze,sQ,Jx];exact aJ (),λhz=>?_,λ_ t5 a7=>?_]
  .have bh:ts.drop W=[]:=Lk.mp hz;refine ac _ _ #[t2,rfl,ag.trans s4,a8.free bt,?_];rw[bh,sF];exact s4 _ _ e3
  .refine ac _ _ #[t5,rfl,(ag.trans s4).trans (ak a7 _),(ag.trans s4).free a7,?_];show upd _ _ _ _=_;rw[ai,yH]
 intro σ' H5;refine yF1 λv=>yB4 ?_;rintro rfl s5 hv e5;rw?;refine yI2 t ts #[rfl,s5 _ _ ht,λH6 s6=>#[_,rfl,?_]];have Y:=s5.trans s6;have be:∀ {k:Nat} (us:LJ),mS ts k->k<rl.rs.length->cF H6 v (us++[k])->1<=us.length->us.length<=3->(fP rl r ts=(after rl k (gB r ts)).map λj=>us++[j])->ua (xv (oT (qK oQ [] E0 (ly (j8 1) (ly (j8 4) (ly (j8 3) xD)))) (iB 7)) (Dx (F2 (yM (uE By (j8 7) (tC V.non))) (tC V.non) (uE (qI K) (GC (xL K) (j8 6) nV (yW (Gb (rU λi=>V.int (-i)) (tC (V.int 1))))) (Bx (ly (j8 7) xD)))))) {nx:=λx H'=>Q V.non H',rt:=Q} [Sm (.ref c),Sm (.ref p),Sm (.int (i:Int)),Sm (.ref t),Sm (.ref b),Sm (.int (W:Int)),Sm (.ref v),Nn] H6:=λ{k} us bg Z bp cb b4 a5=>by
  rw?;refine yI8 p b t rl r ts k N #[rfl,hR.mono Y,ok,Z,Y _ _ hb,hk,Y _ _ ht,bg,λH7 s7=>?_];have e7:cF H7 v (us++[k]):=s7 _ _ bp;cases ha:after rl k (gB r ts) with
  | none=>
   rw?;rw[KZ (show du Nn=V.non from rfl)];exact(q H7 (Y.trans s7)).1 (by rw[a5,ha];rfl)
  | some j=>
   rw?;rw[KQ (by simp[du])];refine ga (su.of e7) (λp8 H8 s8 bc=>?_);rw[AM]at bc;refine#[∅,λt9 ca=>?_];∎;rename_i H9 s9 e9;cbv;refine yI2 _ _ #[bc.same s9,su.of e9,λz=>?_,by rw[ze];exact aJ (by simp;lia),λhz=>absurd hz '~',λ_ u hu=>?_]
   .have:=congrArg List.length z;rw[ze,yU]at this;lia
   have a6:=Y.trans (s7.trans (s8.trans s9));exact(q _ (a6.trans (ak hu _))).2 (us++[j]) u (by rw[a5,ha];rfl) (a6.free hu) (by show upd _ _ _ _=_;rw[ai,yH];rfl)
 cases a4 with
 | h1 n k _ Z=>
  rw[KQ '~']at F;subst F;rw[KQ '~'];exact be [ci r n] (.h1 n k) Z (s6 _ _ e5) '~' '~' (by unfold fP;rw[KQ cc];rfl)
 | one n _=>
  rw[KQ '~']at F;subst F;rw[KZ '~'];exact(q H6 Y).2 [ci r n] v (by unfold fP;rw[KQ cc]) hv (s6 _ _ e5)
 | two n m o _=>
  rw[KZ '~']at F;subst F;rw[KZ '~'];exact(q H6 Y).2 [ci r n,ci r m,o] v (by unfold fP;rw[KQ cc]) hv (s6 _ _ e5)
 | tie n m o k _ Z=>
  rw[KZ '~']at F;subst F;rw[KQ '~'];exact be [ci r n,ci r m,o] (.tie n m o k) Z (s6 _ _ e5) '~' '~' (by unfold fP;rw[KQ cc];rfl)
def BU(R X:List α)(a:Nat):Prop:=∀i r,X[i]?=Sm r->R[a+i]?=Sm r
theorem BU.left{R X Y:List α}(h:BU R (X++Y) a):BU R X a:=λi r e=>h i r (by rw[xR (KO.mp e).1];exact e)
theorem BU.right{R X Y:List α}(h:BU R (X++Y) a):BU R Y (a+X.length):=λi r e=>by
 have:=h (X.length+i) r (by rw[uC ()];rw[show X.length+i-X.length=i from ()];exact e);rw[oS];exact this
theorem BU.one{R:List α}{x:α}(h:BU R [x] a):R[a]?=Sm x:=h 0 x rfl
theorem BU.c0{R Y:List α}{x:α}(h:BU R (x::Y) a):R[a]?=Sm x:=h 0 x rfl
theorem BU.cs{R Y:List α}{x:α}(h:BU R (x::Y) a):BU R Y (a+1):=λi r e=>by
 have:=h (i+1) r (by rw[zaR];exact e);rw[show a+1+i=a+(i+1) from ()];exact this
def nD(r:aC):Bool:=match r with
 | .str h::_=>decide (h = "jump")
 | _=>false
def AE(i:Nat):aC->LJ
 | [.str h,_,_,.int j]=>if h = "test" then [i+1,j.toNat] else [i+1]
 | .str h::_=>if h = "end" then [] else [i+1]
 | _=>[i+1]
def wc(i:Nat)(r:aC):LJ:=if nD r=true then (match r.getD 2 .non with
 | .int j=>[j.toNat]
 | _=>[i+1]) else AE i r
inductive GY (R:List aC):Nat->Prop
 | zero:GY R 0
 | step {i j:Nat} {r:aC}:GY R i->R[i]?=Sm r->j∈wc i r->GY R j
def wL(r:aC):Prop:=nD r=false/\(∀i,AE i r=[i+1])/\∀i,wc i r=[i+1]
theorem zX{h:Str}{u:LM}(hh:h∉(["jump"]:LI)):nD (.str h::u)=false:=by
 show decide _=false;exact decide_eq_false λz=>hh (by rw[z];exact yy)
theorem ic{h:Str}{u:LM}(hh:h∉(["test","jump","end"]:LI)):wL (.str h::u):=by
 simp only[yk,yT,or_false,not_or]at hh;let#[h1,h2,J]:=hh;have a:∀i,AE i (.str h::u)=[i+1]:=λi=>by
  unfold AE;split
  .rename_i e;cases e;rw[KQ h1]
  .rename_i e;cases e;rw[KQ J]
  .rfl
 have F:nD (.str h::u)=false:=zX (by simp only[yk,yT,or_false];exact h2);refine#[F,a,λi=>?_];unfold wc;rw[F,KQ ∅];exact a i
theorem xB{kv:List (aT×V)}(F:fm ws):wL (fI kv l ws):=by
 unfold fI;split
 .exact ic ⋯
 .refine ic ?_;rcases ju F with h | h | h | h | h<;>rw[h]<;>decide +kernel
theorem ER{l n:V}:AE i [.str "test",l,n,iN m]=[i+1,m]:=by
 show (if ("test" : Str) = "test" then [i+1,((m:Int)).toNat] else [i+1])=_;rw[KZ rfl,mi]
theorem jJ{l n:V}:wc i [.str "test",l,n,iN m]=[i+1,m]:=by
 unfold wc;rw[zX ⋯,KQ ∅];exact ER
theorem GY.next(h:GY R i)(e:R[i]?=Sm r)(p:wL r):GY R (i+1):=h.step e (by rw[p.2.2];exact yy)
def Dh(R:List aC)(a n:Nat):Prop:=∀i,a<=i->i<=a+n->GY R i
theorem Dh.app(h:Dh R a n)(k:Dh R (a+n) m):Dh R a (n+m):=λi h1 h2=>by
 by_cases c:i<=a+n
 .exact h i h1 c
 .exact k i () ()
theorem Dh.nil(h:GY R a):Dh R a 0:=λi h1 h2=>by rw[show i=a from ()];exact h
theorem Dh.one(h:GY R a)(k:GY R (a+1)):Dh R a 1:=λi h1 h2=>by
 by_cases c:i=a
 .rw[c];exact h
 .rw[show i=a+1 from ()];exact k
theorem Dh.last(h:Dh R a n):GY R (a+n):=h _ () (zu _)
theorem Dh.three{O S U:aC}(h:GY R a)(s:BU R [O,S,U] a)(Y:wL O)(p2:wL S)(W:wL U):Dh R a 3:=by
 have J:=h.next s.c0 Y;have F:=J.next s.cs.c0 p2;have Z:=F.next s.cs.cs.c0 W;exact((Dh.one h J).app (Dh.one J F)).app (Dh.one F Z)
theorem qm(kv:List (aT×V))(R:List aC):∀(d:Nat) (t:Bool) (a l:Nat) (T:List vr),cj d T->BU R (aD kv d t a l T) a->GY R a->Dh R a (aD kv d t a l T).length
 | 0,_,_,_,_,h,_,_=>h.elim
 | d+1,t,a,l,T,hf,hs,J=>by
  have ih:=qm kv R d;have st:∀(s:vr) (a l:Nat),eh (cj d) s->BU R (cZ kv (aD kv d) (aq d) t a l s) a->GY R a->Dh R a (cZ kv (aD kv d) (aq d) t a l s).length:=λs a l Z S J=>by
   cases s with
   | plain ws=>exact Dh.one J (J.next (BU.one S) (xB Z.1))
   | lend x y b=>
    have F:BU R (_++_++_) a:=S;have O:Dh R a 3:=Dh.three J F.left.left (ic ⋯) (ic ⋯) (ic ⋯);have U:=ih t (a+3) (l+1) b Z.2.2 F.left.right O.last;have ab:=F.right;rw[jn,<-oS]at ab;have A3:Dh R (a+3+(aD kv d t (a+3) (l+1) b).length) 3:=Dh.three U.last ab (ic ⋯) (ic ⋯) (ic ⋯);have:=O.app (U.app A3);have e:(cZ kv (aD kv d) (aq d) t a l (.lend x y b)).length=3+((aD kv d t (a+3) (l+1) b).length+3):=by
     show (fc kv (aD kv d) (aq d) t a l x y b).length=_;unfold fc;simp only[jn,ye,yU];lia
    rw[e];exact this
   | ite n b c=>
    have F:BU R (jc (aD kv d) (aq d) t a l n b c) a:=S;have e:(cZ kv (aD kv d) (aq d) t a l (.ite n b c)).length=(jc (aD kv d) (aq d) t a l n b c).length:=rfl;rw[e];unfold jc at F |-
    generalize hb:aD kv d t (a+1) (l+1) b=B at F |-;generalize hc:aD kv d t (a+1+B.length+1) (l+1+aq d b+1) c=C at F |-;have Y:=F.left.left.left.one;have W:GY R (a+1):=J.step Y (by rw[jJ];simp)
    have r2:GY R (a+1+B.length+1):=J.step Y (by rw[jJ];simp);have O:=ih t (a+1) (l+1) b Z.2.1 (by rw[hb];exact F.left.left.right) W;rw[hb]at O;have sj:=F.left.right.one;simp only[jn,ye,yU,ms]at sj;rw[<-oS]at sj;have sC:=F.right;simp only[jn,ye,yU,ms]at sC;rw[show a+(1+B.length+1)=a+1+B.length+1 from ()]at sC;have U:=ih t _ _ c Z.2.2 (by rw[hc];exact sC) r2;rw[hc]at U;have:=(Dh.one J W).app (O.app ((Dh.one O.last r2).app U));simp only[jn,ye,yU];rw[show 0+1+B.length+(0+1)+C.length=1+(B.length+(1+C.length)) from ()];exact this
   | whl n b=>
    have lp:∀a:Nat,BU R (dR (aD kv d) (aq d) a l n b) a->GY R a->Dh R a (dR (aD kv d) (aq d) a l n b).length:=λa S J=>by
     unfold dR at S |-
     generalize hb:aD kv d false (a+1) (l+1) b=B at S |-;have Y:=S.left.left.one;have W:GY R (a+1):=J.step Y (by rw[jJ];simp)
     have r2:GY R (a+1+B.length+1):=J.step Y (by rw[jJ];simp);have O:=ih false (a+1) (l+1) b Z.2 (by rw[hb];exact S.left.right) W;rw[hb]at O;have:=(Dh.one J W).app (O.app (Dh.one O.last r2));simp only[jn,ye,yU];rw[show 0+1+B.length+(0+1)=1+(B.length+1) from ()];exact this
    have e:(cZ kv (aD kv d) (aq d) t a l (.whl n b)).length=(dn (aD kv d) (aq d) t a l n b).length:=rfl;have F:BU R (dn (aD kv d) (aq d) t a l n b) a:=S;rw[e];unfold dn at F |-
    cases t with
    | false=>rw[KQ ∅]at F |-;exact lp a F J
    | true=>
     rw[KZ rfl]at F |-
     generalize hb:aD kv d true (a+1) (l+1) b=B at F |-;have Y:=F.left.left.one;have W:GY R (a+1):=J.step Y (by rw[jJ];simp)
     have O:=ih true (a+1) (l+1) b Z.2 (by rw[hb];exact F.left.right) W;rw[hb]at O;have sL:=F.right;simp only[jn,ye,yU,ms]at sL;rw[<-oS]at sL;have U:=lp _ sL O.last;have:=(Dh.one J W).app (O.app U);rw[jn,jn,oS];exact this
  have go:∀(T:List vr) (a l:Nat),(∀s∈T,eh (cj d) s)->BU R (cx (cZ kv (aD kv d) (aq d) t) (bz (aq d)) a l T) a->GY R a->Dh R a (cx (cZ kv (aD kv d) (aq d) t) (bz (aq d)) a l T).length:=λT=>by
   induction T with
   | nil=>intro a l _ _ J;exact Dh.nil J
   | cons s T ihT=>
    intro a l hf hs J;have ac:BU R (cZ kv (aD kv d) (aq d) t a l s++cx _ _ _ _ T) a:=hs;have O:=st s a l (hf s yy) ac.left J;have U:=ihT _ _ (λs hs=>hf s (yS _ hs)) ac.right O.last;show Dh R a (cZ kv (aD kv d) (aq d) t a l s++cx _ _ _ _ T).length;rw[jn];exact O.app U
  exact go T a l hf hs J
theorem x9{NM:LI}{t:Bool}(hf:cj d T):∀i,i<(dq NM d t T).length->GY (dq NM d t T) i:=λi hi=>by
 have h:=qm (gN (b7 NM (dy d T))) (dq NM d t T) d t 0 0 T hf (λi r e=>by
  rw[ms];unfold dq;rw[xR (KO.mp e).1];exact e) .zero
 refine h i (gV _) ?_;unfold dq at hi;rw[jn]at hi;simp only[ye,yU]at hi;lia
theorem wx(ks:List aT):∀(i:Nat) (k:aT) (v:V),bU (iV ks i) k=Sm v->∃n:Nat,v=iN n/\n<i
 | 0,_,_,h=>by cases h
 | i+1,k,v,h=>by
  rw[ji,mn]at h;split at h
  .exact#[i,(Option.some.inj h).symm,()]
  .let#[n,h1,h2]:=wx ks i k v h;exact#[n,h1,()]
section
variable{kv:List (aT×V)}{N:Nat}
theorem za(S:∀k,iY kv k->∃n,cD kv k=iN n/\n<N){l:Nat}{ws:LI}(px:fm ws)(Z:ig ws)(O:∀n∈di ws,iY kv (.inr n)):Do N (fI kv l ws):=by
 unfold fI;unfold di at O;cases px with
 | dd u x=>
  let#[n1,J,F]:=S _ (O x (by rw[KZ (show ([("do" : Str),u,x]:LI).headD "" = "do" from rfl)];simp));rw[KZ (show ([("do" : Str),u,x]:LI).headD "" = "do" from rfl)];show Do N [.str "do",iN l,cD kv (.inr x),.str u];rw[J];exact .dd _ _ _ F (Z.len u '~')
 | op x=>
  let#[n1,J,F]:=S _ (O x (by rw[KQ (show ¬ ([("open" : Str),x]:LI).headD "" = "do" from (by decide +kernel:¬ ("open" : Str) = "do"))];simp));rw[KQ (show ¬ ([("open" : Str),x]:LI).headD "" = "do" from (by decide +kernel:¬ ("open" : Str) = "do"))];show Do N [.str "open",iN l,cD kv (.inr x)];rw[J];exact .op _ _ F
 | dr x=>
  let#[n1,J,F]:=S _ (O x (by rw[KQ (show ¬ ([("drop" : Str),x]:LI).headD "" = "do" from (by decide +kernel:¬ ("drop" : Str) = "do"))];simp));rw[KQ (show ¬ ([("drop" : Str),x]:LI).headD "" = "do" from (by decide +kernel:¬ ("drop" : Str) = "do"))];show Do N [.str "drop",iN l,cD kv (.inr x)];rw[J];exact .dr _ _ F
 | cp x y=>
  let#[n1,J,F]:=S _ (O x (by rw[KQ (show ¬ ([("copy" : Str),x,y]:LI).headD "" = "do" from (by decide +kernel:¬ ("copy" : Str) = "do"))];simp));let#[Y,W,U]:=S _ (O y (by rw[KQ (show ¬ ([("copy" : Str),x,y]:LI).headD "" = "do" from (by decide +kernel:¬ ("copy" : Str) = "do"))];simp));rw[KQ (show ¬ ([("copy" : Str),x,y]:LI).headD "" = "do" from (by decide +kernel:¬ ("copy" : Str) = "do"))];show Do N [.str "copy",iN l,cD kv (.inr x),cD kv (.inr y)];rw[J,W];exact .cp _ _ _ F U
 | ti x y=>
  let#[n1,J,F]:=S _ (O x (by rw[KQ (show ¬ ([("tie" : Str),x,y]:LI).headD "" = "do" from (by decide +kernel:¬ ("tie" : Str) = "do"))];simp));let#[Y,W,U]:=S _ (O y (by rw[KQ (show ¬ ([("tie" : Str),x,y]:LI).headD "" = "do" from (by decide +kernel:¬ ("tie" : Str) = "do"))];simp));rw[KQ (show ¬ ([("tie" : Str),x,y]:LI).headD "" = "do" from (by decide +kernel:¬ ("tie" : Str) = "do"))];show Do N [.str "tie",iN l,cD kv (.inr x),cD kv (.inr y)];rw[J,W];exact .ti _ _ _ F U
end
def yh(N E:Nat)(R:List aC)(i:Nat)(r:aC):Prop:=Do N r/\(cO r = "test" -> i+1<aG r 3/\aG r 3<=E)/\(cO r = "jump" -> (i<aG r 2/\aG r 2<=E)\/(aG r 2<=i/\∃q,R[aG r 2]?=Sm q/\cO q = "test" /\ i<aG q 3))
def Seg(N E:Nat)(R:List aC)(a n:Nat):Prop:=∀i r,a<=i->i<a+n->R[i]?=Sm r->yh N E R i r
section
variable{N E:Nat}{R:List aC}{kv:List (aT×V)}
theorem Seg.nil:Seg N E R a 0:=λi r h1 h2=>()
theorem Seg.app(h:Seg N E R a n)(k:Seg N E R (a+n) m):Seg N E R a (n+m):=λi r h1 h2=>by
 by_cases c:i<a+n
 .exact h i r h1 c
 .exact k i r () ()
theorem Seg.one(e:R[a]?=Sm r)(h:yh N E R a r):Seg N E R a 1:=λi q h1 h2 F=>by
 have:i=a:=()
 subst this;rw[e]at F;cases F;exact h
theorem Seg.pln(g:Str)(e:R[a]?=Sm r)(h:Do N r)(hg:cO r=g)(p:g∈(qAs:LI)):Seg N E R a 1:=Seg.one e #[h,λz=>absurd p (by rw[<-hg,z];decide),λz=>absurd p (by rw[<-hg,z];decide)]
theorem Seg.tst{n:Int}(e:R[a]?=Sm [.str "test",iN l,.int n,iN j]) (h:a+1<j) (h2:j<=E):Seg N E R a 1:=Seg.one e #[.ts _ _ _,λ_=>#[h,h2],λz=>absurd (show ("test" : Str) = "jump" from z) ∅]
theorem Seg.jmp(e:R[a]?=Sm [.str "jump",iN l,iN j]) (h:(a<j/\j<=E)\/(j<=a/\∃q,R[j]?=Sm q/\cO q = "test" /\ a<aG q 3)):Seg N E R a 1:=Seg.one e #[.jm _ _,λz=>absurd (show ("jump" : Str) = "test" from z) ∅,λ_=>h]
theorem vX(hk:∀k,iY kv k->∃n,cD kv k=iN n/\n<N):∀(d:Nat) (t:Bool) (a l:Nat) (T:List vr),cj d T->dC d T->fv kv d l T->BU R (aD kv d t a l T) a->a+(aD kv d t a l T).length<=E->Seg N E R a (aD kv d t a l T).length
 | 0,_,_,_,_,h,_,_,_,_=>h.elim
 | d+1,t,a,l,T,hf,U,hkl,hs,S=>by
  have ih:=vX hk d;have st:∀(s:vr) (a l:Nat),eh (cj d) s->kg (dC d) s->oH kv (fv kv d) (aq d) l s->BU R (cZ kv (aD kv d) (aq d) t a l s) a->a+(cZ kv (aD kv d) (aq d) t a l s).length<=E->Seg N E R a (cZ kv (aD kv d) (aq d) t a l s).length:=λs a l hq U O W S=>by
   cases s with
   | plain ws=>
    have h1:=za (l:=l) hk hq.1 U O.2;have h2:cO (fI kv l ws)=ws.headD "" := by
     unfold fI;split
     .rename_i z;rw[z];rfl
     .rfl
    exact Seg.pln _ (BU.one W) h1 h2 (by rcases ju hq.1 with z | z | z | z | z<;>rw[z]<;>decide)
   | lend x y b=>
    revert O;refine yB4 λk1 k2 k3 k4=>?_;let#[n1,e1,f1]:=hk _ k1;let#[n2,e2,f2]:=hk _ k2;let#[n3,e3,f3]:=hk _ k3;have F:BU R (fc kv (aD kv d) (aq d) t a l x y b) a:=W;have J:a+(fc kv (aD kv d) (aq d) t a l x y b).length<=E:=S;show Seg N E R a (fc kv (aD kv d) (aq d) t a l x y b).length;unfold fc at F J |-
    rw[e1,e2,e3]at F J |-
    generalize hb:aD kv d t (a+3) (l+1) b=B at F J |-;simp only[jn,ye,yU,ms]at J |-
    have s1:=F.left.left;have A2:=ih t (a+3) (l+1) b hq.2.2 U.2.2 k4 (by rw[hb];exact F.left.right) (by rw[hb];lia);have s3:=F.right;rw[hb]at A2;rw[jn,<-oS]at s3;have Y:Seg N E R a 3:=((Seg.pln "copy" s1.c0 (.cp _ _ _ f3 f1) rfl ∅).app (Seg.pln "do" s1.cs.c0 (.dd _ _ _ f3 ∅) rfl ∅)).app (Seg.pln "copy" s1.cs.cs.c0 (.cp _ _ _ f2 f3) rfl ∅);have A3:Seg N E R (a+3+B.length) 3:=((Seg.pln "do" s3.c0 (.dd _ _ _ f3 ∅) rfl ∅).app (Seg.pln "drop" s3.cs.c0 (.dr _ _ f2) rfl ∅)).app (Seg.pln "drop" s3.cs.cs.c0 (.dr _ _ f3) rfl ∅);have:=Y.app (A2.app A3);rw[show 1+1+1+B.length+(1+1+1)=3+(B.length+3) from ()];exact this
   | ite n b c=>
    have F:BU R (jc (aD kv d) (aq d) t a l n b c) a:=W;have J:a+(jc (aD kv d) (aq d) t a l n b c).length<=E:=S;show Seg N E R a (jc (aD kv d) (aq d) t a l n b c).length;unfold jc at F J |-
    generalize hb:aD kv d t (a+1) (l+1) b=B at F J |-;generalize hc:aD kv d t (a+1+B.length+1) (l+1+aq d b+1) c=C at F J |-;simp only[jn,ye,yU,ms]at J |-
    have s0:=F.left.left.left.one;have Y:=ih t (a+1) (l+1) b hq.2.1 U.2.1 O.1 (by rw[hb];exact F.left.left.right) (by rw[hb];lia);rw[hb]at Y;have Z:=F.left.right.one;simp only[jn,ye,yU,ms]at Z;rw[<-oS]at Z;have sC:=F.right;simp only[jn,ye,yU,ms]at sC;rw[show a+(1+B.length+1)=a+1+B.length+1 from ()]at sC;have A2:=ih t _ _ c hq.2.2 U.2.2 O.2 (by rw[hc];exact sC) (by rw[hc];lia);rw[hc]at A2;have:=(Seg.tst (N:=N) s0 () ()).app (Y.app ((Seg.jmp Z (.inl #[(),()])).app A2));rw[show 1+B.length+1+C.length=1+(B.length+(1+C.length)) from ()];exact this
   | whl n b=>
    have lp:∀a:Nat,BU R (dR (aD kv d) (aq d) a l n b) a->a+(dR (aD kv d) (aq d) a l n b).length<=E->Seg N E R a (dR (aD kv d) (aq d) a l n b).length:=λa W S=>by
     unfold dR at W S |-
     generalize hb:aD kv d false (a+1) (l+1) b=B at W S |-;simp only[jn,ye,yU,ms]at S |-
     have s0:=W.left.left.one;have Y:=ih false (a+1) (l+1) b hq.2 U.2 O (by rw[hb];exact W.left.right) (by rw[hb];lia);rw[hb]at Y;have Z:=W.right.one;simp only[jn,ye,yU,ms]at Z;rw[<-oS]at Z;have:=(Seg.tst (N:=N) s0 () ()).app (Y.app (Seg.jmp Z (.inr #[(),_,s0,rfl,by show a+1+B.length<a+1+B.length+1;lia])));rw[show 1+B.length+1=1+(B.length+1) from ()];exact this
    have F:BU R (dn (aD kv d) (aq d) t a l n b) a:=W;have J:a+(dn (aD kv d) (aq d) t a l n b).length<=E:=S;show Seg N E R a (dn (aD kv d) (aq d) t a l n b).length;unfold dn at F J |-
    cases t with
    | false=>rw[KQ ∅]at F J |-;exact lp a F J
    | true=>
     rw[KZ rfl]at F J |-
     have ac:=jT (f:=aD kv d) (cnt:=aq d) (a:=a+1+(aD kv d true (a+1) (l+1) b).length) (l:=l) (n:=n) (b:=b);generalize hb:aD kv d true (a+1) (l+1) b=B at F J ac |-;simp only[jn,ye,yU,ms]at J |-
     have s0:=F.left.left.one;have Y:=ih true (a+1) (l+1) b hq.2 U.2 O (by rw[hb];exact F.left.right) (by rw[hb];lia);rw[hb]at Y;have sL:=F.right;simp only[jn,ye,yU,ms]at sL;rw[<-oS]at sL;have A2:=lp _ sL ();have:=(Seg.tst (N:=N) s0 () ()).app (Y.app A2);rw[oS];exact this
  have go:∀(T:List vr) (a l:Nat),(∀s∈T,eh (cj d) s)->(∀s∈T,kg (dC d) s)->(∀z∈fL (bz (aq d)) l T,oH kv (fv kv d) (aq d) z.1 z.2)->BU R (cx (cZ kv (aD kv d) (aq d) t) (bz (aq d)) a l T) a->a+(cx (cZ kv (aD kv d) (aq d) t) (bz (aq d)) a l T).length<=E->Seg N E R a (cx (cZ kv (aD kv d) (aq d) t) (bz (aq d)) a l T).length:=λT=>by
   induction T with
   | nil=>intro a l _ _ _ _ _;exact Seg.nil
   | cons s T ihT=>
    intro a l hf U hz hs S;have ab:BU R (cZ kv (aD kv d) (aq d) t a l s++cx _ _ _ _ T) a:=hs;have J:a+(cZ kv (aD kv d) (aq d) t a l s++cx _ _ _ _ T).length<=E:=S;show Seg N E R a (cZ kv (aD kv d) (aq d) t a l s++cx _ _ _ _ T).length;rw[jn]at J |-
    exact(st s a l (hf s yy) (U s yy) (hz _ yy) ab.left ()).app (ihT _ _ (λs hs=>hf s (yS _ hs)) (λs hs=>U s (yS _ hs)) (λz h=>hz z (yS _ h)) ab.right ())
  exact go T a l hf U hkl hs S
end
theorem yw{a b:Int}{ds ts:LS}(Y:a<b)(hd:∀x,x∈ds ↔ x∈[a,b])(hl:ds.length<=2)(U:ts.Perm ds)(S:ts.Pairwise (· <= ·)):ts=[a,b]:=by
 have J:a∈ts:=U.mem_iff.mpr ((hd a).mpr '~');have F:b∈ts:=U.mem_iff.mpr ((hd b).mpr '~');have O:ts.length<=2:=by rw[U.length_eq];exact hl
 match ts,J,F,O,S with
 | [x],J,F,_,_=>
  have Z:=KU.mp J;have e2:=KU.mp F;lia
 | [x,y],J,F,_,S=>
  simp only[yk,yT,or_false]at J F;have W:x<=y:=by simp at S;exact S
  have h1:x=a:=()
  have h2:y=b:=()
  rw[h1,h2]
 | _::_::_::_,_,_,hl,_=>simp at hl
theorem Do.t3(h:Do N r)(g:cO r = "test"):r[3]?=Sm (.int (aG r 3:Nat)):=by
 cases h<;>first | rfl | (simp only[cO,List.getD_cons_zero]at g;exact absurd g ∅)
theorem Do.j2(h:Do N r)(g:cO r = "jump"):r[2]?=Sm (.int (aG r 2:Nat)):=by
 cases h<;>first | rfl | (simp only[cO,List.getD_cons_zero]at g;exact absurd g ∅)
noncomputable def cr(i:Nat)(r:aC):LJ:=if cO r = "end" then [] else if cO r = "jump" then [aG r 2] else if cO r = "test" then [i+1,aG r 3] else [i+1]
structure Jv (N:Nat) (R:List aC):Prop where
 row:∀i r,R[i]?=Sm r->yh N (R.length-1) R i r
 en:∃r,R[R.length-1]?=Sm r/\cO r = "end"
theorem Jv.nx(h:Jv N R)(e:R[i]?=Sm r):∀j∈cr i r,j<R.length:=λj F=>by
 have hi:=(KO.mp e).1;let#[_,h2,O]:=h.row i r e;let#[q,J,U]:=h.en;unfold cr at F;split at F
 .cases F
 rename_i n1;have S:i+1<R.length:=by
  rcases HU (i+1) R.length with z | z
  .exact z
  .rw[show R.length-1=i from (),e]at J;cases J;exact absurd U n1
 split at F
 .rename_i n3;rw[KU.mp F];rcases O n3 with z | z<;>lia
 split at F
 .rename_i n3;have:=h2 n3;simp only[yk,yT,or_false]at F;rcases F with z | z<;>lia
 .rw[KU.mp F];exact S
def zh:Sp:=λvs H Q _=>∃(c:so) (R:List aC) (i N:Nat) (r:aC),vs=[.ref c,.int (i:Int)]/\B5 H c R/\Jv N R/\R[i]?=Sm r/\∀(q:so) (H':Hp),sg H H'->H q=Nn->H' q=Sm (.lst ((cr i r).map iN))->Q (.ref q) H'
theorem vk(D:xn K mg "rows_behind" cK) (J:mg "sorted" = Nn) (S:mg "set" = Nn):aH P w K mg base 1 "rows_behind" ["code","at"] zh:=by
 refine D.cal (k:=0) GK (λf a4 A outer s0 H vs Q E hr h=>?_);revert h;refine yF5 λc R i N r=>yB5 ?_;rintro rfl hL hC ad q;refine⟨_,(ah (av 2 GK.nd (am (au K) (pv 0) (pv 1)))
   (ah (aS (az aM (am (au K) (pv 2) af) ay (aB _)) (aj (aA (aI ae))) aL)
   (ah (aS (az aM (am (au K) (pv 2) af) ay (aB _)) (aj (aA (aI (aa (am (au K) (pv 2) af) ae)))) aL)
   (ah (aS (az aM (am (au K) (pv 2) af) ay (aB _)) (aj (aA (br (qC w hr) J jg (aa (fS (xo K w hr) S ue (aa (aI (aa (ar aF (pv 1) af) (aa (am (au K) (pv 2) af) ae))) ae)) ae)))) aL)
   (aj (aA (aI (aa (ar aF (pv 1) af) ae)))))))),?_⟩
 refine yE2 (jE hL ad) λas b=>yB4 λa1 al ab eb=>?_;let#[W,ht,_]:=hC.row i r ad;unfold cr at q;cbv;refine X2 (ud.of a1) (ao (by rw[yf,ab];rfl)) ?_;rw?;refine X1 (su.of eb) (ao (j:=0) W.hd) ?_;cbv;refine aP (λc1=>?_) (λc1=>?_)
 .rw[KZ c1]at q;exact#[∅,λO F=>q O _ (ak F _) F ai]
 rw[KQ c1]at q;rw?;refine X1 (su.of eb) (ao (j:=0) W.hd) ?_;cbv;refine aP (λc2=>?_) (λc2=>?_)
 .rw[KZ c2]at q;refine X1 (su.of eb) (ao (j:=2) (W.j2 c2)) ?_;exact#[∅,λO F=>q O _ (ak F _) F ai]
 rw[KQ c2]at q;rw?;refine X1 (su.of eb) (ao (j:=0) W.hd) ?_;cbv;refine aP (λZ=>?_) (λZ=>?_)
 .rw[KZ Z]at q;have U:=ht Z;refine X1 (su.of eb) (ao (j:=3) (W.t3 Z)) ?_;generalize aG r 3=j at U q |-;refine⟨∅,λO F=>?_⟩
  ∎;rename_i H1 s1 e1;have e1:H1 O=Sm (.lst ([(i:Int)+1,(j:Int)].map V.int)):=e1;refine yI2 O _ #[rfl,ud.of e1,'~',λsl ds a5 a3 ac Y=>?_];∎;rename_i H2 s2 e2;refine yI2 sl ds #[rfl,e2,by simp at Y;lia,λrl ts ag hp hs=>?_];have:=yw (a:=(i:Int)+1) (b:=(j:Int)) () ac (by simpa using Y) hp hs;subst this;exact q rl _ ((s1.trans s2).trans (ak ag _)) ((s1.trans s2).free ag) ai
 .rw[KQ Z]at q;rw?;exact#[∅,λO F=>q O _ (ak F _) F ai]
def Ie(rl:Rl)(r:aC)(ts k:LJ):Prop:=k∈cE rl r [ts]\/fP rl r ts=Sm k
theorem yl.one{t:so}(h:cF H t ts):yl H [t] [ts]:=(yl.nil H).snoc h
def A4:Sp:=λvs H Q _=>∃(c p t:so) (R:List aC) (rl:Rl) (r:aC) (i N:Nat) (ts:LJ),vs=[.ref c,.ref p,.int (i:Int),.ref t]/\B5 H c R/\R[i]?=Sm r/\CU H p rl/\dD rl/\kq rl.s rl.rs.length ts/\Do N r/\N<=9000/\cF H t ts/\
 ∀(L':so) (H':Hp) (cs:LL) (kss:List LJ),sg H H'->H L'=Nn->H' L'=Sm (.lst (cs.map V.ref))->yl H' cs kss->kss.length<=16->(∀k,k∈kss ↔ Ie rl r ts k)->Q (.ref L') H'
theorem EN(D:xn K mg "made_of" cR) (J:aH P w K mg base 3 "begins_at" qAc ug) (F:aH P w K mg base 5 "behind_at" qAR Ai):aH P w K mg base 6 "made_of" qAR A4:=by
 refine D.cal (k:=5) GT (λf ad A outer s0 H vs Q E hr h=>?_);revert h;refine yF9 λc p t R rl r i N ts=>yB10 ?_;rintro rfl hC W hR ok ac hk hN ht q;refine⟨_,(ah (av 4 GT.nd (ax J hr (aa (pv 0) (aa (pv 1) (aa (pv 2) (aa (aI (aa (pv 3) ae)) ae))))))
   (ah (av 5 GT.nd (ax F hr (aa (pv 0) (aa (pv 1) (aa (pv 2) (aa (pv 3) ae))))))
   (aj (aA (ft (az jH (pv 5) dJ (aB _)) (pv 4) (ar aF (pv 4) (aI (aa (pv 5) ae)))))))),?_⟩
 cbv;refine#[∅,λx hx=>?_];∎;rename_i H1 s1 e1;have e1:H1 x=Sm (.lst ([t].map V.ref)):=e1;refine yI10 c p x R rl r i N ([t]) ([ts]) #[rfl,hC.mono s1,W,hk,hN,hR.mono s1,ok,e1,yl.one (s1 _ _ ht),'~',λL H2 cs U s2 hL eL hT hl hm _=>?_];have O:=s1.trans s2;rw?;refine yI9 c p t R rl r i N ts #[rfl,hC.mono O,W,hR.mono O,ok,ac,hk,(),O _ _ ht,λH3 s3=>#[λhn=>?_,λY u hs hu ab=>?_]]
 .rw?;exact q L H3 cs U (O.trans s3) (s1.free hL) (s3 _ _ eL) (hT.same s3) () λk=>by rw[hm];unfold Ie;rw[hn];simp
 .rw?;rw[KQ '~'];refine#[∅,λy hy=>?_];∎;rename_i H4 s4 e4;have e4:H4 y=Sm (.lst ([u].map V.ref)):=e4;have S:=s3.trans s4;have ag:=hT.1;refine yI2 _ _ #[S _ _ eL,e4,by rw[ze];exact aJ (by simp;lia),λz hz=>?_];have Z:=ak hz (.lst (cs.map V.ref++[u].map V.ref));refine q z _ (cs++[u]) (U++[Y]) (O.trans (S.trans Z)) ((O.trans S).free hz) (by rw[ai,yH]) ((hT.same (S.trans Z)).snoc ((s4.trans Z) _ _ ab)) (by simp;lia) λk=>?_;rw[IZ,hm,za9];unfold Ie;rw[hs,Option.some.injEq,eq_comm (a:=k)]
noncomputable def pt1(st:List (List LJ)×List (Nat×LJ))(i:Nat)(t:LJ):List (List LJ)×List (Nat×LJ):=if t∈st.1.getD i [] then st else (st.1.set i (st.1.getD i []++[t]),st.2++[(i,t)])
noncomputable def eZ(t:LJ):List aT:=t.map λ(n:Nat)=>Sum.inl (n:Int)
theorem vR:∀ {a b:LJ},eZ a=eZ b->a=b
 | [],[],_=>rfl
 | [],_::_,h=>by simp[eZ]at h
 | _::_,[],h=>by simp[eZ]at h
 | x::a,y::b,h=>by
  simp only[eZ,yX,List.cons.injEq,Sum.inl.injEq,Int.natCast_inj]at h;rw[h.1,vR (a:=a) (b:=b) h.2]
theorem lG(t:LJ):(eZ t).map kV=t.map iN:=by unfold eZ;rw[oq];rfl
noncomputable def e_(ks:List LJ):List (List aT×V):=ks.map λt=>(eZ t,V.bl true)
theorem kB(ks:List LJ)(t:LJ):(bU (e_ ks) (eZ t)).isSome=decide (t∈ks):=by
 unfold e_ bU;rw[List.find?_map,Option.map_map,Option.isSome_map,zaK,List.find?_isSome,decide_eq_true_iff];refine#[λ⟨x,hx,e⟩=>?_,λh=>#[t,h,'~']];rw[<-vR (of_decide_eq_true e)];exact hx
def B6(H:Hp)(F:so)(fds:LL)(Ks:List (List LJ)):Prop:=H F=Sm (.lst (fds.map V.ref))/\fds.length=Ks.length/\fds.Nodup/\∀(j:Nat) fd ks,fds[j]?=Sm fd->Ks[j]?=Sm ks->H fd=Sm (.dT (e_ ks))
def Jk(H:Hp)(q:so)(pl:Nat×LJ):Prop:=∃t,H q=Sm (.tup [.int (pl.1:Int),.ref t])/\cF H t pl.2
def BW(H:Hp)(qs:LL)(pls:List (Nat×LJ)):Prop:=qs.length=pls.length/\∀(i:Nat) q pl,qs[i]?=Sm q->pls[i]?=Sm pl->Jk H q pl
def GA(fds:LL)(H H':Hp):Prop:=∀a o,a∉fds->H a=Sm o->H' a=Sm o
theorem GA.trans{F:LL}{H1 H2:Hp}(h:GA F H H1)(g:GA F H1 H2):GA F H H2:=λa o J e=>g a o J (h a o J e)
theorem B6.off{F:so}{J:LL}{Ks:List (List LJ)}(h:B6 H F J Ks){a:so}(e:H a=Sm o)(S:∀kvs,o ≠ .dT kvs):a∉J:=λU=>by
 let#[j,O,rfl]:=Le.mp U;have:=h.2.2.2 j _ _ (zg O) (zg (show j<Ks.length by rw[<-h.2.1];exact O));rw[e]at this;exact S _ (Option.some.inj this)
theorem B6.keep{F:so}{J:LL}{Ks:List (List LJ)}(h:B6 H F J Ks)(s:sg H H'):B6 H' F J Ks:=#[s _ _ h.1,h.2.1,h.2.2.1,λj fd ks h1 h2=>s _ _ (h.2.2.2 j fd ks h1 h2)]
theorem BW.keep{qs:LL}{F:List (Nat×LJ)}(h:BW H qs F)(s:∀a xs,H a=Sm (.tup xs)->H' a=Sm (.tup xs)):BW H' qs F:=#[h.1,λi q pl h1 h2=>let ⟨t,e1,e2⟩:=h.2 i q pl h1 h2;#[t,s _ _ e1,s _ _ e2]]
theorem BW.nil(H:Hp):BW H [] []:=#[rfl,λi c k h=>by simp at h]
theorem BW.app{qs rs:LL}{F p2:List (Nat×LJ)}(h:BW H qs F)(g:BW H rs p2):BW H (qs++rs) (F++p2):=by
 refine#[by rw[jn,jn,h.1,g.1],λi b ts h1 h2=>?_];rcases HU i qs.length with z | z
 .rw[xR z]at h1;rw[xR (by rw[<-h.1];exact z)]at h2;exact h.2 i b ts h1 h2
 .rw[uC z]at h1;rw[uC (by rw[<-h.1];exact z),<-h.1]at h2;exact g.2 _ b ts h1 h2
theorem BW.one{H:Hp}{q:so}{pl:Nat×LJ}(h:Jk H q pl):BW H [q] [pl]:=⟨rfl,λi c k h1 h2=>by
 cases i with
 | zero=>cases h1;cases h2;exact h
 | succ i=>simp at h1⟩
theorem B6.put{F:so}{J:LL}{Ks:List (List LJ)}(h:B6 H F J Ks){fd:so}(hf:J[i]?=Sm fd)(ks:List LJ):B6 (upd H fd (.dT (e_ ks))) F J (Ks.set i ks):=by
 have hi:=(KO.mp hf).1;have Y:F≠fd:=λz=>h.off h.1 (λ_=>'~') (by rw[z];exact me hf);refine#[by rw[aw Y];exact h.1,by rw[List.length_set];exact h.2.1,h.2.2.1,λj O U h1 h2=>?_];have hj:=(KO.mp h1).1;by_cases e:i=j
 .subst e;rw[hf]at h1;cases h1;rw[zbo (by rw[<-h.2.1];exact hi)]at h2;cases h2;exact ai
 .rw[za8 e]at h2;have S:O≠fd:=λz=>by
   subst z;have W:=(KO.mp hf).2;have Z:=(KO.mp h1).2;exact e ((List.getElem_inj h.2.2.1).mp (W.trans Z.symm))
  rw[aw S];exact h.2.2.2 j O U h1 h2
theorem B6.else{F a:so}{J:LL}{Ks:List (List LJ)}(h:B6 H F J Ks)(h1:F≠a)(h2:a∉J):B6 (upd H a o) F J Ks:=#[by rw[aw h1];exact h.1,h.2.1,h.2.2.1,λj fd ks O S=>by rw[aw (λz=>h2 (by rw[<-z];exact me O))];exact h.2.2.2 j fd ks O S]
noncomputable def ptT(toks:List LJ)(i:Nat)(st:List (List LJ)×List (Nat×LJ)):=toks.foldl (λst t=>pt1 st i t) st
noncomputable def fJ(Ks:List (List LJ))(rows:LJ)(toks:List LJ):List (List LJ)×List (Nat×LJ):=rows.foldl (λst i=>ptT toks i st) (Ks,[])
def IR(Ks:List (List LJ))(m:Nat)(st:List (List LJ)×List (Nat×LJ)):Prop:=st.1.length=Ks.length/\st.2.length<=m/\∀a,(st.1.getD a []).length<=60000+st.2.length
theorem IR.pt1{Ks:List (List LJ)}{t:LJ}{st:List (List LJ)×List (Nat×LJ)}(h:IR Ks m st):IR Ks (m+1) (pt1 st i t):=by
 let#[h1,h2,F]:=h;unfold K56.pt1;split
 .exact#[h1,(),F]
 .refine#[by rw[List.length_set];exact h1,by simp;lia,λa=>?_];have hi:=F i;have J:=F a;simp only[xV,List.getElem?_set,jn,ye,yU]at hi J |-
  split
  .split
   .simp only[Option.getD_some,jn,ye,yU];lia
   .simp
  .lia
theorem jh{β: Type}(f:β->α->β)(b:β){l:List α}(h:i<l.length):(l.take (i+1)).foldl f b=f ((l.take i).foldl f b) l[i]:=by
 rw[za6 h,zbm];rfl
def uJ:Sp:=λvs H Q _=>∃(F rw tk:so) (rows:LJ) (cs fds:LL) (toks:List LJ) (Ks:List (List LJ)),vs=[.ref F,.ref rw,.ref tk]/\H rw=Sm (.lst (rows.map iN))/\H tk=Sm (.lst (cs.map V.ref))/\yl H cs toks/\B6 H F fds Ks/\(∀j∈rows,j<Ks.length)/\rows.length<=2/\toks.length<=16/\(∀ks∈Ks,ks.length<=60000)/\
 ∀(W:so) (H':Hp) (qs:LL),GA fds H H'->B6 H' F fds (fJ Ks rows toks).1->H W=Nn->H' W=Sm (.lst (qs.map V.ref))->BW H' qs (fJ Ks rows toks).2->Q (.ref W) H'
theorem Fw(D:xn K mg "put" fV):aH P w K mg base 1 "put" qAp uJ:=by
 refine D.cal (k:=0) Hk (λf ca A outer s0 H vs Q E hr h=>?_);revert h;refine yF8 λF rw tk rows cs J toks Ks=>yB10 ?_;rintro rfl a4 as hT hP a3 b3 cb bp q;refine⟨_,(ah (av 3 Hk.nd (aI ae))
   (ah (bT xm rfl (bJ K (pv 1)) (aV 4 Hk.nd) (aj (bT xm rfl (bJ K (pv 2)) (aV 5 Hk.nd) (aj (aS (az (k_ hr) (pv 5) (am (au K) (pv 0) (pv 4)) (by with_unfolding_all rfl)) (ah (iT gC (kM (am (au K) (pv 0) (pv 4)) (pv 5) (Al hr)))
   (aj (bo (bB K xl mB mF bw (pv 3) (aa (aN (aa (pv 4) (aa (pv 5) ae))) ae))))) aL)))))
   (aj (aA (pv 3))))),?_⟩
 cbv;refine#[∅,λW hW=>?_];∎;rename_i H1 s1 e1;have e1:H1 W=Sm (.lst (([]:LL).map V.ref)):=e1;have fo:W∉J:=(hP.keep s1).off e1 (λ_=>'~');rw?;refine#[#[_,ud.of (s1 _ _ a4)],?_];have B0:IR Ks 0 (Ks,[]):=⟨rfl,zu _,λa=>by
  show (Ks.getD a []).length<=_;rw[xV];cases e:Ks[a]? with
  | none=>simp
  | some ks=>exact xH (bp ks (me e)) '~'⟩
 refine b6 (xs:=rows.map iN) (λi σ H'=>∃(st:List (List LJ)×List (Nat×LJ)) (qs:LL) (o4 o5:LR),σ=[Sm (.ref F),Sm (.ref rw),Sm (.ref tk),Sm (.ref W),o4,o5]/\st=(rows.take i).foldl (λst i=>ptT toks i st) (Ks,[])/\GA J H H'/\B6 H' F J st.1/\H' W=Sm (.lst (qs.map V.ref))/\BW H' qs st.2/\IR Ks (16*i) st)
  (yI4 _ ([]) _ _ #[rfl,rfl,λa o _ e=>s1 _ _ e,hP.keep s1,e1,BW.nil _,B0]) (λi σ H' _ hh=>by revert hh;refine yF4 λ_ _ _ _=>yB4 λ_ _ z _=>?_;exact ud.of (z _ _ (hP.off a4 (λ_=>'~')) a4)) ?_ ?_
 .intro i v σ H2 hv;refine yF4 λst qs o4 o5=>yB7 ?_;rintro rfl ab k2 P2 w2 L2 B2;have hi:i<rows.length:=by have:=(KO.mp hv).1;simpa using this
  rw[yf,zg hi]at hv;cases hv;have a5:=a3 _ (xF hi);have eo:=jh (λst i=>ptT toks i st) (Ks,[]) hi;rw[<-ab]at eo;generalize rows[i]=at_ at a5 eo |-;have al:=hP.off as (λ_=>'~')
  cbv;refine#[#[_,ud.of (k2 _ _ al as)],?_];refine b6 (xs:=cs.map V.ref) (λj σ H'=>∃(S:List (List LJ)×List (Nat×LJ)) (qs:LL) (o5:LR),σ=[Sm (.ref F),Sm (.ref rw),Sm (.ref tk),Sm (.ref W),Sm (.int (at_:Int)),o5]/\S=(toks.take j).foldl (λst t=>pt1 st at_ t) st/\GA J H H'/\B6 H' F J S.1/\H' W=Sm (.lst (qs.map V.ref))/\BW H' qs S.2/\IR Ks (16*i+j) S)
   (yI3 st qs _ #[rfl,rfl,k2,P2,w2,L2,B2]) (λj σ H' _ hh=>by revert hh;refine yF3 λ_ _ _=>yB4 λ_ _ z _=>?_;exact ud.of (z _ _ al as)) ?_ ?_
  .intro j v σ H3 hv;refine yF3 λS qs o5=>yB7 ?_;rintro rfl ac k3 Z w3 L3 U;have hj:j<cs.length:=by have:=(KO.mp hv).1;simpa using this
   rw[yf,zg hj]at hv;cases hv;have a8:j<toks.length:=by rw[<-hT.1];exact hj
   have ag:=hT.2 j _ _ (zg hj) (zg a8);have ei:=jh (λst t=>pt1 st at_ t) st a8;rw[<-ac]at ei;have O:cF H3 cs[j] toks[j]:=k3 _ _ (hP.off ag (λ_=>'~')) ag;generalize toks[j]=t at ei O;generalize cs[j]=c at O |-;have a6:H3 c=Sm (.tup ((eZ t).map kV)):=by rw[lG];exact O
   have be:at_<J.length:=by rw[Z.2.1,U.1];exact a5
   have b0:at_<S.1.length:=by rw[U.1];exact a5
   have ad:=zg be;have a7:=zg b0;have a9:=Z.2.2.2 at_ _ _ ad a7;have eg:S.1.getD at_ []=S.1[at_]:=by rw[xV,a7];rfl
   cbv;refine X2 (ud.of Z.1) (ao (by rw[yf,ad];rfl)) (yI4 (J[at_]) c _ (eZ t) #[rfl,rfl,a9,a6,?_]);rw[kB];unfold K56.pt1 at ei;rw[eg]at ei;have b2:=U.2.2 at_;rw[eg]at b2;have b4:=U.2.1;refine#[_,rfl,aP (λc1=>?_) (λc1=>?_)]
   .have Y:t∉S.1[at_]:=by simpa using c1
    rw[KQ Y]at ei;have bh:bU (e_ S.1[at_]) (eZ t)=Nn:=by
     have:=kB S.1[at_] t;rw[decide_eq_false Y]at this;exact Option.isSome_eq_false_iff.mp this |> Option.isNone_iff_eq_none.mp
    refine X2 (ud.of Z.1) (ao (by rw[yf,ad];rfl)) (yI4 (J[at_]) c _ (eZ t) #[rfl,rfl,a9,a6,aJ (by unfold e_;rw[ze];lia),?_]);rw[tZ _ bh,show e_ S.1[at_]++[(eZ t,V.bl true)]=e_ (S.1[at_]++[t]) by unfold e_;rw[yH];rfl];have bt:J[at_]∈J:=xF be;have P4:=Z.put ad (S.1[at_]++[t]);have kk:∀a o,a∉J->H3 a=Sm o->upd H3 J[at_] (.dT (e_ (S.1[at_]++[t]))) a=Sm o:=λa o ha e=>by rw[aw (λz=>ha (by rw[z];exact bt))];exact e
    have k4:=k3.trans kk;have w4:=kk _ _ fo w3;have L4:=L3.keep λa xs e=>kk _ _ (Z.off e (λ_=>'~')) e;have t4:cF _ c t:=kk _ _ (Z.off O (λ_=>'~')) O;generalize upd H3 J[at_] (.dT (e_ (S.1[at_]++[t])))=H4 at P4 k4 w4 L4 t4 |-;rw?;refine⟨⟨_,ud.of w4⟩,∅,λq1 bc=>⟨_,ak bc _ _ _ w4,by rw[ze,L3.1];exact aJ (),?_⟩⟩
    have s5:=ak bc (.tup [V.int (at_:Int),V.ref c]);have e5:upd H4 q1 (.tup [V.int (at_:Int),V.ref c]) q1=Sm (.tup [V.int (at_:Int),V.ref c]):=ai;have w5:=s5 _ _ w4;have L5:=(L4.keep λa xs e=>s5 _ _ e).app (BW.one (pl:=(at_,t)) #[c,e5,s5 _ _ t4]);have b1:F≠W:=λz=>by rw[<-z,hP.1]at hW;cases hW
    refine yI3 _ (qs++[q1]) _ #[rfl,ei.symm,λa o ha e=>?_,(P4.keep s5).else b1 fo,by rw[ai,yH];rfl,L5.keep λa xs e=>?_,?_]
    .rw[aw (λz=>by rw[z,hW]at e;cases e)];exact s5 _ _ (k4 _ _ ha e)
    .rw[aw (λz=>by rw[z,w5]at e;cases e)];exact e
    .have:=U.pt1 (i:=at_) (t:=t);unfold K56.pt1 at this;rw[eg,KQ Y]at this;exact this
   .have bg:t∈S.1[at_]:=by simpa using c1
    rw[KZ bg]at ei;exact yI3 S qs _ #[rfl,ei.symm,k3,Z,w3,L3,U.1,(),U.2.2]
  .intro σ H3;refine yF3 λS qs o5=>yB7 ?_;rintro rfl ac k3 Z w3 L3 U;rw[ze,hT.1,tO]at ac;refine yI4 S qs _ _ #[rfl,by rw[ac,eo];rfl,k3,Z,w3,L3,U.1,by have:=U.2.1;rw[ze,hT.1]at this;lia,U.2.2]
 .intro σ H2;refine yF4 λst qs o4 o5=>yB7 ?_;rintro rfl ab k2 P2 w2 L2 B2;rw[ze,tO]at ab;rw?;subst ab;exact q W H2 qs k2 P2 hW w2 L2
abbrev dI:=List (List LJ)
variable{Ks:dI}
structure Im (Ks:dI) (Z:Nat->LJ->Prop) (st:dI×List (Nat×LJ)):Prop where
 len:st.1.length=Ks.length
 mono:∀j x,x∈Ks.getD j []->x∈st.1.getD j []
 new:∀j x,x∈st.1.getD j []->x∈Ks.getD j []\/(j,x)∈st.2
 sum:(st.1.map List.length).sum=(Ks.map List.length).sum+st.2.length
 nd:∀j,(st.1.getD j []).Nodup
 ok:∀pl∈st.2,pl.1<Ks.length/\Z pl.1 pl.2
theorem j6{ks:List LJ}(hi:i<Ks.length):(Ks.set i ks).getD j []=if i=j then ks else Ks.getD j []:=by
 rw[xV,xV,List.getElem?_set];split
 .rename_i e;subst e;simp[hi]
 .rfl
theorem vz:∀ {Ks:dI} {i:Nat} {t:LJ},i<Ks.length->((Ks.set i (Ks.getD i []++[t])).map List.length).sum=(Ks.map List.length).sum+1
 | [],_,_,h=>by simp at h
 | ks::Ks,0,t,_=>by simp;lia
 | ks::Ks,i+1,t,h=>by
  have:=vz (Ks:=Ks) (i:=i) (t:=t) (by simpa using h);simp only[List.set_cons_succ,List.getD_cons_succ,yX,iS];lia
theorem Im.pt1{Z:Nat->LJ->Prop}{st:dI×List (Nat×LJ)}{t:LJ}(h:Im Ks Z st)(hi:i<Ks.length)(U:Z i t):Im Ks Z (pt1 st i t)/\t∈(pt1 st i t).1.getD i []/\∀j x,x∈st.1.getD j []->x∈(pt1 st i t).1.getD j []:=by
 have F:i<st.1.length:=by rw[h.len];exact hi
 unfold K56.pt1;by_cases c:t∈st.1.getD i []
 .rw[KZ c];exact#[h,c,λ_ _ z=>z]
 rw[KQ c];have J:∀j x,x∈st.1.getD j []->x∈(st.1.set i (st.1.getD i []++[t])).getD j []:=λj x hx=>by
  rw[j6 F];split
  .rename_i e;subst e;exact sE _ hx
  .exact hx
 refine#[#[by rw[List.length_set];exact h.len,λj x hx=>J j x (h.mono j x hx),λj x hx=>?_,?_,λj=>?_,λpl S=>?_],?_,J]
 .rw[j6 F]at hx;split at hx
  .rename_i e;subst e;rcases K8.mp hx with z | z
   .exact(h.new i x z).imp id (sE _)
   .rw[KU.mp z];exact .inr (nS _ (KU.mpr rfl))
  .exact(h.new j x hx).imp id (sE _)
 .show ((st.1.set i (st.1.getD i []++[t])).map List.length).sum=_;rw[vz F,h.sum,jn];rfl
 .rw[j6 F];split
  .rename_i e;subst e;rw[ID];exact#[h.nd i,Lo.mpr #['~',Ih],λa W b O z=>c (by rw[KU.mp O]at z;rw[<-z];exact W)]
  .exact h.nd j
 .rcases K8.mp S with z | z
  .exact h.ok pl z
  .rw[KU.mp z];exact#[hi,U]
 .show t∈(st.1.set i (st.1.getD i []++[t])).getD i [];rw[j6 F,KZ rfl];exact nS _ (KU.mpr rfl)
theorem Im.ptT{Ks:dI}{Z:Nat->LJ->Prop}{i:Nat}(hi:i<Ks.length):∀ {toks:List LJ} {st:dI×List (Nat×LJ)},Im Ks Z st->(∀t∈toks,Z i t)->Im Ks Z (ptT toks i st)/\(∀t∈toks,t∈(ptT toks i st).1.getD i [])/\∀j x,x∈st.1.getD j []->x∈(ptT toks i st).1.getD j []
 | [],st,h,_=>#[h,#[λ_ z=>(yT z).elim,λ_ _ z=>z]]
 | t::toks,st,h,ht=>by
  let#[h1,h2,J]:=h.pt1 hi (ht t yy);let#[O,S,F]:=h1.ptT hi λx hx=>ht x (yS _ hx);refine#[O,λx hx=>?_,λj x hx=>F j x (J j x hx)];rcases K7.mp hx with z | z
  .rw[z];exact F i t h2
  .exact S x z
theorem Im.ptR{Ks:dI}{Z:Nat->LJ->Prop}{toks:List LJ}:∀ {rows:LJ} {st:dI×List (Nat×LJ)},Im Ks Z st->(∀i∈rows,i<Ks.length/\∀t∈toks,Z i t)->Im Ks Z (rows.foldl (λst i=>K56.ptT toks i st) st)/\(∀i∈rows,∀t∈toks,t∈(rows.foldl (λst i=>K56.ptT toks i st) st).1.getD i [])/\∀j x,x∈st.1.getD j []->x∈(rows.foldl (λst i=>K56.ptT toks i st) st).1.getD j []
 | [],st,h,_=>#[h,#[λ_ z=>(yT z).elim,λ_ _ z=>z]]
 | i::rows,st,h,hr=>by
  let#[h1,h2,O]:=h.ptT (hr i yy).1 (hr i yy).2;let#[S,U,J]:=h1.ptR λx hx=>hr x (yS _ hx);refine#[S,λx hx t F=>?_,λj x hx=>J j x (O j x hx)];rcases K7.mp hx with z | z
  .rw[z];exact J i t (h2 t F)
  .exact U x z t F
structure Ho (R:List aC) (rl:Rl) (Z:Nat->LJ->Prop) (m:Nat) (Ks:dI) (W:List (Nat×LJ)):Prop where
 len:Ks.length=R.length
 nd:∀j,(Ks.getD j []).Nodup
 bd:∀j x,x∈Ks.getD j []->Z j x
 beg:∀i r,i<m->R[i]?=Sm r->∀j∈cr i r,∀t∈cE rl r [],t∈Ks.getD j []
 cl:∀i r,R[i]?=Sm r->∀x∈Ks.getD i [],(i,x)∈W\/∀j∈cr i r,∀t,Ie rl r x t->t∈Ks.getD j []
 wok:∀pl∈W,pl.1<R.length/\Z pl.1 pl.2
 sum:W.length<=(Ks.map List.length).sum
theorem Ho.step{U:Rl}{Z:Nat->LJ->Prop}{m':Nat}{W V:List (Nat×LJ)}{toks:List LJ}(I:Ho R U Z m Ks W)(hi:R[i]?=Sm r)(O:∀j∈cr i r,j<R.length)(ht:∀j∈cr i r,∀t∈toks,Z j t)
  (hb:∀a,a<m'->a<m\/(a=i/\∀t∈cE U r [],t∈toks)) (hV:∀pl∈V,pl∈W) (hl:V.length<=W.length) (hW:∀a x,(a,x)∈W->(a,x)∈V\/(a=i/\∀t,Ie U r x t->t∈toks)) :
  Ho R U Z m' (fJ Ks (cr i r) toks).1 (V++(fJ Ks (cr i r) toks).2)/\((fJ Ks (cr i r) toks).1.map List.length).sum=(Ks.map List.length).sum+(fJ Ks (cr i r) toks).2.length:=by
 have P0:Im Ks Z (Ks,[]):=#[rfl,λ_ _ z=>z,λ_ _ z=>.inl z,rfl,I.nd,λ_ z=>nomatch z];let#[J,g2,g3]:=P0.ptR (toks:=toks) (rows:=cr i r) λa Y=>#[by rw[I.len];exact O a Y,ht a Y];show Ho R U Z m' ((cr i r).foldl (λst i=>K56.ptT toks i st) (Ks,[])).1 _/\_;unfold fJ;generalize (cr i r).foldl (λst i=>K56.ptT toks i st) (Ks,[])=st at J g2 g3;refine#[#[J.len.trans I.len,J.nd,λj x hx=>?_,λa q Y S j O t F=>?_,λa q S x hx=>?_,λpl hp=>?_,?_],J.sum]
 .rcases J.new j x hx with z | z
  .exact I.bd j x z
  .exact(J.ok _ z).2
 .rcases hb a Y with z | ⟨rfl,z⟩
  .exact g3 j t (I.beg a q z S j O t F)
  .rw[hi]at S;cases S;exact g2 j O t (z t F)
 .rcases J.new a x hx with z | z
  .rcases I.cl a q S x z with y | y
   .rcases hW a x y with u | ⟨rfl,u⟩
    .exact .inl (sE _ u)
    .rw[hi]at S;cases S;exact .inr λj O t F=>g2 j O t (u t F)
   .exact .inr λj O t F=>g3 j t (y j O t F)
  .exact .inl (nS _ z)
 .rcases K8.mp hp with z | z
  .exact I.wok pl (hV pl z)
  .let#[h1,h2]:=J.ok pl z;exact#[by rw[<-I.len];exact h1,h2]
 .rw[jn,J.sum];have:=I.sum;lia
theorem zR:∀ {Ks:dI} {b:Nat},(∀ks∈Ks,ks.length<=b)->(Ks.map List.length).sum<=Ks.length*b
 | [],b,_=>'~'
 | ks::Ks,b,h=>by
  have h1:=zR λx hx=>h x (yS ks hx);have h2:=h ks yy;rw[yX,iS,ye,Nat.add_mul,Nat.one_mul];lia
theorem jS{α β : Type}{f:α->List β}{c:Nat}(h:∀a,(f a).length=c):∀l:List α,(l.flatMap f).length=l.length*c
 | []=>'~'
 | a::l=>by rw[KD,jn,h a,jS h l,ye,Nat.add_mul,Nat.one_mul,Nat.add_comm]
inductive Hi (sd:Int) (B Z:Nat):LJ->Prop
 | h1 (n k:Nat):sd=1->n<B->k<Z->Hi sd B Z [n,k]
 | one (n:Nat):sd=2->n<B->Hi sd B Z [n]
 | two (n m o:Nat):sd=2->n<B->m<B->o<3->Hi sd B Z [n,m,o]
 | tie (n m o k:Nat):sd=2->n<B->m<B->o<3->k<Z->Hi sd B Z [n,m,o,k]
theorem Hi.tka{sd:Int}{B Z:Nat}{ts:LJ}(h:Hi sd B Z ts):kq sd Z ts:=by
 cases h with
 | h1 n k a _ b=>exact .h1 n k a b
 | one n a _=>exact .one n a
 | two n m o a _ _ _=>exact .two n m o a
 | tie n m o k a _ _ _ b=>exact .tie n m o k a b
noncomputable def yp(sd:Int)(B Z:Nat):List LJ:=(List.range B).flatMap λn=>if sd=1 then (List.range Z).map λk=>[n,k] else [n]::(List.range B).flatMap λm=>(List.range 3).flatMap λo=>[n,m,o]::(List.range Z).map λk=>[n,m,o,k]
theorem Hi.all{sd:Int}{B Z:Nat}{ts:LJ}(h:Hi sd B Z ts):ts∈yp sd B Z:=by
 unfold yp;cases h with
 | h1 n k e a b=>exact K2.mpr #[n,Lg.mpr a,by rw[KZ e];simp[b]]
 | one n e a=>exact K2.mpr #[n,Lg.mpr a,by rw[KQ ()];simp]
 | two n m o e a b c=>exact K2.mpr #[n,Lg.mpr a,by rw[KQ ()];exact yS _ (K2.mpr #[m,Lg.mpr b,K2.mpr #[o,Lg.mpr c,'~']])]
 | tie n m o k e a b c d=>exact K2.mpr #[n,Lg.mpr a,by rw[KQ ()];exact yS _ (K2.mpr #[m,Lg.mpr b,K2.mpr #[o,Lg.mpr c,by simp[d]]])]
noncomputable def fj(sd:Int)(B Z:Nat):Nat:=B*if sd=1 then Z else B*(3*(Z+1))+1
theorem BK(sd:Int)(B Z:Nat):(yp sd B Z).length=fj sd B Z:=by
 unfold yp fj;rw[jS (c:=if sd=1 then Z else B*(3*(Z+1))+1) λn=>?_,JB];split
 .simp
 rw[ye,jS (c:=3*(Z+1)) λm=>?_,JB];rw[jS (c:=Z+1) λo=>?_,JB];rw[ye,ze,JB]
theorem G6{B Z:Nat}{l:List LJ}(F:l.Nodup)(h:∀x∈l,Hi sd B Z x):l.length<=fj sd B Z:=by
 rw[<-BK];exact gA F λx hx=>(h x hx).all
theorem Ho.cap{O:Rl}{B Z:Nat}{F:Nat->LJ->Prop}{W:List (Nat×LJ)}(I:Ho R O F m Ks W)(hz:∀j x,F j x->Hi sd B Z x):(∀ks∈Ks,ks.length<=fj sd B Z)/\(Ks.map List.length).sum<=R.length*fj sd B Z:=by
 have h:∀ks∈Ks,ks.length<=fj sd B Z:=λks S=>by
  let#[j,J,rfl]:=Le.mp S;have e:Ks.getD j []=Ks[j]:=by rw[xV,zg J];rfl
  rw[<-e];exact G6 (I.nd j) λx hx=>hz _ _ (I.bd j x hx)
 exact#[h,by rw[<-I.len];exact zR h]
theorem Ia{s:Nat}(h:bi n s=false)(J:s<N)(F:n<2^N):n+2^s<2^N:=by
 have e:=sx n s;unfold jv at e;rw[KQ (by rw[h];decide)]at e;rw[<-e];exact Nat.or_lt_two_pow F (Nat.pow_lt_pow_right ∅ J)
theorem jI(J:Do N r)(F:n<2^N):ci r n<2^N:=by
 have hd:∀s,aX n s<2^N:=λs=>by
  unfold aX;split
  .exact Nat.lt_of_le_of_lt (Nat.sub_le _ _) F
  .exact F
 unfold ci;split
 .rename_i c;let#[_,O]:=J.s2 (by rw[c.1];decide);unfold jv;split
  .exact F
  .rename_i b;exact Ia (Ll.mpr b) O F
 .split
  .exact hd _
  .exact F
theorem wJ(s:Nat)(F:n<2^N):aX n s<2^N:=by
 unfold aX;split
 .exact Nat.lt_of_le_of_lt (Nat.sub_le _ _) F
 .exact F
theorem mC{F:Rl}(ok:dD F):∀ {xs:LI} {k j:Nat},k<F.rs.length->after F k xs=Sm j->j<F.rs.length
 | [],k,j,hk,h=>by cases h;exact hk
 | x::xs,k,j,hk,h=>by
  unfold after at h;cases e:step F k x with
  | none=>rw[e]at h;cases h
  | some i=>rw[e]at h;exact mC ok (li ok hk e) h
theorem vw{N:Nat}{J:Rl}{r:aC}(ok:dD J)(W:Do N r){O:List LJ}(h:∀t∈O,Hi J.s (2^N) J.rs.length t):∀t∈cE J r O,Hi J.s (2^N) J.rs.length t:=λt F=>by
 have n0:=ok.n0;unfold cE at F;split at F
 .rename_i c;let#[_,U]:=W.s2 (by rw[c];decide);have S:2^aG r 2<2^N:=Nat.pow_lt_pow_right ∅ U;unfold gq at F;split at F
  .rename_i h1;split at F
   .rename_i j e;rw[KU.mp F];exact .h1 _ _ h1 S (li ok () e)
   .cases F
  .rename_i h1;have h2:J.s=2:=by rcases ok.s with z | z<;>lia
   rcases K7.mp F with z | z
   .rw[z];exact .one _ h2 S
   .let#[x,hx,hx2]:=K2.mp z;have:=h x hx;split at hx2
    .rename_i hl;cases this with
     | one n _ hn=>
      simp only[yk,yT,or_false]at hx2;rcases hx2 with rfl | rfl
      .exact .two _ _ _ h2 (wJ _ hn) S ∅
      .exact .two _ _ _ h2 S (wJ _ hn) ∅
     | _=>simp at hl
    .cases hx2
 .split at F
  .unfold gb at F;let#[x,hx,rfl]:=K3.mp F;let#[hx,hx2]:=Lh.mp hx;have:=h x hx;have hl:x.length=3:=by
    simp only[KI,decide_eq_true_eq]at hx2;exact hx2.1.1
   cases this with
   | two n m o h2 a b c=>exact .tie _ _ _ _ h2 a b c ()
   | _=>simp at hl
  .cases F
theorem Hy{N:Nat}{F:Rl}{r:aC}(ok:dD F)(J:Do N r){ts S:LJ}(h:Hi F.s (2^N) F.rs.length ts)(e:fP F r ts=Sm S):Hi F.s (2^N) F.rs.length S:=by
 unfold fP at e;split at e
 .cases e
 cases h with
 | h1 n k a b c=>
  let#[j,O,rfl]:=Lb.mp e;exact .h1 _ _ a (jI J b) (mC ok c O)
 | one n a b=>cases e;exact .one _ a (jI J b)
 | two n m o a b c d=>cases e;exact .two _ _ _ a (jI J b) (jI J c) d
 | tie n m o k a b c d f=>
  let#[j,O,rfl]:=Lb.mp e;exact .tie _ _ _ _ a (jI J b) (jI J c) d (mC ok f O)
theorem Ie.zt{F:Rl}(ok:dD F)(J:Do N r){k:LJ}(h:Hi F.s (2^N) F.rs.length ts)(m:Ie F r ts k):Hi F.s (2^N) F.rs.length k:=by
 rcases m with z | z
 .exact vw ok J (λt O=>by rw[KU.mp O];exact h) k z
 .exact Hy ok J h z
inductive G9 (R:List aC) (rl:Rl):Nat->LJ->Prop
 | beg {i j:Nat} {r:aC} {t:LJ}:R[i]?=Sm r->j∈cr i r->t∈cE rl r []->G9 R rl j t
 | mk {i j:Nat} {r:aC} {t k:LJ}:G9 R rl i t->R[i]?=Sm r->j∈cr i r->Ie rl r t k->G9 R rl j k
theorem G9.zt{N:Nat}{R:List aC}{F:Rl}(ok:dD F)(J:∀(i:Nat) r,R[i]?=Sm r->Do N r){j:Nat}{t:LJ}(h:G9 R F j t):Hi F.s (2^N) F.rs.length t:=by
 induction h with
 | beg e _ m=>exact vw ok (J _ _ e) (λt O=>by cases O) _ m
 | mk _ e _ m ih=>exact m.zt ok (J _ _ e) ih
theorem Ho.cme{R:List aC}{F:Rl}{Ks:dI}(I:Ho R F (G9 R F) R.length Ks [])(j:Nat)(t:LJ):t∈Ks.getD j [] ↔ G9 R F j t:=by
 refine#[I.bd j t,λh=>?_]
 induction h with
 | beg e hj m=>exact I.beg _ _ (KO.mp e).1 e _ hj _ m
 | mk _ e hj m ih=>
  rcases I.cl _ _ e _ ih with z | z
  .cases z
  .exact z _ hj _ m
noncomputable def yE(H:Hp)(b:so):LJ:=match H b with
 | some (.tup vs)=>vs.map λv=>match v with
  | .int n=>n.toNat
  | _=>0
 | _=>[]
theorem mI{b:so}(h:cF H b ts):yE H b=ts:=by
 unfold yE;rw[show H b=_ from h];show (ts.map iN).map _=ts;rw[oq];exact List.map_id ts
theorem Hi.ne{B Z:Nat}(h:Hi sd B Z ts):ts≠[]:=by cases h<;>simp
def Hj(H:Hp)(l:so)(Ky:List LJ):Prop:=∃(cs:LL) (ks:List LJ),H l=Sm (.lst (cs.map V.ref))/\yl H cs ks/\ks.length<=60000/\∀x,x∈ks ↔ x∈Ky
theorem HZ{O:List LJ}{bs F:LL}{l:so}(hl:H l=Nn)(hn:O.length<=60000)(Z:LG (λ(p:List aT×V) b=>H b=Sm (.tup (p.1.map kV))) (e_ O) bs)(W:F.Perm bs):Hj (upd H l (.lst (F.map V.ref))) l O:=by
 have s1:=ak hl (.lst (F.map V.ref));have U:O.length=bs.length:=by have:=zaJ Z;unfold e_ at this;rw[ze]at this;exact this
 have at_:∀(j:Nat) b x,bs[j]?=Sm b->O[j]?=Sm x->cF H b x:=λj b x h1 h2=>by
  have:=iC Z (show (e_ O)[j]?=Sm (eZ x,V.bl true) by unfold e_;rw[yf,h2];rfl) h1;rw[lG]at this;exact this
 have mem:∀b∈bs,∃x∈O,cF H b x:=λb S=>by
  let#[j,Y,e]:=Le.mp S;have J:j<O.length:=()
  exact#[O[j],xF J,at_ j b _ (by rw[zg Y,e]) (zg J)]
 refine yI2 F (F.map (yE H)) #[ai,#[by rw[ze],λi c k h1 h2=>?_],by rw[ze,W.length_eq,<-U];exact hn,λx=>#[λhx=>?_,λhx=>?_]]
 .rw[yf,h1]at h2;cases h2;let#[x,_,hx]:=mem c (W.mem_iff.mp (me h1));rw[mI hx];exact s1 _ _ hx
 .let#[b,S,rfl]:=K3.mp hx;let#[y,hy,e]:=mem b (W.mem_iff.mp S);rw[mI e];exact hy
 .let#[j,Y,rfl]:=Le.mp hx;have J:j<bs.length:=()
  exact K3.mpr #[bs[j],W.mem_iff.mpr (xF J),mI (at_ j _ _ (zg J) (zg Y))]
theorem Hj.keep{l:so}{F:List LJ}(h:Hj H l F)(S:∀a xs,H a=Sm (.tup xs)->H' a=Sm (.tup xs))(s2:H' l=H l):Hj H' l F:=by
 revert h;refine yF2 λcs ks=>yB4 λU J W O=>?_;exact yI2 cs ks #[s2.trans U,#[J.1,λi c k h1 h2=>S _ _ (J.2 i c k h1 h2)],W,O]
def Ik(R:List aC)(rl:Rl)(N:Nat):Prop:=Jv N R/\N<=9000/\dD rl/\fj rl.s (2^N) rl.rs.length<=60000/\R.length*fj rl.s (2^N) rl.rs.length<=15000000/\R.length<=1000000
def wz:Sp:=λvs H Q _=>∃(c p:so) (R:List aC) (rl:Rl) (N:Nat),vs=[.ref c,.ref p]/\B5 H c R/\CU H p rl/\Ik R rl N/\
 ∀(L:so) (H':Hp) (ls:LL) (Ks:dI),sg H H'->H L=Nn->H' L=Sm (.lst (ls.map V.ref))->ls.length=R.length->(∀j t,t∈Ks.getD j [] ↔ G9 R rl j t)->(∀(j:Nat) l,ls[j]?=Sm l->Hj H' l (Ks.getD j []))->Q (.ref L) H'
theorem jG(i:Nat)(r:aC):(cr i r).length<=2:=by
 unfold cr;split
 .simp
 split
 .simp
 split<;>simp
theorem vM{S:Hp}{F O rb tk:so}{J qs cs:LL}{U:List (Nat×LJ)}{rows:LJ}{toks:List LJ}{Q':VK}(sm:sg H S)(a4:∀fd∈J,H fd=Nn)(as:H O=Nn)(a5:F≠O)(P:B6 S F J Ks)(w:S O=Sm (.lst (qs.map V.ref)))(L:BW S qs U)(al:∀ks∈Ks,ks.length<=60000)
  (e1:S rb=Sm (.lst (rows.map iN))) (e2:S tk=Sm (.lst (cs.map V.ref))) (hT:yl S cs toks) (hr:∀j∈rows,j<Ks.length) (ad:rows.length<=2) (a3:toks.length<=16) (hp:U.length+(fJ Ks rows toks).2.length<=16000000)
  (q:∀(Z:Hp) (ab:LL),sg H Z->B6 Z F J (fJ Ks rows toks).1->Z O=Sm (.lst (ab.map V.ref))->BW Z ab (U++(fJ Ks rows toks).2)->Q' .non Z):uJ [.ref F,.ref rb,.ref tk] S (λx H4=>lJ (.ref O) [x] H4 Q') E0:=by
 have W:O∉J:=P.off w (λ_=>'~');refine yI8 F rb tk rows cs J toks Ks #[rfl,e1,e2,hT,P,hr,ad,a3,al,λW' H4 ag kx P4 Y e4 L4=>?_];have w4:=kx _ _ W w;have ac:=L.keep λa xs e=>kx _ _ (P.off e (λ_=>'~')) e;have a6:O≠W':=λz=>by rw[<-z,w]at Y;cases Y
 refine yI4 O W' _ _ #[rfl,rfl,w4,e4,by rw[ze,ze,L.1,L4.1];exact xH hp ∅,q _ (qs++ag) (λa o e=>?_) (P4.else a5 W) (by rw[ai,yH]) ((ac.app L4).keep λa xs e=>?_)]
 .have ha:a∉J:=λz=>by rw[a4 a z]at e;cases e
  rw[aw (λz=>by rw[z,as]at e;cases e)];exact kx _ _ ha (sm _ _ e)
 .rw[aw (λz=>by rw[z,w4]at e;cases e)];exact e
theorem Cj(D:xn K mg "paper_of" bj) (a5:mg "range" = Nn) (a6:wAK mg) (al:mg "sorted" = Nn) (bg:aH P w K mg base 1 "put" qAp uJ) (J:aH P w K mg base 1 "rows_behind" ["code","at"] zh) (Y:aH P w K mg base 3 "begins_at" qAc ug) (ac:aH P w K mg base 6 "made_of" qAR A4):aH P w K mg base 7 "paper_of" ["code","rule"] wz:=by
 refine D.cal (k:=6) Dk (λf ec A outer s0 H vs Q E hr h=>?_);revert h;refine yF5 λc p R rl N=>yB5 ?_;rintro rfl hC hR ⟨ab,hN,ok,cv,eb,c4⟩ q;have a3:∀j x,G9 R rl j x->Hi rl.s (2^N) rl.rs.length x:=λj x h=>h.zt ok λi r e=>(ab.row i r e).1;refine⟨_,(ah (iA (C5.to (fsc:=(rd bj)) (N:=qAE) (N0:=qAE) (T:=["row"])) rfl Dk.nd (i:=2) rfl Rh (bJ K (pv 0)) (λ_ _ _ _=>(aV 6 (show (["code","rule","found","waiting","at","place","row"]:LI).Nodup from ⋯))) (cN (show (qAE:LI).length<=6 from ∅)) (λ_ _ _ _=>eJ) (λ_ _ _ _=>uh))
   (ah (av 3 Dk.nd (aI ae))
   (ah (bT xm rfl (fA QE a5 (aa (br (aU K) a6 bG (aa (pv 0) ae)) ae)) (aV 4 Dk.nd) (aj (bo (bB K xl KJ KG eI (pv 3) (aa (ax bg hr (aa (pv 2) (aa (ax J hr (aa (pv 0) (aa (pv 4) ae))) (aa (ax Y hr (aa (pv 0) (aa (pv 1) (aa (pv 4) (aa (aI ae) ae))))) ae)))) ae)))))
   (ah (j3 xm (az lf (br (aU K) a6 bG (aa (pv 3) ae)) af (aB _)) (ah (av 5 Dk.nd (wg K xl PySem.F.slot_list_pop PySem.F.type_list_pop vO (pv 3)))
   (ah (av 4 Dk.nd (am (au K) (pv 5) af))
   (aj (bo (bB K xl KJ KG eI (pv 3) (aa (ax bg hr (aa (pv 2) (aa (ax J hr (aa (pv 0) (aa (pv 4) ae))) (aa (ax ac hr (aa (pv 0) (aa (pv 1) (aa (pv 4) (aa (am (au K) (pv 5) af) ae))))) ae)))) ae)))))))
   (aj (aA (eV (C5.to (fsc:=(rd bj)) (N:=qAE) (N0:=qAE) (T:=["tokens"])) rfl (bJ K (pv 2)) (λ_ _ _ _=>(aV 6 (show (["code","rule","found","waiting","at","place","tokens"]:LI).Nodup from ⋯))) (cN (show (qAE:LI).length<=6 from ∅)) (λ_ _ _ _=>eJ) (λ_ _ _ _=>(br (yc K hr) al jg (aa (pv 6) ae)))))))))),?_⟩
 let#[as,a1,a2]:=id hC;have hl:=aQ a2;cbv;refine#[#[_,ud.of a1],λF hF=>?_];refine iG (xs:=as.map V.ref) (λi ys H'=>sg H H'/\∃O:LL,ys=O.map V.ref/\H' F=Sm (.lst (O.map V.ref))/\O.length=i/\O.Nodup/\∀fd∈O,H fd=Nn/\H' fd=Sm (.dT [])) #[ak hF _,[],rfl,ai,rfl,Ih,λ_ z=>nomatch z] (λi ys H' _ hh=>ud.of (hh.1 _ _ a1)) ?_ ?_
 .intro i ys H' v hv hi;refine yB2 λsm=>yF1 λO=>yB5 ?_;rintro rfl eF ad b0 be;cbv;intro d hd;have s1:=ak hd (.dT []);have d2:d≠F:=λz=>by rw[z,eF]at hd;cases hd
  refine iD hi (by rw[ze];exact ad) (by rw[ze,hl];exact aJ c4) (s1 _ _ eF) #[(sm.trans s1).upd hF _,O++[d],'~',by rw[ai];simp,by simp[ad],?_,λfd hf=>?_]
  .rw[ID];exact#[b0,'~',λa ha b hb z=>by rw[KU.mp hb]at z;have:=(be a ha).2;rw[z,hd]at this;cases this]
  .rcases K8.mp hf with z | z
   .let#[z1,z2]:=be fd z;refine#[z1,?_];rw[aw (λy=>by rw[y,eF]at z2;cases z2)];exact s1 _ _ z2
   .rw[KU.mp z];exact#[sm.free hd,by rw[aw d2];exact ai]
 intro ys H1;refine yB2 λs1=>yF1 λO=>yB5 ?_;rintro rfl eF ad b0 be;rw[ze,hl]at ad;rw?;refine#[∅,λU ag=>?_];have s2:=ak ag (.lst []);have e2:upd H1 U (.lst []) U=Sm (.lst (([]:LL).map V.ref)):=ai;have ca:H U=Nn:=s1.free ag;have cn:F≠U:=λz=>by rw[<-z,eF]at ag;cases ag
 have P0:B6 (upd H1 U (.lst [])) F O (List.replicate R.length []):=⟨s2 _ _ eF,by rw[ad,zaL],b0,λj fd ks h1 h2=>by
  have hk:ks=[]:=List.eq_of_mem_replicate (me h2);rw[hk];exact s2 _ _ (be fd (me h1)).2⟩
 have cb:∀j,(List.replicate R.length ([]:List LJ)).getD j []=[]:=λj=>by
  rw[xV,zaY];split<;>rfl
 have I0:Ho R rl (G9 R rl) 0 (List.replicate R.length []) []:=#[zaL,λj=>(by rw[cb];exact Ih),λj x hx=>(by rw[cb]at hx;cases hx),λi r hi=>(),λi r _ x hx=>(by rw[cb]at hx;cases hx),λ_ z=>(yT z).elim,gV _];have cd:=s1.trans s2;generalize upd H1 U (.lst [])=H2 at s2 e2 P0 cd |-;have bt:∀fd∈O,H fd=Nn:=λfd h=>(be fd h).1
 rw?;refine#[_,.inl (ud.of (cd _ _ a1)),?_];rw[ze,hl];refine#[(),(),?_];rw[mi];refine gu (λi σ H'=>∃(Ks:dI) (W:List (Nat×LJ)) (qs:LL) (o4:LR),σ=[Sm (.ref c),Sm (.ref p),Sm (.ref F),Sm (.ref U),o4,Nn]/\sg H H'/\B6 H' F O Ks/\H' U=Sm (.lst (qs.map V.ref))/\BW H' qs W/\Ho R rl (G9 R rl) i Ks W)
  (yI4 _ ([]) ([]) _ #[rfl,cd,P0,e2,BW.nil _,I0]) ?_ ?_
 .intro i σ H3 hi;refine yF4 λKs W qs o4=>yB6 ?_;rintro rfl s3 P3 w3 L3 I3;have S:=zg hi;have bc:=(ab.row i _ S).1;have a8:=ab.nx S;let#[da,ea]:=I3.cap a3;rw[Int.zero_add];cbv;refine#[#[_,ud.of w3],?_];refine yI5 c R i N _ #[rfl,hC.mono s3,ab,S,λrb H4 s4 d8 cz=>#[∅,λx hx=>?_]];∎;rename_i H5 s5 e5;have e5:H5 x=Sm (.lst (([]:LL).map V.ref)):=e5;have dm:=s3.trans (s4.trans s5);refine yI10 c p x R rl _ i N ([]) ([]) #[rfl,hC.mono dm,S,bc,hN,hR.mono dm,ok,e5,yl.nil _,'~',λtk H6 cs cc s6 d4 cq hT d9 hm _=>?_];have Z:=s4.trans (s5.trans s6);let#[I',dt]:=I3.step (m':=i+1) (V:=W) (toks:=cc) S a8 (λj hj t ht=>.beg S hj ((hm t).mp ht)) (λa ha=>by
   rcases HU a i with z | z
   .exact .inl z
   .exact .inr ⟨(),λt z=>(hm t).mpr z⟩) (λ_ z=>z) (zu _) (λa x z=>.inl z)
  have d1:=(I'.cap a3).2;have cm:=I'.sum;rw[jn]at cm;exact vM (s3.trans Z) bt ca cn (P3.keep Z) (Z _ _ w3) (L3.keep λa xs e=>Z _ _ e) (λks hk=>xH (da ks hk) cv) ((s5.trans s6) _ _ cz) cq hT (λj hj=>by rw[I3.len];exact a8 j hj) (jG _ _) () () λH7 b3 s7 P7 w7 L7=>yI4 _ _ b3 _ #[rfl,s7,P7,w7,L7,I']
 intro σ H3;refine yF4 λKs W qs o4=>yB6 ?_;rintro rfl s3 P3 w3 L3 I3;rw?;refine#[λm σ H'=>∃(Ks:dI) (W:List (Nat×LJ)) (qs:LL) (o4 o5:LR),σ=[Sm (.ref c),Sm (.ref p),Sm (.ref F),Sm (.ref U),o4,o5]/\sg H H'/\B6 H' F O Ks/\H' U=Sm (.lst (qs.map V.ref))/\BW H' qs W/\Ho R rl (G9 R rl) R.length Ks W/\m=2*(R.length*fj rl.s (2^N) rl.rs.length-(Ks.map List.length).sum)+W.length,yI6 _ Ks W qs o4 Nn #[rfl,s3,P3,w3,L3,I3,rfl],?_];clear I3 L3 w3 P3 s3;intro m σ H3;refine yF5 λKs W qs o4 o5=>yB7 ?_;rintro rfl s3 P3 w3 L3 I3 d3;have a7:=I3.cap a3;cbv;refine#[_,.inl (ud.of w3),?_];rw[ze];refine aP (λc1=>?_) (λc1=>?_)
 .have a4:qs≠[]:=λz=>by rw[z]at c1;simp at c1
  have bh:W≠[]:=λz=>a4 (zaP (by rw[L3.1,z];rfl));obtain⟨qs,q0,rfl⟩ : ∃gs x,qs=gs++[x]:=yI2 qs.dropLast (qs.getLast a4) ((za7 a4).symm);obtain⟨W,pl,rfl⟩ : ∃gs x,W=gs++[x]:=yI2 W.dropLast (W.getLast bh) ((za7 bh).symm);have dc:qs.length=W.length:=by have:=L3.1;simpa using this
  let#[t,t1,t2]:=L3.2 qs.length q0 pl '~' (by rw[dc];simp);let#[dV,cB]:=I3.wok pl (nS _ (KU.mpr rfl));have S:=zg dV;have bc:=(ab.row _ _ S).1;have a8:=ab.nx S;refine#[λσ' H'=>∃m',m'<m/\∃(Ks:dI) (W:List (Nat×LJ)) (qs:LL) (o4 o5:LR),σ'=[Sm (.ref c),Sm (.ref p),Sm (.ref F),Sm (.ref U),o4,o5]/\sg H H'/\B6 H' F O Ks/\H' U=Sm (.lst (qs.map V.ref))/\BW H' qs W/\Ho R rl (G9 R rl) R.length Ks W/\m'=2*(R.length*fj rl.s (2^N) rl.rs.length-(Ks.map List.length).sum)+W.length,λσ' H' z=>z,?_];refine#[#[_,ud.of w3],yI2 _ (.ref q0) #[w3,'~',?_]];rw[show ((qs++[q0]).map V.ref).dropLast=qs.map V.ref from '~'];have d5:U∉O:=P3.off w3 (λ_=>'~');have w4:upd H3 U (.lst (qs.map V.ref)) U=Sm (.lst (qs.map V.ref)):=ai;have s4:=s3.upd ca (.lst (qs.map V.ref));have P4:B6 (upd H3 U (.lst (qs.map V.ref))) F O Ks:=P3.else cn d5;have kt:∀a xs,H3 a=Sm (.tup xs)->upd H3 U (.lst (qs.map V.ref)) a=Sm (.tup xs):=λa xs e=>by rw[aw (λz=>by rw[z,w3]at e;cases e)];exact e
  have L4:BW (upd H3 U (.lst (qs.map V.ref))) qs W:=#[dc,λi q pl h1 h2=>(L3.keep kt).2 i q pl (by rw[xR (KO.mp h1).1];exact h1) (by rw[xR (KO.mp h2).1];exact h2)];have t3:=kt _ _ t1;have t4:cF (upd H3 U (.lst (qs.map V.ref))) t pl.2:=kt _ _ t2;generalize upd H3 U (.lst (qs.map V.ref))=H4 at w4 s4 P4 L4 t3 t4 |-;rw?;refine X1 (su.of t3) rfl ?_
  rw?;refine#[#[_,ud.of w4],?_];refine yI5 c R pl.1 N _ #[rfl,hC.mono s4,ab,S,λrb H5 s5 d8 cz=>?_];have cA:=s4.trans s5;refine X1 (su.of (s5 _ _ t3)) rfl ?_;refine yI9 c p t R rl _ pl.1 N pl.2 #[rfl,hC.mono cA,S,hR.mono cA,ok,(a3 _ _ cB).tka,bc,hN,s5 _ _ t4,λtk H6 cs cc s6 d4 cq hT c9 hm=>?_];have Z:=s5.trans s6;let#[I',dt]:=I3.step (m':=R.length) (V:=W) (toks:=cc) S a8 (λj hj t ht=>.mk cB S hj ((hm t).mp ht)) (λa ha=>.inl ha) (λ_ z=>sE _ z) '~' (λa x z=>by
   rcases K8.mp z with z | z
   .exact .inl z
   .cases KU.mp z;exact .inr ⟨rfl,λt z=>(hm t).mpr z⟩)
  have d1:=(I'.cap a3).2;have cm:=I'.sum;rw[jn]at cm;refine vM (s4.trans Z) bt ca cn (P4.keep Z) (Z _ _ w4) (L4.keep λa xs e=>Z _ _ e) (λks hk=>xH (a7.1 ks hk) cv) (s6 _ _ cz) cq hT (λj hj=>by rw[I3.len];exact a8 j hj) (jG _ _) c9 () λH7 b3 s7 P7 w7 L7=>#[_,?_,yI5 _ _ b3 _ _ #[rfl,s7,P7,w7,L7,I',rfl]];rw[d3,jn,jn,ye,yU];have:=a7.2;lia
 .have a4:qs=[]:=zaP ();have bh:W=[]:=zaP (by rw[<-L3.1,a4];rfl);subst bh;have c5:=I3.cme
  .rw?;refine#[#[_,ud.of P3.1],λD1 b2=>?_];have d6:H D1=Nn:=s3.free b2;refine iG (xs:=O.map V.ref) (λi ys H'=>sg H3 H'/\∃ls:LL,ys=ls.map V.ref/\H' D1=Sm (.lst (ls.map V.ref))/\ls.length=i/\∀(j:Nat) l,ls[j]?=Sm l->l≠D1/\Hj H' l (Ks.getD j [])) #[ak b2 _,[],rfl,ai,rfl,λj l h=>by simp at h] (λi ys H' _ hh=>ud.of (hh.1 _ _ P3.1)) ?_ ?_
   .intro i ys H4 v hv hi;refine yB2 λs4=>yF1 λls=>yB4 ?_;rintro rfl eD a9 b1;have b4:i<O.length:=by simpa using hi
    rw[yf,zg b4]at hv;cases hv;have ce:i<Ks.length:=by rw[<-P3.2.1];exact b4
    have hd:=s4 _ _ (P3.2.2.2 i _ _ (zg b4) (zg ce));have eg:Ks.getD i []=Ks[i]:=by rw[xV,zg ce];rfl
    have c3:=xH (a7.1 _ (xF ce)) cv;cbv;refine yI2 _ _ #[rfl,hd,λx hx=>?_,by unfold e_;rw[ze];exact c3,λl bs c2 bp hb hp=>?_]
    .let#[t,ed,rfl]:=K3.mp hx;have dP:=(a3 i t ((c5 i t).mp (by rw[eg];assumption))).ne;exact#[λz=>dP (by unfold eZ at z;exact Lk.mp z),t.map Int.ofNat,by unfold eZ;rw[oq];rfl]
    have rt:=HZ bp c3 hb hp;have s5:=ak bp (.lst (c2.map V.ref));have dl:l≠D1:=λz=>by rw[z,eD]at bp;cases bp
    have e5:=s5 _ _ eD;generalize upd H4 l (.lst (c2.map V.ref))=H5 at rt s5 e5 |-;have kt:∀a xs,H5 a=Sm (.tup xs)->upd H5 D1 (.lst (ls.map V.ref++[V.ref l])) a=Sm (.tup xs):=λa xs e=>by rw[aw (λz=>by rw[z,e5]at e;cases e)];exact e
    refine iD hi (by rw[ze];exact a9) (by rw[ze,ad];exact aJ c4) e5 #[(s4.trans s5).upd b2 _,ls++[l],'~',by rw[ai];simp,by simp[a9],λj l' h'=>?_];rcases HU j ls.length with z | z
    .rw[xR z]at h';let#[n1,rk]:=b1 j l' h';refine#[n1,rk.keep (λa xs e=>kt a xs (s5 _ _ e)) ?_];revert rk;refine yF2 λ_ _=>yB2 λe1 _=>?_;rw[aw n1,e1];exact s5 _ _ e1
    .rw[uC z]at h';have d7:j-ls.length=0:=by have:=(KO.mp h').1;simp at this;lia
     rw[d7]at h';cases h';rw[show j=i from (),eg];exact#[dl,rt.keep kt (aw dl)]
   .intro ys H4;refine yB2 λs4=>yF1 λls=>yB4 ?_;rintro rfl eD a9 b1;rw[ze,ad]at a9;exact q D1 H4 ls Ks (s3.trans s4) d6 eD a9 c5 λj l h=>(b1 j l h).2
theorem wN(n s t:Nat):bi (jv n s) t=(bi n t||decide (s=t)):=by
 rw[<-sx];unfold bi;rw[Nat.testBit_or,za5]
theorem uQ(n s t:Nat):bi (aX n s) t=(bi n t && !decide (s=t)):=by
 unfold aX;split
 .rename_i h;have F:=fY h;have hf:bi (n-2^s) s=false:=by
   have e:(n-2^s)/2^s=n/2^s-1:=by simpa using Nat.sub_mul_div n (2^s) 1
   have h1:=of_decide_eq_true ((jz n s).symm.trans h);rw[jz,e];exact decide_eq_false ()
  have e:=wN (n-2^s) s t;unfold jv at e;rw[hf,KQ ∅,Nat.sub_add_cancel F]at e;rw[e];by_cases c:s=t
  .subst c;rw[hf];simp
  .simp[c]
 .rename_i h;by_cases c:s=t
  .subst c;simp_all
  .simp[c]
def pW:LJ->Prop
 | n::m::_::_=>∀s,¬ (bi n s=true/\bi m s=true)
 | _=>True
theorem Ao(h:∀s,¬ (bi n s=true/\bi m s=true))(t:Nat):¬ (bi (ci r n) t=true/\bi (ci r m) t=true):=by
 have h1:=h t;have F:=h (aG r 3);have J:cO r = "copy" -> cO r∈(qAe:LI):=λz=>by rw[z];simp
 unfold ci;grind [wN,uQ]
theorem E6{J:Rl}{F:LJ}(h:pW ts)(e:fP J r ts=Sm F):pW F:=by
 unfold fP at e;split at e
 .cases e
 split at e
 .cases e;exact trivial
 .let#[_,_,rfl]:=Lb.mp e;exact trivial
 .cases e;exact Ao h
 .let#[_,_,rfl]:=Lb.mp e;exact Ao h
 .cases e
theorem tW{O:Rl}{r:aC}{J:List LJ}(h:∀t∈J,pW t):∀t∈cE O r J,pW t:=λt F=>by
 have dp:∀a s u,¬ (bi (aX a s) u=true/\bi (2^s) u=true):=λa s u=>by
  rw[uQ];unfold bi;rw[za5];simp
 unfold cE at F;split at F
 .unfold gq at F;split at F
  .split at F
   .rw[KU.mp F];exact trivial
   .cases F
  .rcases K7.mp F with rfl | z
   .exact trivial
   .let#[x,_,hx2]:=K2.mp z;split at hx2
    .simp only[yk,yT,or_false]at hx2;rcases hx2 with rfl | rfl
     .exact dp _ _
     .exact λu z=>dp _ _ u z.symm
    .cases hx2
 .split at F
  .unfold gb at F;let#[x,hx,rfl]:=K3.mp F;let#[hx,hx2]:=Lh.mp hx;have:=h x hx
   match x,this with
   | [],_=>exact trivial
   | [_],_=>exact trivial
   | [_,_],_=>simp at hx2
   | n::m::o::x,z=>exact z
  .cases F
theorem G9.dsj{R:List aC}{J:Rl}{j:Nat}{t:LJ}(h:G9 R J j t):pW t:=by
 induction h with
 | beg _ _ m=>exact tW (λt F=>by cases F) _ m
 | mk _ _ _ m ih=>
  rcases m with z | z
  .exact tW (λt F=>by rw[KU.mp F];exact ih) _ z
  .exact E6 ih z
def Kv(i j:Int):Prop:=0<j/\j.natAbs.log2<9000
theorem BY{X:Cx}:Ge X (binaryOp .FloorDiv) (rI Kv λi j=>.int (i/j)):=uv λi j _ _ _ _ _ F q=>by
 have h1:(0:Int)<j:=F.1;exact floordiv_int () (by rw[zbp i ()];exact q) (.inl (PyProof.noPylong_of_log2 F.2))
theorem iU(s:Nat):(1:Int)*2^(Int.toNat (s:Int))=((2^s:Nat):Int):=by rw[mi];push_cast;lia
def mQ:Sp:=λvs H Q _=>∃n s:Nat,vs=[.int (n:Int),.int (s:Int)]/\s<9000/\Q (.bl (bi n s)) H
theorem EQ(D:xn K mg "_law_has" h_):aH P w K mg base 1 "_law_has" qAX mQ:=by
 refine D.cal (k:=0) zi (λf O A outer W H vs Q E S h=>?_);revert h;refine yF2 λn s=>yB3 ?_;rintro rfl F q;refine#[_,(aj (aA (iK aM (ar b5 (ar BY (pv 0) (ar fN af (pv 1))) af) af (aB _)))),?_];cbv;have U:=Nat.two_pow_pos s;refine#[#[(),(),∅],?_];rw[iU];refine#[#[(),by rw[Int.natAbs_natCast,Nat.log2_two_pow];exact F],∅,?_];have e:decide ((n:Int)/((2^s:Nat):Int)%2=1)=bi n s:=by
  rw[jz];have:(n:Int)/((2^s:Nat):Int)%2=((n/2^s%2:Nat):Int):=by push_cast;rfl
  rw[this];exact decide_eq_decide.mpr ()
 rw[e];exact q
def oP:Sp:=λvs H Q _=>∃(p:so) (r:Rl) (k:Nat) (y:Str),vs=[.ref p,.int k,.str y]/\CU H p r/\dD r/\k<r.rs.length/\Q (du (step r k y)) H
theorem BV(D:xn K mg "_law_next" fB):aH P w K mg base 1 "_law_next" qAH oP:=by
 refine D.cal vd (λf Z A outer s H vs Q E hr h=>?_);revert h;refine yF4 λp r k y=>yB5 ?_;rintro rfl U ok hk q;revert U;refine yF3 λpw pr O=>yB5 λh1 h2 W h4 h5=>?_;refine⟨_,(ah (aS (az (im K) (pv 2) (am (au K) (pv 0) af) (by with_unfolding_all rfl)) (aj (aA (pv 1))) aL)
   (aj (aA (am (au K) (am (au K) (am (au K) (pv 0) af) (pv 1)) (bB K xl zbs F.type_list_index (qh K) (am (au K) (pv 0) af) (aa (pv 2) ae)))))),?_⟩
 cbv;refine X1 (su.of h1) rfl ?_;cbv;refine#[_,.inl (ud.of h2),rfl,pI _,?_];rw[wt];refine aP (λc=>?_) (λc=>?_)
 .have J:y∉r.ws:=by simpa using c
  have e:step r k y=Sm k:=by unfold step;rw[KQ J]
  rw[e]at q;exact q
 .have J:y∈r.ws:=by simpa using c
  obtain⟨b,S⟩ : ∃b,O[k]?=Sm b:=⟨O[k],zg ()⟩
  obtain⟨x,hx⟩ : ∃x,r.rs[k]?=Sm x:=⟨_,zg hk⟩
  rw?;refine X1 (su.of h1) rfl ?_;cbv;refine X2 (ud.of W) (nI () (by simpa using S)) ?_;cbv;refine X1 (su.of h1) rfl ?_;cbv;refine#[#[_,ud.of h2],_,ud.of h2,J,?_];exact X2 (ud.of (h5 k b x S hx)) (ao (wf ok hx J)) q
def uS:Sp:=λvs H Q _=>∃(b t:so) (r:aC) (sd:Int) (ts:LJ) (k N Z:Nat),vs=[.ref b,.ref t,.int sd]/\bN H b r/\Do N r/\N<=9000/\cF H t ts/\kq sd Z ts/\mS ts k/\pW ts/\∀(L:so) (H':Hp),sg H H'->H L=Nn->H' L=Sm (.lst ((gB r ts).map V.str))->Q (.ref L) H'
theorem Av(D:xn K mg "_law_texts" dN) (F:aH P w K mg base 1 "_law_has" qAX mQ):aH P w K mg base 2 "_law_texts" qAV uS:=by
 refine D.cal (k:=1) q_ (λf as A outer s0 H vs Q E hr h=>?_);revert h;refine yF8 λb t r sd ts k N Z=>yB9 ?_;rintro rfl S U hN ht ab ac ad q;refine⟨_,(ah (aS (PW.pt' (cw (az aM (am (au K) (pv 0) af) ay (aB _)) (cS (az aM (pv 2) af (aB _))))) (aj (aA (aI (aa ay ae)))) aL)
   (ah (aS (PW.pt' (cw (az aM (am (au K) (pv 0) af) ay (aB _)) (cS (az aM (am (au K) (pv 1) af) af (aB _))))) (aj (aA (aI (aa ay (aa ay ae))))) aL)
   (ah (aS (az aM (am (au K) (pv 0) af) ay (aB _)) (aj (aA (aI (aa ay (aa ay ae))))) aL)
   (ah (aS (PW.pt' (cw (az aM (am (au K) (pv 0) af) ay (aB _)) (cw (az aM (pv 2) af (aB _)) (cS (cQ (ax F hr (aa (am (au K) (pv 1) af) (aa (am (au K) (pv 0) af) ae)))))))) (aj (aA (aI (aa (am (au K) (pv 0) af) ae)))) aL)
   (ah (aS (PW.pt' (cw (az aM (am (au K) (pv 0) af) ay (aB _)) (cw (az aM (pv 2) af (aB _)) (cS (cQ (ax F hr (aa (am (au K) (pv 1) af) (aa (am (au K) (pv 0) af) ae)))))))) (aj (aA (aI (aa (ar aF ay (am (au K) (pv 0) af)) ae)))) aL)
   (ah (aS (PW.pt' (cw (az aM (am (au K) (pv 0) af) ay (aB _)) (cw (az aM (pv 2) af (aB _)) (cS (cQ (ax F hr (aa (am (au K) (pv 1) af) (aa (am (au K) (pv 0) af) ae)))))))) (aj (aA (aI (aa (ar aF ay (am (au K) (pv 0) af)) ae)))) aL)
   (aj (aA (aI ae))))))))),?_⟩
 cbv;refine X1 (su.of S) (ao (j:=0) U.hd) ?_;cbv;unfold gB at q;cases ac with
 | h1 n k=>
  have ag:sd=1:=by cases ab with
   | h1 _ _ h _=>exact h
  subst ag;by_cases ce:cO r = "end"
  .have O:¬ cO r = "do" := λz=>absurd (ce.symm.trans z) ∅;rw[KQ O,KZ ce]at q;rw[KZ ce,KZ rfl];exact#[∅,λp J=>q p _ (ak J _) J ai]
  rw[KQ ce];rw?;refine X1 (su.of S) (ao (j:=0) U.hd) ?_;cbv;rw[KQ ce];rw?;refine X1 (su.of S) (ao (j:=0) U.hd) ?_;cbv;rw[KQ ce];rw?;refine X1 (su.of S) (ao (j:=0) U.hd) ?_;cbv;by_cases O:cO r = "do"
  .let#[h2,l2]:=U.s2 (by rw[O];decide);let#[h3,l3]:=U.wd O;rw[KZ O]at q;have W:∀(L:so) (H':Hp),sg H H'->H L=Nn->H' L=Sm (.lst ((if bi n (aG r 2)=true then [j9 r] else []).map V.str))->Q (.ref L) H':=q;rw[KZ O];refine X1 (su.of ht) rfl (X1 (su.of S) (ao (j:=2) h2) (yI2 n (aG r 2) #[rfl,(),_,rfl,aP (λd=>?_) (λd=>?_)]))
   .rw[KZ d]at W;refine X1 (su.of S) (ao (j:=3) h3) #[∅,λp J=>W p _ (ak J _) J ai]
   .rw[KQ d]at W;rw?;refine X1 (su.of S) (ao (j:=0) U.hd) ?_;cbv;rw[KZ O,KQ ∅];rw?;refine X1 (su.of S) (ao (j:=0) U.hd) ?_;cbv;rw[KZ O,KQ ∅];rw?;exact#[∅,λp J=>W p _ (ak J _) J ai]
  .rw[KQ O,KQ ce]at q;rw[KQ O];rw?;refine X1 (su.of S) (ao (j:=0) U.hd) ?_;cbv;rw[KQ O];rw?;refine X1 (su.of S) (ao (j:=0) U.hd) ?_;cbv;rw[KQ O];rw?;exact#[∅,λp J=>q p _ (ak J _) J ai]
 | tie n m o k=>
  have al:sd=2:=by cases ab with
   | tie _ _ _ _ h _=>exact h
  subst al;by_cases ce:cO r = "end"
  .have O:¬ cO r = "do" := λz=>absurd (ce.symm.trans z) ∅;rw[KQ O,KZ ce]at q;have W:∀(L:so) (H':Hp),sg H H'->H L=Nn->H' L=Sm (.lst (((if o=1 then qAx else qAy):LI).map V.str))->Q (.ref L) H':=q;rw[KZ ce,KQ ∅];rw?;refine X1 (su.of S) (ao (j:=0) U.hd) ?_;cbv;rw[KZ ce];refine X1 (su.of ht) rfl ?_;rw[show iN o=V.int (o:Int) from rfl];cbv;refine aP (λe=>?_) (λe=>?_)
   .rw[KZ ()]at W;exact#[∅,λp J=>W p _ (ak J _) J ai]
   .rw[KQ ()]at W;rw?;refine X1 (su.of S) (ao (j:=0) U.hd) ?_;cbv;rw[KZ ce];exact#[∅,λp J=>W p _ (ak J _) J ai]
  rw[KQ ce];rw?;refine X1 (su.of S) (ao (j:=0) U.hd) ?_;cbv;rw[KQ ce];rw?;refine X1 (su.of S) (ao (j:=0) U.hd) ?_;cbv;rw[KQ ce];rw?;refine X1 (su.of S) (ao (j:=0) U.hd) ?_;cbv;by_cases O:cO r = "do"
  .let#[h2,l2]:=U.s2 (by rw[O];decide);let#[h3,l3]:=U.wd O;rw[KZ O]at q;have W:∀(L:so) (H':Hp),sg H H'->H L=Nn->H' L=Sm (.lst (((if bi n (aG r 2)=true then [("1." : Str)++j9 r] else [])++(if bi m (aG r 2)=true then [("2." : Str)++j9 r] else [])).map V.str))->Q (.ref L) H':=q;rw[KZ O,KQ ∅];rw?;refine X1 (su.of S) (ao (j:=0) U.hd) ?_;cbv;rw[KZ O];refine X1 (su.of ht) rfl (X1 (su.of S) (ao (j:=2) h2) (yI2 n (aG r 2) #[rfl,(),_,rfl,aP (λd=>?_) (λd=>?_)]))
   .have Y:¬ bi m (aG r 2)=true:=λz=>ad _ #[d,z];rw[KZ d,KQ Y]at W;refine X1 (su.of S) (ao (j:=3) h3) ?_;cbv;refine#[by rw[show (("1." : Str).length)=2 from ⋯];exact aJ (),∅,λp J=>W p _ (ak J _) J ai]
   .rw[KQ d]at W;rw?;refine X1 (su.of S) (ao (j:=0) U.hd) ?_;cbv;rw[KZ O];refine X1 (su.of ht) rfl (X1 (su.of S) (ao (j:=2) h2) (yI2 m (aG r 2) #[rfl,(),_,rfl,aP (λY=>?_) (λY=>?_)]))
    .rw[KZ Y]at W;refine X1 (su.of S) (ao (j:=3) h3) ?_;cbv;refine#[by rw[show (("2." : Str).length)=2 from ⋯];exact aJ (),∅,λp J=>W p _ (ak J _) J ai]
    .rw[KQ Y]at W;rw?;exact#[∅,λp J=>W p _ (ak J _) J ai]
  .rw[KQ O,KQ ce]at q;rw[KQ O];rw?;refine X1 (su.of S) (ao (j:=0) U.hd) ?_;cbv;rw[KQ O];rw?;refine X1 (su.of S) (ao (j:=0) U.hd) ?_;cbv;rw[KQ O];rw?;exact#[∅,λp J=>q p _ (ak J _) J ai]
def vT:Sp:=λvs H Q _=>∃(p b t:so) (rl:Rl) (r:aC) (ts:LJ) (k N:Nat),vs=[.ref p,.ref b,.ref t]/\CU H p rl/\dD rl/\k<rl.rs.length/\bN H b r/\Do N r/\N<=9000/\cF H t ts/\kq rl.s rl.rs.length ts/\mS ts k/\pW ts/\∀H':Hp,sg H H'->Q (du (after rl k (gB r ts))) H'
def yR(rl:Rl):LW->LI->LW
 | none,_=>Nn
 | some k,ys=>after rl k ys
theorem CI{F:Rl}{o:LW}{i:Nat}{ys:LI}{y:Str}(h:ys[i]?=Sm y):yR F o (ys.drop i)=yR F (o.bind λk=>step F k y) (ys.drop (i+1)):=by
 cases o with
 | none=>rfl
 | some k=>
  show after F k (ys.drop i)=yR F (step F k y) (ys.drop (i+1));rw[nK h];cases step F k y<;>rfl
theorem CZ(D:xn K mg "_law_room" cL) (F:aH P w K mg base 2 "_law_texts" qAV uS) (J:aH P w K mg base 1 "_law_next" qAH oP):aH P w K mg base 3 "_law_room" qAF vT:=by
 refine D.cal (k:=2) Gp (λf ac A outer s0 H vs Q E hr h=>?_);revert h;refine yF8 λp b t O r ts k N=>yB12 ?_;rintro rfl hR ok W hb hk hN ht ab U Y q;refine⟨_,(ah (av 3 Gp.nd (am (au K) (pv 2) (fH eP af)))
   (ah (bT xm rfl (bJ K (ax F hr (aa (pv 1) (aa (pv 2) (aa (am (au K) (pv 0) af) ae))))) (aV 4 Gp.nd) (aj (aS (az mH (pv 3) dJ (aB _)) (aj (av 3 Gp.nd (ax J hr (aa (pv 0) (aa (pv 3) (aa (pv 4) ae)))))) aL)))
   (aj (aA (pv 3))))),?_⟩
 refine yE3 (id hR) λpw pr as=>yB3 λr1 r2 r3=>?_;cbv;refine X1 (su.of ht) (by cases U<;>rfl:cM (ts.map iN) (-1)=Sm (.int (k:Int))) ?_;rw?;refine X1 (su.of r1) rfl (yI8 b t r O.s ts k N O.rs.length #[rfl,hb,hk,hN,ht,ab,U,Y,λL H1 s1 hL e1=>?_]);refine#[L,rfl,#[_,ud.of e1],?_];refine b6 (xs:=(gB r ts).map V.str) (λi σ H'=>∃(o:LW) (Z:LR),σ=[Sm (.ref p),Sm (.ref b),Sm (.ref t),Sm (du o),Z]/\H1=H'/\(∀j,o=Sm j->j<O.rs.length)/\after O k (gB r ts)=yR O o ((gB r ts).drop i)) (yI2 (Sm k) Nn #[rfl,rfl,λj e=>by cases e;exact W,rfl]) (λi σ H' _ h=>by revert h;refine yF2 λ_ _=>yB3 ?_;rintro _ rfl _;exact ud.of e1) ?_ ?_
 .intro i v σ H' hv;refine yF2 λo Z=>yB4 ?_;rintro rfl rfl ho S;rw[yf]at hv;cases hy:(gB r ts)[i]? with
  | none=>rw[hy]at hv;cases hv
  | some y=>
   rw[hy]at hv;cases hv;rw[CI hy]at S;cbv;cases o with
   | none=>
    rw[KQ (by simp[du])];exact yI2 Nn _ #[rfl,(λj e=>nomatch e),S]
   | some j=>
    rw[KZ (by simp[du])];exact yI4 p O j y #[rfl,hR.mono s1,ok,ho j rfl,yI2 (step O j y) _ #[rfl,rfl,λj' e=>li ok (ho j rfl) e,S]]
 .intro σ H';refine yF2 λo Z=>yB4 ?_;rintro rfl rfl ho S;rw[ze,List.drop_length]at S;rw?;have e':after O k (gB r ts)=o:=by rw[S];cases o<;>rfl
  rw[<-e'];exact q H1 s1
def zk:Sp:=λvs H Q _=>∃(b:so) (r:aC) (n N:Nat),vs=[.ref b,.int (n:Int)]/\bN H b r/\Do N r/\N<=9000/\∀H':Hp,sg H H'->Q (.int (ci r n:Nat)) H'
theorem GP(D:xn K mg "_law_sum_behind" b8) (S:mg "int" = Nn) (F:aH P w K mg base 1 "_law_has" qAX mQ):aH P w K mg base 2 "_law_sum_behind" qAi zk:=by
 refine D.cal (k:=1) DC (λf ab A outer s0 H vs Q E hr h=>?_);revert h;refine yF4 λb r n N=>yB5 ?_;rintro rfl Z W hN q;refine⟨_,(ah (aS (az (im K) (am (au K) (pv 0) af) (aN (aa ay (aa ay (aa ay ae)))) (by with_unfolding_all rfl)) (aj (aA (pv 1))) aL)
   (ah (av 2 DC.nd (ar fR (pv 1) (ar fE (ar fN af (am (au K) (pv 0) af)) (fS kG S rR (aa (ax F hr (aa (pv 1) (aa (am (au K) (pv 0) af) ae))) ae)))))
   (ah (aS (PW.pt' (cw (az aM (am (au K) (pv 0) af) ay (aB _)) (cS (cQ (ax F hr (aa (pv 1) (aa (am (au K) (pv 0) af) ae))))))) (aj (av 2 DC.nd (ar aF (pv 2) (ar fN af (am (au K) (pv 0) af))))) aL)
   (aj (aA (pv 2)))))),?_⟩
 cbv;refine X1 (su.of Z) (ao (j:=0) W.hd) #[∅,λp hp=>?_];have Y:=ak hp (.tup [V.str "open",.str "drop",.str "copy"]);refine#[_,.inr (su.of ai),rfl,rfl,?_];have J:=Y _ _ Z;generalize upd H p (.tup [V.str "open",.str "drop",.str "copy"])=H1 at Y J |-;rw[show [V.str "open",.str "drop",.str "copy"]=(["open","drop","copy"]:LI).map V.str from rfl,gR];have O:=q H1 Y;unfold ci at O
 by_cases c:cO r∈(qAe:LI)
 .rw[KQ (by simp only[yk,yT,or_false]at c;rcases c with c | c | c<;>rw[c]<;>decide)];let#[h2,l2]:=W.s2 (by simp only[yk,yT,or_false]at c |-;rcases c with c | c | c<;>simp[c]);rw[KZ c]at O;rw?;refine X1 (su.of J) (ao (j:=2) h2) ?_;cbv;refine#[#[(),(),∅],?_];rw[iU];refine X1 (su.of J) (ao (j:=2) h2) (yI2 n (aG r 2) #[rfl,(),?_]);cbv;refine#[.inr (by split<;>decide),?_];have e:(n:Int)-((2^aG r 2:Nat):Int)*(if bi n (aG r 2)=true then 1 else 0)=(aX n (aG r 2):Nat):=by
   unfold aX;split
   .rename_i hh;have:=fY hh;lia
   .lia
  rw[e];rw?;refine X1 (su.of J) (ao (j:=0) W.hd) ?_;cbv;refine aP (λU=>?_) (λU=>?_)
  .let#[h3,l3]:=W.s3 (by rw[U];decide);refine X1 (su.of J) (ao (j:=3) h3) (yI2 n (aG r 3) #[rfl,(),_,rfl,aP (λd=>?_) (λd=>?_)])
   .refine X1 (su.of J) (ao (j:=2) h2) ?_;cbv;refine#[#[(),(),∅],?_];rw[iU];have e2:((aX n (aG r 2):Nat):Int)+((2^aG r 2:Nat):Int)=(jv n (aG r 2):Nat):=by
     unfold aX jv;split
     .rename_i hh;have:=fY hh;lia
     .lia
    rw[e2];rw?;rw[KZ #[U,d]]at O;exact O
   .rw?;rw[KQ (λz=>d z.2)]at O;exact O
  .rw?;rw[KQ (λz=>U z.1)]at O;exact O
 .rw[KQ (show ¬ (cO r = "copy" /\ _) from λz=>c (by rw[z.1];decide)),KQ c]at O;rw[KZ (by simp only[yk,yT,or_false,not_or]at c |-;simp[c])];exact O
noncomputable def ik(W:List LI):Nat:=(W.filter λ(ws:LI)=>decide (ws.headD "" = "lend")).length
theorem fF(X Y:List LI):ik (X++Y)=ik X+ik Y:=by unfold ik;rw[IH,jn]
theorem iX{x:Str}{r:LI}(h:¬ x = "lend"):ik [x::r]=0:=by
 unfold ik;rw[List.filter_cons,KQ (by simpa using h)];rfl
theorem E5{f:List vr->List LI}{g:List vr->Nat}{p:List vr->Prop}(h:∀b,p b->ik (f b)<=g b):∀s:vr,eh p s->ik (gP f s)<=pM 0 1 0 g s
 | .plain ws,hs=>by
  have F:=hs.1;show ik [ws]<=0;cases F<;>exact Nat.le_of_eq (iX ∅)
 | .lend x y b,hs=>by
  have:=h b hs.2.2;show ik ([[("lend" : Str),x,y]]++(f b++[[("back" : Str)]]))<=g b+1;rw[fF,fF,iX (x := "back") ∅];have:ik [[("lend" : Str),x,y]]<=1:=List.length_filter_le _ _;lia
 | .ite n b c,hs=>by
  have:=h b hs.2.1;have:=h c hs.2.2;show ik ([[("if" : Str),fZ n]]++(f b++[[("else" : Str)]]++(f c++[[("fi" : Str)]])))<=g b+g c+0;rw[fF,fF,fF,fF,iX (x := "if") ∅,iX (x := "else") ∅,iX (x := "fi") ∅];lia
 | .whl n b,hs=>by
  have:=h b hs.2;show ik ([[("while" : Str),fZ n]]++(f b++[[("done" : Str)]]))<=g b+0;rw[fF,fF,iX (x := "while") ∅,iX (x := "done") ∅];lia
theorem zZ:∀(d:Nat) (T:List vr),cj d T->ik (rK d T)<=dW 0 1 0 d T
 | 0,_,h=>h.elim
 | d+1,T,h=>by
  show ik (T.flatMap (gP (rK d)))<=(T.map (pM 0 1 0 (dW 0 1 0 d))).sum
  induction T with
  | nil=>exact zu _
  | cons s T ih=>
   rw[KD,fF,yX,iS];have h1:=E5 (zZ d) s (h s yy);have h2:=ih λu F=>h u (yS _ F);lia
theorem yO(W:List LI):(nB W).length=ik W:=by
 unfold nB ik;have e:W=(List.range W.length).map λi=>W.getD i []:=by
  refine List.ext_getElem '~' λi h1 h2=>?_;rw[List.getElem_map,List.getElem_range,xV,zg h1];rfl
 conv=>rhs;rw[e,List.filter_map,ze]
 rfl
theorem AL{N:Str->Prop}:∀(e d:Nat) (T:List vr),fQ N e T->jt d T->∀n∈(cu d T).flatMap bZ,N n
 | 0,_,_,h,_=>h.elim
 | _+1,0,_,_,h=>h.elim
 | e+1,d+1,T,hn,ho=>λn F=>by
  let#[s,J,F]:=K2.mp F;let#[t,U,J]:=K2.mp J;have h1:=hn t U;have h2:=ho t U;have sub:∀b,fQ N e b->jt d b->s∈cu d b->N n:=λb a1 a2 W=>AL e d b a1 a2 n (K2.mpr #[s,W,F]);rcases K7.mp J with rfl | J
  .cases s with
   | plain ws=>rw[<- (kn h2).2]at F;exact h1.2 n F
   | lend x y b=>
    have O:n∈[x,y]:=F;simp only[yk,yT,or_false]at O;rcases O with rfl | rfl
    .exact h1.1
    .exact h1.2.1
   | ite _ _ _=>exact absurd F yT
   | whl _ _=>exact absurd F yT
  .cases t with
   | plain ws=>exact absurd J yT
   | lend x y b=>exact sub b h1.2.2 h2 (by simpa [dM] using J)
   | ite m b c=>
    have S:s∈cu d b\/s∈cu d c:=by simpa [dM] using J
    exact S.elim (sub b h1.1 h2.1) (sub c h1.2 h2.2)
   | whl m b=>exact sub b h1 h2 (by simpa [dM] using J)
theorem Fs{l:LI}{n:Str}(h:n∈fK l):n∈l:=by
 have go:∀(l acc:LI),n∈l.foldl f_ acc->n∈acc\/n∈l:=λl=>by
  induction l with
  | nil=>exact λacc h=>.inl h
  | cons x l ih=>
   intro acc h;rcases ih _ h with z | z
   .unfold f_ at z;split at z
    .exact .inl z
    .exact(K8.mp z).imp id λy=>by rw[KU.mp y];exact yy
   .exact .inr (yS _ z)
 exact(go l [] h).elim (λz=>(yT z).elim) id
theorem Bn{e:Nat}(hf:cj d T)(F:fQ (· ∈ nm) e T):(b7 (fK ((cu d T).flatMap bZ)) (dy d T)).length<=nm.length+dW 0 1 0 d T:=by
 unfold b7;rw[jn,ze,ze,En,CD (Em hf) (AG hf),yO];have h1:=zZ d T hf;have h2:=gA (Ag ((cu d T).flatMap bZ)) λx hx=>AL e d T F (md hf) x (Fs hx);lia
theorem FZ{NM:LI}{t:Bool}(hf:cj d T)(U:dC d T)(J:fQ (λn=>n∈NM) d T):Jv (b7 NM (dy d T)).length (dq NM d t T):=by
 have Y:∀k,iY (gN (b7 NM (dy d T))) k->∃n,cD (gN (b7 NM (dy d T))) k=iN n/\n<(b7 NM (dy d T)).length:=λk h=>by
  let#[n,S,Z]:=wx _ _ k _ h;exact#[n,S,Z]
 have O:BU (dq NM d t T) (aD (gN (b7 NM (dy d T))) d t 0 0 T) 0:=λi r e=>by
  rw[ms];unfold dq;rw[xR (KO.mp e).1];exact e
 have F:(dq NM d t T).length=(aD (gN (b7 NM (dy d T))) d t 0 0 T).length+1:=by unfold dq;rw[jn];rfl
 have el:(dq NM d t T)[(aD (gN (b7 NM (dy d T))) d t 0 0 T).length]?=Sm [.str "end",iN (aq d T)]:=by
  unfold dq;rw[uC (zu _),JL];rfl
 have W:=vX (E:=(dq NM d t T).length-1) Y d t 0 0 T hf U (o_ d 0 T (λi s e=>by rw[ms];exact e) J) O ();refine#[λi r e=>?_,#[_,by rw[F,Nat.add_sub_cancel];exact el,rfl]];have hi:=(KO.mp e).1;by_cases c:i<(aD (gN (b7 NM (dy d T))) d t 0 0 T).length
 .exact W i r (gV _) () e
 .rw[show i=(aD (gN (b7 NM (dy d T))) d t 0 0 T).length from (),el]at e;cases e;exact#[.en _,λz=>absurd (show ("end" : Str) = "test" from z) ∅,λz=>absurd (show ("end" : Str) = "jump" from z) ∅]
def GL(H:Hp)(rp:so)(n z i:Nat)(as:LL)(rows:List (List LW)):Prop:=H rp=Sm (.lst (as.map V.ref))/\as.length=i/\rows.length=i/\(∀(j:Nat) b x,as[j]?=Sm b->rows[j]?=Sm x->H b=Sm (.lst (x.map du))/\b≠rp)/\∀x∈rows,x.length=n/\∀k,Sm k∈x->k<z
theorem GL.push{S L:so}{z:Nat}{O:LL}{rows:List (List LW)}{x:List LW}(h:GL H S n z i O rows)(sm:sg H H')(hL:H L=Nn)(hx:H' L=Sm (.lst (x.map du)))(hn:x.length=n)(hk:∀k,Sm k∈x->k<z) :
  GL (upd H' S (.lst (O.map V.ref++[.ref L]))) S n z (i+1) (O++[L]) (rows++[x]):=by
 revert h;refine yB5 λhl h1 h2 h3 h4=>?_;have nL:L≠S:=uW (a_ hl hL);refine#[by rw[ai,yH];rfl,by simp[h1],by simp[h2],λj b y F J=>?_,j5 h4 #[hn,hk]];rcases HU j i with z' | z'
 .rw[xR ()]at F J;let#[q1,q2]:=h3 j b y F J;exact#[by rw[aw q2];exact sm _ _ q1,q2]
 .rw[uC ()]at F J;have Y:j-O.length=0:=by
   have:=(KO.mp F).1;simp at this;lia
  have W:j-rows.length=0:=()
  rw[Y]at F;rw[W]at J;have Z:L=b:=by simpa using F
  have U:x=y:=by simpa using J
  subst Z U;exact#[by rw[aw nL];exact hx,nL]
theorem GL.rule{S W:so}{z:Nat}{U:LL}{rows:List (List LW)}(h:GL H J n z z U rows)(sm:sg H H')(Y:H S=Sm (.lst (ws.map V.str)))(ht:H' W=Sm (.tup [.int sd,.ref S,.ref J]))(F:sd=1\/sd=2)(hn:ws.length=n)(ab:n<=16)(z0:1<=z)(z1:z<=60)(O:∀x∈ws,x.length<=30) :
  CU H' W #[sd,ws,rows]/\dD #[sd,ws,rows]:=by
 revert h;refine yB5 λhl h1 h2 h3 h4=>?_;refine#[yI3 S J U #[ht,sm _ _ Y,sm _ _ hl,by show U.length=rows.length;lia,λj b x e1 Z=>sm _ _ (h3 j b x e1 Z).1],F,by show ws.length<=16;lia,by show 1<=rows.length;lia,by show rows.length<=60;lia,λx hx=>?_,O];let#[x1,x2]:=h4 x hx;exact#[by show x.length=ws.length;lia,λk hk=>by have:=x2 k hk;show k<rows.length;lia]
theorem DB(l:LS)(c:Int)(n:Nat)(h:l.length=n)(J:0<n)(F:∀x∈l,0<x/\x<100):∃v,cM (l.map V.int) (c%(n:Int))=Sm (.int v)/\0<v/\v<100:=by
 have a1:=zaT c (show (n:Int)≠0 from ());have a2:=zaU c (show (0:Int)<n from ());let#[v,hv,_]:=IG (xs:=l) (i:=c%(n:Int)) a1 ();exact#[v,nI a1 hv,F v (me hv)]
theorem E9(F:Int){z:Nat}(hz:1<=z):∃k:Nat,F%(z:Int)=(k:Int)/\k<z:=by
 have a1:=zaT F (show (z:Int)≠0 from ());have a2:=zaU F (show (0:Int)<z from ());exact#[(F%(z:Int)).toNat,(),()]
theorem rN{x:List LW}{z:Nat}{o:LW}(h:∀k,Sm k∈x->k<z)(J:∀k,o=Sm k->k<z):∀k,Sm k∈x++[o]->k<z:=λk F=>by
 rcases K8.mp F with g | g
 .exact h k g
 .exact J k (KU.mp g).symm
def uw:Sp:=λvs H Q _=>∃(cp wp:so) (cs:LS) (ss:LI) (m:Nat) (sd:Int),vs=[.ref cp,.int sd,.ref wp,.int (m:Int)]/\(sd=1\/sd=2)/\H cp=Sm (.lst (cs.map V.int))/\cs.length=6/\H wp=Sm (.lst (ss.map V.str))/\ss.length<=8/\(∀x∈ss,x.length<=20)/\1<=m/\m<=60/\∀(p:so) (H':Hp) (r:Rl),sg H H'->H p=Nn->CU H' p r->dD r->r.s=sd->r.rs.length<=m->Q (.ref p) H'
theorem Az(D:xn K mg "_law_rule" aY) (J:mg "range" = Nn) (a6:wAK mg) (U:mg "sorted" = Nn) (a7:mg "set" = Nn):aH P w K mg base 1 "_law_rule" qAQ uw:=by
 refine D.cal (k:=0) Bs (λf c5 A outer s H vs Q E hr h=>?_);revert h;refine yF6 λcp wp cs ss m sd=>yB10 ?_;rintro rfl ca hc c9 hS da b0 m0 m1 q;refine⟨_,(ah (av 4 Bs.nd (aI ae))
   (ah (bT xm rfl (fA Gw J (aa (br (aU K) a6 bG (aa (pv 2) ae)) ae)) (aV 5 Bs.nd) (ah (av 6 Bs.nd (ar tu (ar b5 (am (au K) (pv 0) af) af) (pv 5)))
   (ah (aS (PW.pt' (cw (az aM (pv 1) af (aB _)) (cS (az aM (ar km (pv 6) af) af (aB _))))) (aj (bo (bB K xl mB mF bw (pv 4) (aa (am (au K) (pv 2) (pv 5)) ae)))) aL)
   (ah (aS (PW.pt' (cw (az aM (pv 1) af (aB _)) (cS (az aM (ar km (pv 6) af) af (aB _))))) (aj (bo (bB K xl mB mF bw (pv 4) (aa (ar aF ay (am (au K) (pv 2) (pv 5))) ae)))) aL)
   (aj (aS (PW.pt' (cw (az aM (pv 1) af (aB _)) (cS (az aM (ar km (ar tu (pv 6) af) af) af (aB _))))) (aj (bo (bB K xl mB mF bw (pv 4) (aa (ar aF ay (am (au K) (pv 2) (pv 5))) ae)))) aL))))))
   (ah (av 4 Bs.nd (br (oA w hr) U jg (aa (fS (vj K w hr) a7 ue (aa (pv 4) ae)) ae)))
   (ah (av 7 Bs.nd (ar aF af (ar b5 (am (au K) (pv 0) af) (pv 3))))
   (ah (av 8 Bs.nd (am (au K) (aI (aa af (aa af (aa af (aa af ae))))) (ar b5 (ar eU (am (au K) (pv 0) af) af) af)))
   (ah (av 9 Bs.nd (aI ae))
   (ah (bT xm rfl (fA Gw J (aa (pv 7) ae)) (aV 5 Bs.nd) (ah (av 10 Bs.nd (ar b5 (ar fE (am (au K) (pv 0) (ar aF af (ar b5 (pv 5) af))) (ar aF af (ar fE af (pv 5)))) (ar ng af af)))
   (ah (av 11 Bs.nd (aI ae))
   (ah (bT xm rfl (bJ K (pv 4)) (aV 12 Bs.nd) (ah (av 13 Bs.nd (ar b5 (pv 10) af))
   (ah (av 10 Bs.nd (ar eU (pv 10) af))
   (aj (aS (az aM (ar b5 (pv 13) (pv 8)) af (aB _)) (aj (bo (bB K xl mB mF bw (pv 11) (aa dJ ae)))) (aj (bo (bB K xl mB mF bw (pv 11) (aa (ar b5 (ar eU (pv 13) (pv 8)) (pv 7)) ae)))))))))
   (aj (bo (bB K xl mB mF bw (pv 9) (aa (pv 11) ae))))))))
   (aj (aA (aN (aa (pv 1) (aa (pv 4) (aa (pv 9) ae))))))))))))),?_⟩
 have ab:∀j:Nat,j<6->∃v:Int,(cs.map V.int)[j]?=Sm (.int v):=λj hj=>#[cs[j],by rw[yf,zg ()];rfl];let#[c0,cm]:=ab 0 ∅;let#[Y,bg]:=ab 1 ∅;cbv;refine#[∅,λtp a5=>?_];∎;rename_i H1 s1 e1;have e1:H1 tp=Sm (.lst (([]:LI).map V.str)):=e1;rw?;refine#[_,.inl (ud.of (s1 _ _ hS)),?_];rw[ze];refine#[(),(),?_];rw[mi];refine gu (λi σ H'=>∃(ts:LI) (o4 Z:LR),σ=[Sm (.ref cp),Sm (.int sd),Sm (.ref wp),Sm (.int (m:Int)),Sm (.ref tp),o4,Z,Nn,Nn,Nn,Nn,Nn,Nn,Nn]/\sg H H'/\H' tp=Sm (.lst (ts.map V.str))/\ts.length<=2*i/\∀x∈ts,x.length<=30)
  (yI3 ([]) Nn Nn #[rfl,s1,e1,zu _,'~']) ?_ ?_
 .intro i σ H' hi;refine yF3 λts o4 Z=>yB5 ?_;rintro rfl sm hl W F;cbv;refine X2 (ud.of (sm _ _ hc)) (ao (j:=0) cm) ?_;cbv;refine#[∅,(),?_];generalize c0%65536/2^(0+(i:Int)).toNat=bt;have c2:=b0 _ (xF hi);refine dX (λσ' H'=>∃(ts:LI),σ'=[Sm (.ref cp),Sm (.int sd),Sm (.ref wp),Sm (.int (m:Int)),Sm (.ref tp),Sm (.int (0+(i:Int))),Sm (.int bt),Nn,Nn,Nn,Nn,Nn,Nn,Nn]/\sg H H'/\H' tp=Sm (.lst (ts.map V.str))/\ts.length<=2*i+1/\(sd=2->ts.length<=2*i)/\∀x∈ts,x.length<=30) (λk hk=>?_) ?_
  .cbv;refine aP (λY=>aP (λc=>?_) (λc=>?_)) (λY=>?_)
   .refine#[#[_,ud.of hl],X2 (ud.of (sm _ _ hS)) (by rw[Int.zero_add];exact ao (v:=.str ss[i]) (by rw[yf,zg hi];rfl)) ?_];refine#[_,hl,by rw[ze];exact cI (),?_];exact hk _ _ #[ts++[ss[i]],rfl,sm.upd a5 _,by rw[ai,yH];rfl,by rw[jn,Jj];lia,λh=>(),j5 F ()]
   .exact hk _ _ #[ts,rfl,sm,hl,(),λ_=>W,F]
   .exact hk _ _ #[ts,rfl,sm,hl,(),λ_=>W,F]
  intro σ' H';refine yF1 λts=>yB6 ?_;rintro rfl sm hl W bc F;refine dX (λσ' H'=>∃(ts:LI),σ'=[Sm (.ref cp),Sm (.int sd),Sm (.ref wp),Sm (.int (m:Int)),Sm (.ref tp),Sm (.int (0+(i:Int))),Sm (.int bt),Nn,Nn,Nn,Nn,Nn,Nn,Nn]/\sg H H'/\H' tp=Sm (.lst (ts.map V.str))/\ts.length<=2*i+1/\∀x∈ts,x.length<=30) (λk hk=>?_) ?_
  .cbv;refine aP (λY=>aP (λc=>?_) (λc=>?_)) (λY=>?_)
   .have:=bc Y;refine#[#[_,ud.of hl],X2 (ud.of (sm _ _ hS)) (by rw[Int.zero_add];exact ao (v:=.str ss[i]) (by rw[yf,zg hi];rfl)) ?_];cbv;have hz:("1." : Str).length=2:=⋯;refine#[by rw[hz];exact aJ (),_,hl,by rw[ze];exact cI (),?_];exact hk _ _ #[ts++[("1." : Str)++ss[i]],rfl,sm.upd a5 _,by rw[ai,yH];rfl,by rw[jn,Jj];lia,j5 F (by rw[JI,hz];lia)]
   .exact hk _ _ #[ts,rfl,sm,hl,(),F]
   .exact hk _ _ #[ts,rfl,sm,hl,(),F]
  intro σ' H';refine yF1 λts=>yB5 ?_;rintro rfl sm hl W F;rw?;refine aP (λY=>#[∅,aP (λc=>?_) (λc=>?_)]) (λY=>?_)
  .refine#[#[_,ud.of hl],X2 (ud.of (sm _ _ hS)) (by rw[Int.zero_add];exact ao (v:=.str ss[i]) (by rw[yf,zg hi];rfl)) ?_];cbv;have hz:("2." : Str).length=2:=⋯;refine#[by rw[hz];exact aJ (),_,hl,by rw[ze];exact cI (),?_];exact yI3 (ts++[("2." : Str)++ss[i]]) _ _ #[rfl,sm.upd a5 _,by rw[ai,yH];rfl,by rw[jn,Jj];lia,j5 F (by rw[JI,hz];lia)]
  .exact yI3 ts _ _ #[rfl,sm,hl,(),F]
  .exact yI3 ts _ _ #[rfl,sm,hl,(),F]
 intro σ H2;refine yF3 λb2 o4 Z=>yB5 ?_;rintro rfl s2 e2 W F;rw?;refine yI2 tp b2 #[rfl,ud.of e2,(),λsl ds dm c3 al cb=>?_];∎;rename_i H3 s3 e3;refine yI2 sl ds #[rfl,e3,(),λxp ts dc S _=>?_];have cz:ts.length<=16:=by rw[S.length_eq];lia
 have b1:∀x∈ts,x.length<=30:=λx hx=>F x ((al x).mp (S.mem_iff.mp hx));∎;rename_i H4 s4 e4;have a8:=s2.trans (s3.trans s4);clear S al cb F W e3 e2;rw?;refine X2 (ud.of (a8 _ _ hc)) (ao (j:=1) bg) ?_;cbv;have b4:∃z:Nat,1+Y%(m:Int)=(z:Int)/\1<=z/\z<=m:=by
  have a1:=zaT Y (show (m:Int)≠0 from ());have a2:=zaU Y (show (0:Int)<m from ());exact#[(1+Y%(m:Int)).toNat,(),(),()]
 revert b4;refine yF1 λz=>yB3 λez z0 z1=>?_;refine#[(),?_];rw[ez];rw?;refine#[∅,λlp c4=>?_];∎;rename_i H5 s5 e5;refine X2 (ud.of (s5 _ _ (a8 _ _ hc))) (ao (j:=1) bg) ?_;cbv;refine yE1 (DB [2,3,5,11] (Y/64) 4 rfl ∅ ∅) λsh=>yB3 λcq dl cB=>?_;refine#[#[∅,∅],∅,X2 (ud.of e5) cq ?_];have a3:=a8.trans s5;have a4:=s5 _ _ e4;rw?;refine#[∅,λrp cA=>?_];∎;rename_i H6 s6 e6;have e6:H6 rp=Sm (.lst (([]:LL).map V.ref)):=e6;rw?;refine#[(),(),?_];rw[mi];refine gu (λi σ H'=>∃(as:LL) (rows:List (List LW)) (o1 o2 o3 o4 Z o6:LR),σ=[Sm (.ref cp),Sm (.int sd),Sm (.ref wp),Sm (.int (m:Int)),Sm (.ref xp),o1,o2,Sm (.int (z:Int)),Sm (.int sh),Sm (.ref rp),o3,o4,Z,o6]/\sg H5 H'/\GL H' rp ts.length z i as rows)
  (yI8 ([]) ([]) _ _ Nn Nn Nn Nn #[rfl,s6,#[e6,rfl,rfl,'~','~']]) ?_ ?_
 .intro i σ H' hi;refine yF8 λas rows o1 o2 o3 o4 Z o6=>yB3 ?_;rintro rfl sm O;have cd:∃j:Nat,2+(0+(i:Int))%4=(j:Int)/\j<6:=#[(2+(0+(i:Int))%4).toNat,(),()];let#[j0,b3,cn]:=cd;let#[cv,cc]:=ab j0 cn;cbv;rw[b3];refine#[∅,X2 (ud.of (sm _ _ (a3 _ _ hc))) (ao cc) ?_];cbv;refine#[.inl #[∅,∅],.inr #[(),()],#[∅,∅,∅],∅,?_];generalize cv*(48271+10*(0+(i:Int)))%10^Int.toNat 36=Bv;rw?;refine#[∅,λL' a9=>?_];∎;rename_i H7 s7 e7;have e7:H7 L'=Sm (.lst (([]:List LW).map du)):=e7;rw?;have ce:=(sm.trans s7) _ _ a4;refine#[#[_,ud.of ce],?_];refine b6 (xs:=ts.map V.str) (λj σ H5=>∃(x:List LW) (r1:Int) (Z o6:LR),σ=[Sm (.ref cp),Sm (.int sd),Sm (.ref wp),Sm (.int (m:Int)),Sm (.ref xp),Sm (.int (0+(i:Int))),o2,Sm (.int (z:Int)),Sm (.int sh),Sm (.ref rp),Sm (.int r1),Sm (.ref L'),Z,o6]/\sg H' H5/\H5 L'=Sm (.lst (x.map du))/\x.length=j/\∀k,Sm k∈x->k<z)
   (yI4 ([]) Bv _ _ #[rfl,s7,e7,rfl,'~']) (λj σ H5 _ hh=>by revert hh;refine yF4 λ_ _ _ _=>yB3 λ_ z _=>?_;exact ud.of (z _ _ (sm _ _ a4))) ?_ ?_
  .intro j v σ H5 hv;refine yF4 λx r1 Z o6=>yB5 ?_;rintro rfl bh hx ac ag;have hj:j<ts.length:=by have:=(KO.mp hv).1;simpa using this
   cbv;refine#[∅,?_];rw?;refine#[#[∅,∅],?_];rw?;refine#[(),aP (λ_=>?_) (λ_=>?_)]
   .refine#[#[_,ud.of hx],_,hx,by rw[ze];exact cI (),?_];exact yI4 (x++[Nn]) _ _ _ #[rfl,bh.upd a9 _,by rw[ai,yH];rfl,mq ac,rN ag λk e=>by cases e]
   .let#[k,ek,hk]:=E9 (r1%1000/sh) z0;refine#[#[_,ud.of hx],#[(),()],(),?_];rw[ek];refine#[_,hx,by rw[ze];exact cI (),?_];exact yI4 (x++[Sm k]) _ _ _ #[rfl,bh.upd a9 _,by rw[ai,yH];rfl,mq ac,rN ag λk' e=>by cases e;exact hk]
  .intro σ H8;refine yF4 λx r1 Z o6=>yB5 ?_;rintro rfl ad hx ac ag;rw[ze]at ac;rw?;refine#[#[_,ud.of (ad _ _ O.1)],_,ad _ _ O.1,by rw[ze,O.2.1];exact cI (),?_];exact yI8 _ _ _ _ _ _ _ _ #[rfl,(sm.trans ad).upd cA _,O.push ad a9 hx ac ag]
 intro σ H';refine yF8 λas rows o1 o2 o3 o4 Z o6=>yB3 ?_;rintro rfl sm O;rw?;refine#[∅,λtq be=>?_];have bp:=ak be (.tup [.int sd,.ref xp,.ref rp]);let#[hR,ok]:=O.rule bp (sm _ _ a4) ai ca rfl cz z0 () b1;exact q tq _ #[sd,ts,rows] ((a3.trans sm).trans bp) ((a3.trans sm).free be) hR ok rfl (by have h1:=O.2.1;have h2:=O.2.2.1;show rows.length<=m;lia)
theorem Kt(F:∀x∈ws,dQ x):∀x∈ws++(qAG:LI),dQ x:=λx hx=>by
 rcases K8.mp hx with hx | hx
 .exact F x hx
 .simp only[yk,yT,or_false]at hx;rcases hx with rfl | rfl | rfl | rfl<;>exact#[∅,by unfold dE;decide]
theorem FB(ns:List α)(p q:Nat):(jM ns (Sm (p:Int)) (Sm (q:Int))).length<=q-p:=by
 unfold jM;rw[sQ,Jx];have h1:HT.sIx ns.length 0 (Sm (p:Int))=min p ns.length:=HT.sIx_nat _ _ p;have h2:HT.sIx ns.length ns.length (Sm (q:Int))=min q ns.length:=HT.sIx_nat _ _ q;rw[h1,h2];refine Nat.le_trans (Nat.min_le_left _ _) ?_;rcases Nat.le_total p ns.length with h|h
 .rw[Nat.min_eq_left h];exact Nat.sub_le_sub_right (Nat.min_le_left _ _) _
 .rw[Nat.min_eq_right h,Nat.sub_eq_zero_of_le (Nat.min_le_right _ _)];exact Nat.zero_le _
theorem A7{k:Nat}{x:Str}{ps:LI}{sp:Sp}(c:aH P w K mg base j x ps sp)(h:j<=k):aH P w K mg base k x ps sp:=by
 refine yE2 c.ex λf fd=>yB2 λF r=>?_;exact#[f,fd,F.mono h,r]
theorem FQ{k:Nat}{x:Str}{ps:LI}{sp J:Sp}(c:aH P w K mg base k x ps sp)(h:∀vs H Q E,J vs H Q E->sp vs H Q E):aH P w K mg base k x ps J:=by
 refine yE2 c.ex λf fd=>yB2 λF r=>?_;exact#[f,fd,F.imp h,r]
def Iv(H:Hp)(p:so)(NM:LI):Prop:=∃(T:List vr) (S:so->Prop),Bt S 10 H p T/\jt 10 T/\(cu 10 T).length<=1000/\((cu 10 T).flatMap bZ).length<=5000/\NM=fK ((cu 10 T).flatMap bZ)
theorem Iv.mono{NM:LI}(h:Iv H p NM)(s:sg H H'):Iv H' p NM:=by
 revert h;refine yF2 λT S=>yB2 λh1 h2=>?_;exact yI2 T S #[h1.mono s,h2]
theorem Dd{k:Nat}(c:aH P w K mg base k "names_of" ["program"] qc):aH P w K mg base k "names_of" ["program"] (JF Iv):=FQ c λvs H Q E h=>by
 revert h;refine yF2 λp NM=>yB3 ?_;rintro rfl ⟨T,S,h1,h2,F,J,rfl⟩ q;exact yI3 p T S #[rfl,h1,h2,F,J,q]
theorem DF{f:List vr->List vr}{g:List vr->Nat}(h:∀b,(f b).length<=g b):∀s:vr,(gE f s).length<=bz g s
 | .plain _=>by simp[gE,dM,bz]
 | .lend _ _ b=>by have:=h b;simp[gE,dM,bz];lia
 | .ite _ b c=>by have:=h b;have:=h c;simp[gE,dM,bz];lia
 | .whl _ b=>by have:=h b;simp[gE,dM,bz];lia
theorem oX:∀(d:Nat) (T:List vr),(cu d T).length<=aq d T
 | 0,_=>zu _
 | d+1,T=>by
  show (T.flatMap (gE (cu d))).length<=(T.map (bz (aq d))).sum
  induction T with
  | nil=>exact zu _
  | cons s T ih=>
   have:=DF (oX d) s;rw[KD,jn,yX,iS];lia
theorem HY{g:List vr->Prop}:∀ {s:vr},gH g s->(bZ s).length<=2
 | .plain ws,h=>by cases (show gm ws from h)<;>simp[bZ]<;>split<;>simp
 | .lend _ _ _,_=>by simp[bZ]
 | .ite _ _ _,_=>by simp[bZ]
 | .whl _ _,_=>by simp[bZ]
theorem Bb{d:Nat}{T:List vr}(h:jt d T):((cu d T).flatMap bZ).length<=2*aq d T:=by
 have h1:=oX d T;have h2:=sO d h;have go:∀X:List vr,(∀s∈X,∃g:List vr->Prop,gH g s)->(X.flatMap bZ).length<=2*X.length:=λX=>by
  induction X with
  | nil=>intro _;exact zu _
  | cons s X ih=>
   intro hx;let#[g,hg]:=hx s yy;have:=HY hg;have:=ih λu F=>hx u (yS _ F);rw[KD,jn,ye];lia
 have:=go _ h2;lia
theorem Ds{U:List vr}{bs:LL}(h:Bt S (d+1) H p T)(J:LG (Ct (Bt S d H) H) bs U)(F:H p=Sm (.lst xs))(W:H q=Sm (.lst (bs.map V.ref++xs))):Bt (λb=>S b\/b=q) (d+1) H q (U++T):=by
 revert h;refine yB2 λY=>yF1 λO=>yB2 λh1 h2=>?_;rw[h1]at F;cases F;refine#[.inr rfl,bs++O,by rw[W,yH],?_];exact LG.imp' (λa s z=>z.imp (λ_ _ e=>e) λr b y=>y.imp (λ_ _ e=>e) (λ_ _ _ e=>e) (λ_ z=>.inl z) d) (jX J h2)
theorem p_(d:Nat):∀U:List LI,aq (d+1) (U.map vr.plain)=U.length
 | []=>rfl
 | ws::U=>by
  show bz (aq d) (.plain ws)+aq (d+1) (U.map vr.plain)=_;rw[p_ d U,ye];show 1+_=_;lia
theorem tQ(p l o d:Nat):∀U:List LI,dW p l o (d+1) (U.map vr.plain)=p*U.length
 | []=>rfl
 | ws::U=>by
  show p+dW p l o (d+1) (U.map vr.plain)=_;rw[tQ p l o d U,ye,Ic,Nat.mul_one];lia
theorem Fv{x:Str}{e:Nat}(hx:dQ x)(J:x∈nm):eh (cj d) (.plain ["open",x])/\kg (dC d) (.plain ["open",x])/\lT (fQ (· ∈ nm) e) (· ∈ nm) (.plain ["open",x]):=by
 refine#[#[.op x,λz hz=>?_],nP ⋯ ∅ hx.1,λz=>absurd z (by show ¬ (("open" : Str) = "do");decide),λn F=>?_]
 .simp only[yk,yT,or_false]at hz;rcases hz with rfl | rfl
  .unfold dE;decide
  .exact hx.2
 .unfold di at F;rw[KQ (show ¬ List.headD [("open" : Str),x] "" = "do" from (by decide:¬ ("open" : Str) = "do"))]at F;rw[KU.mp F];exact J
theorem Gv{x:Str}{e:Nat}(hx:dQ x)(O:dQ y)(U:x∈nm)(S:y∈nm):eh (cj d) (.plain ["tie",x,y])/\kg (dC d) (.plain ["tie",x,y])/\lT (fQ (· ∈ nm) e) (· ∈ nm) (.plain ["tie",x,y]):=by
 refine#[#[.ti x y,λz hz=>?_],lF ⋯ ∅ hx.1 O.1,λz=>absurd z (by show ¬ (("tie" : Str) = "do");decide),λn J=>?_]
 .simp only[yk,yT,or_false]at hz;rcases hz with rfl | rfl | rfl
  .unfold dE;decide
  .exact hx.2
  .exact O.2
 .unfold di at J;rw[KQ (show ¬ List.headD [("tie" : Str),x,y] "" = "do" from (by decide:¬ ("tie" : Str) = "do"))]at J;have F:n∈[x,y]:=J;simp only[yk,yT,or_false]at F;rcases F with rfl | rfl<;>assumption
structure JS (nm:LI) (l0:Nat) (T:List vr):Prop where
 fi:cj 10 T
 ok:dC 10 T
 cnt:aq 10 T<=64
 nm:fQ (· ∈ nm) 3 T
 ld:dW 0 1 0 10 T<=l0
def p9(K:K_):Sp:=λvs H Q _=>∃(a wq:so) (ns:LS) (ws:LI) (sd:Int),vs=[.ref a,.int 8,.int sd,.ref wq]/\(sd=1\/sd=2)/\ud K H a (ns.map V.int)/\H wq=Sm (.lst (ws.map V.str))/\1<=ws.length/\ws.length<=20/\(∀x∈ws,dQ x)/\∀(cq:so) (H':Hp) (R:List aC) (N:Nat),sg H H'->H cq=Nn->B5 H' cq R->Jv N R->(∀i,i<R.length->GY R i)->(N:Int)<=7-2*sd->R.length<=4230->Q (.ref cq) H'
theorem Cq(D:xn K mg "_law_code" bv) (F:aH P w K mg base 1 "_law_cell_at" qAa (sv K)) (Y:aH P w K mg base 1 "_law_words" qAh nZ) (W:aH P w K mg base 3 "_law_program" qAL pe) (ab:aH P w K mg base 35 "code_of" ["program"] (zr Iv 10)) (O:aH P w K mg base 35 "turned_code" ["program"] (uB Iv 10)):aH P w K mg base 36 "_law_code" qAN (p9 K):=by
 refine D.cal (k:=35) Dm (λf ed A outer s H vs Q E hr h=>?_);revert h;refine yF5 λa wq ns ws sd=>yB8 ?_;rintro rfl cb hS da w1 w2 d7 q;refine⟨_,(ah (av 4 Dm.nd (ax F hr (aa (pv 0) (aa af ae))))
   (ah (av 5 Dm.nd (ax F hr (aa (pv 0) (aa af ae))))
   (ah (av 6 Dm.nd (ax Y hr (aa (ar eU (pv 4) af) (aa (am (au K) (aI (aa (ar aF af (ar b5 (pv 4) af)) (aa af ae))) (ar fR (pv 2) af)) ae))))
   (ah (av 7 Dm.nd (ax W hr (aa (fe (Cf K) (pv 0) (fG (pv 1)) (fG (ar aF (pv 1) (am (au K) (aI (aa af (aa af ae))) (ar fR (pv 2) af))))) (aa (pv 6) (aa (pv 3) (aa (ar fR af (pv 2)) (aa af ae)))))))
   (ah (aS (az aM (ar b5 (ar eU (pv 5) af) af) af (aB _)) (aj (av 7 Dm.nd (ar aF (ar aF (eV (C5.to (fsc:=(rd bv)) (N:=qAC) (N0:=qAC) (T:=["_law_name"])) rfl (bJ K (pv 6)) (λ_ _ _ _=>(aV 8 (show (["_law_script","_law_start","_law_sides","_law_words_here","_law_first","_law_second","_law_names","_law_program_here","_law_name"]:LI).Nodup from ⋯))) (cN (show (qAC:LI).length<=8 from ∅)) (λ_ _ _ _=>eJ) (λ_ _ _ _=>(aN (aa ay (aa (pv 8) ae))))) (aI (aa (aN (aa ay (aa (am (au K) (pv 6) af) (aa (am (au K) (pv 6) af) ae)))) ae))) (pv 7)))) aL)
   (ah (aS (az aM (ar b5 (pv 5) af) af (aB _)) (aj (aA (ax O hr (aa (pv 7) ae)))) aL)
   (aj (aA (ax ab hr (aa (pv 7) ae)))))))))),?_⟩
 cbv;refine yI3 a ns 0 #[rfl,hS,∅,?_];generalize ns.getD (Int.toNat 0) 0=c0;rw?;refine yI3 a ns 1 #[rfl,hS,∅,?_];generalize ns.getD (Int.toNat 1) 0=c1;rw?;refine#[#[∅,∅],∅,∅,λx hx=>?_];∎;rename_i H1 s1 e1;have d3:∃z:Nat,cM [V.int (2+c0%2),V.int 2] (sd-1)=Sm (.int (z:Int))/\2<=z/\(z:Int)<=4-sd:=by
  rcases cb with rfl | rfl
  .exact#[(2+c0%2).toNat,by rw[Int.toNat_of_nonneg ()];rfl,(),()]
  .exact#[2,rfl,(),()]
 revert d3;refine yF1 λmz=>yB3 λd4 KH QL=>?_;refine X2 (ud.of e1) d4 ?_;refine yI2 (c0/8) mz #[rfl,(),λnp nm H2 s2 ej e2 ei a9=>?_];have bg:=s1.trans s2;rw?;refine#[∅,λy hy=>?_];∎;rename_i H3 s3 e3;have d2:∃z:Nat,cM [V.int 12,V.int 8] (sd-1)=Sm (.int (z:Int))/\z<=12:=by
  rcases cb with rfl | rfl
  .exact#[12,rfl,∅]
  .exact#[8,rfl,∅]
 let#[cz,dP,d9]:=d2;refine X2 (ud.of e3) dP ?_;cbv;have c3:=bg.trans s3;refine#[_,c3.seq hS,λcp dl=>?_];rw[ES];have dV:(jM ns (Sm 8) (Sm (8+cz))).length<=12:=xH (FB ns 8 (8+cz)) ();have s4:=ak dl (.lst ((jM ns (Sm 8) (Sm (8+cz))).map V.int));have e4:upd H3 cp (.lst ((jM ns (Sm 8) (Sm (8+cz))).map V.int)) cp=Sm (.lst ((jM ns (Sm 8) (Sm (8+cz))).map V.int)):=ai;generalize jM ns (Sm 8) (Sm (8+cz))=cs at dV s4 e4 |-;generalize upd H3 cp (.lst (cs.map V.int))=H4 at s4 e4 |-;obtain⟨l0,c4⟩ : ∃l0:Nat,3-sd=(l0:Int):=⟨(3-sd).toNat,()⟩
 rw[c4];have a3:=s3.trans s4;refine yI7 cp np wq cs nm ws l0 #[rfl,e4,a3 _ _ e2,(bg.trans a3) _ _ da,(),(),(),w1,w2,a9,d7,λcv H3 S T s3 d1 hP a6 hok cn a4 dc cA=>?_];have cd:=(bg.trans a3).trans s3
 replace e2:=a3 _ _ e2
 refine dX (λσ' H'=>∃(rt:so) (S':so->Prop) (Z:List vr),σ'=[Sm (.ref a),Sm (.int 8),Sm (.int sd),Sm (.ref wq),Sm (.int c0),Sm (.int c1),Sm (.ref np),Sm (.ref rt)]/\sg H H'/\Bt S' 10 H' rt Z/\JS nm l0 Z) (λk a7=>?_) ?_
 .cbv;refine#[#[∅,∅],∅,aP (λc=>?_) (λc=>a7 _ _ (yI3 cv S T #[rfl,cd,hP,a6,hok,(),a4,cA]))];refine#[#[_,ud.of (s3 _ _ e2)],λD1 b3=>?_];have be:0<nm.length:=()
  have bh:1<nm.length:=()
  refine iG (xs:=nm.map V.str) (λi ys H'=>sg H3 H'/\H' D1=Sm (.lst ys)/\∃bs:LL,ys=bs.map V.ref/\bs.length=i/\LG (λb (x:Str)=>H' b=Sm (.tup [V.str "open",V.str x])) bs (nm.take i)) #[ak b3 _,ai,[],rfl,rfl,.nil] (λi ys H' _ hh=>ud.of (hh.1 _ _ (s3 _ _ e2))) ?_ ?_
  .intro i ys H' v hv hi;refine yB3 λsm eD=>yF1 λbs=>yB3 ?_;rintro rfl al ad;have ce:i<nm.length:=by simpa using hi
   rw[yf,zg ce]at hv;cases hv;cbv;refine#[∅,λt ht=>?_];have s4:=ak ht (.tup [V.str "open",V.str nm[i]]);have e4:upd H' t (.tup [V.str "open",V.str nm[i]]) t=Sm (.tup [V.str "open",V.str nm[i]]):=ai;have b0:=s4 _ _ eD;generalize upd H' t (.tup [V.str "open",V.str nm[i]])=H4 at s4 e4 b0 |-;have kt:∀b xs,H4 b=Sm (.tup xs)->upd H4 D1 (.lst (bs.map V.ref++[V.ref t])) b=Sm (.tup xs):=λb xs e=>by rw[aw (λz=>by rw[z,b0]at e;cases e)];exact e
   refine iD hi (by rw[ze];exact al) (by rw[ze];exact aJ ()) b0 #[(sm.trans s4).upd b3 _,ai,bs++[t],'~',by simp[al],?_];rw[za6 ce];exact eY (R:=λb (x:Str)=>upd H4 D1 (.lst (bs.map V.ref++[V.ref t])) b=Sm (.tup [V.str "open",V.str x])) (kt _ _ e4) (LG.imp' (λb x z=>kt _ _ (s4 _ _ z)) ad)
  intro ys H4;refine yB3 λs4 eD=>yF1 λbs=>yB3 ?_;rintro rfl al ad;rw[ze]at al ad;rw[tO]at ad;have cm:=s4 _ _ (s3 _ _ e2);cbv;refine X2 (ud.of cm) (ao (j:=0) (v:=.str nm[0]) (by rw[yf,zg be];rfl)) (X2 (ud.of cm) (ao (j:=1) (v:=.str nm[1]) (by rw[yf,zg bh];rfl)) #[∅,λtt eg=>?_]);∎;rename_i H5 s5 e5;refine#[∅,λlt ek=>?_];∎;rename_i H6 s6 e6;have e6:H6 lt=Sm (.lst ([tt].map V.ref)):=e6;have bp:=s5.trans s6;refine yI2 _ _ #[bp _ _ eD,e6,by rw[ze];exact aJ (by simp;lia),λl1 ec=>?_];rw[<-yH];∎;rename_i H7 s7 e7;have cB:=s4.trans (bp.trans s7);have a8:=hP.mono cB;refine yA2 (id a8) λ_=>yF1 λas=>yB2 λb4 b1=>?_;have em:as.length<=60:=by
   have h1:=aQ b1;have:T.length<=aq 10 T:=by
    show T.length<=(T.map (bz (aq 9))).sum;clear b1 h1 a8 cA dc a4 cn hok a6 hP a7
    induction T with
    | nil=>exact zu _
    | cons s T ih=>
     rw[yX,iS,ye];have:1<=bz (aq 9) s:=by cases s<;>simp[bz]
     lia
   lia
  refine yI2 _ _ #[e7,b4,by rw[ze,ze];exact aJ (by simp;lia),λl2 eo=>?_];∎;rename_i H8 s8 e8;have d6:LG (Ct (Bt S 9 H8) H8) (bs++[tt]) (((nm.map λn=>[("open" : Str),n])++[[("tie" : Str),nm[0],nm[1]]]).map vr.plain):=by
   rw[yH,oq];refine eY (show Ct (Bt S 9 H8) H8 tt (.plain ["tie",nm[0],nm[1]]) from (s6.trans (s7.trans s8)) _ _ e5) ?_;have:∀ {bs:LL} {l:LI},LG (λb (x:Str)=>H4 b=Sm (.tup [V.str "open",V.str x])) bs l->LG (Ct (Bt S 9 H8) H8) bs (l.map (vr.plain ∘ λn=>[("open" : Str),n])):=λh=>by
    induction h with
    | nil=>exact .nil
    | cons a _ ih=>exact .cons ((bp.trans (s7.trans s8)) _ _ a) ih
   exact this ad
  have ca:=Ds (q:=l2) (a8.mono s8) d6 (s8 _ _ b4) e8;have ag:∀i (h:i<nm.length),dQ nm[i]/\nm[i]∈nm:=λi h=>#[a9 _ (xF h),xF h];have ac:∀s∈((nm.map λn=>[("open" : Str),n])++[[("tie" : Str),nm[0],nm[1]]]).map vr.plain,eh (cj 9) s/\kg (dC 9) s/\lT (fQ (· ∈ nm) 2) (· ∈ nm) s:=λs hs=>by
   let#[ws,c5,rfl]:=K3.mp hs;rcases K8.mp c5 with z | z
   .let#[n,hn,rfl]:=K3.mp z;exact Fv (a9 n hn) hn
   .rw[KU.mp z];exact Gv (ag 0 be).1 (ag 1 bh).1 (ag 0 be).2 (ag 1 bh).2
  have dm:((nm.map λn=>[("open" : Str),n])++[[("tie" : Str),nm[0],nm[1]]]).length<=4:=by simp;lia
  have d8:aq 10 _=_:=p_ 9 ((nm.map λn=>[("open" : Str),n])++[[("tie" : Str),nm[0],nm[1]]]);have c9:dW 0 1 0 10 _=_:=tQ 0 1 0 9 ((nm.map λn=>[("open" : Str),n])++[[("tie" : Str),nm[0],nm[1]]]);generalize (nm.map λn=>[("open" : Str),n])++[[("tie" : Str),nm[0],nm[1]]]=U at ca ac dm d8 c9;refine a7 _ _ (yI3 l2 _ _ #[rfl,cd.trans (cB.trans s8),ca,λs hs=>?_,λs hs=>?_,?_,λs hs=>?_,?_])
  .exact(K8.mp hs).elim (λz=>(ac s z).1) (a6 s)
  .exact(K8.mp hs).elim (λz=>(ac s z).2.1) (hok s)
  .have:aq 10 (U.map vr.plain++T)=aq 10 (U.map vr.plain)+aq 10 T:=vJ 9 (U.map vr.plain) T;lia
  .exact(K8.mp hs).elim (λz=>(ac s z).2.2) (a4 s)
  .have:dW 0 1 0 10 (U.map vr.plain++T)=dW 0 1 0 10 (U.map vr.plain)+dW 0 1 0 10 T:=vW (p:=0) (l:=1) (o:=0) 9 (U.map vr.plain) T;lia
 intro σ' H4;refine yF3 λrt S' Z=>yB4 ?_;rintro rfl s4 bt J;have bc:=md J.fi;have ea:=oX 10 Z;have eb:=Bb bc;have d5:=J.cnt;have b2:(fK ((cu 10 Z).flatMap bZ)).length<=1000:=by
  have:=jx ((cu 10 Z).flatMap bZ) [];rw[yU]at this;unfold fK;lia
 have a5:m6 Iv H4 rt 10 Z (fK ((cu 10 Z).flatMap bZ)):=
  #[#[_,bt],J.ok,yI2 _ _ #[bt,bc,(),(),rfl],m9 10 bt J.ok,zG 10 _ bc (λn hn=>Fo hn),(),b2,∅]
 have c2:∀(t:Bool) (cq:so) (H7:Hp),sg H4 H7->H4 cq=Nn->B5 H7 cq (dq (fK ((cu 10 Z).flatMap bZ)) 10 t Z)->Q (.ref cq) H7:=λt cq H7 s7 dt hC=>by
  have hl:=J.ld;refine q cq H7 _ _ (s4.trans s7) (s4.free dt) hC (FZ J.fi J.ok a5.nm) (x9 J.fi) ?_ ?_
  .have:=Bn J.fi J.nm;lia
  .have:=ml (gN (b7 (fK ((cu 10 Z).flatMap bZ)) (dy 10 Z))) 10 0 0 Z;unfold dq;rw[jn,Jj];cases t<;>lia
 rw?;refine#[∅,aP (λcc=>?_) (λcc=>?_)]
 .exact yI3 rt Z _ #[rfl,a5,c2 true]
 .rw?;exact yI3 rt Z _ #[rfl,a5,c2 false]
def Qo(rl:Rl)(r:aC)(ts:LJ):Option LJ:=match ts with
 | [n]=>Sm [ci r n]
 | [n,k]=>(after rl k (gB r [n,k])).map λj=>[ci r n,j]
 | [n,m,o]=>Sm [ci r n,ci r m,o]
 | [n,m,o,k]=>(after rl k (gB r [n,m,o,k])).map λj=>[ci r n,ci r m,o,j]
 | _=>Nn
def Aq:Sp:=λvs H Q _=>∃(p b t:so) (rl:Rl) (r:aC) (N:Nat) (ts:LJ),vs=[.ref p,.ref b,.ref t]/\CU H p rl/\dD rl/\bN H b r/\Do N r/\N<=9000/\cF H t ts/\kq rl.s rl.rs.length ts/\pW ts/\∀(H':Hp),sg H H'->(fP rl r ts=Nn->Q .non H')/\∀(us:LJ) (u:so),fP rl r ts=Sm us->H u=Nn->cF H' u us->Q (.ref u) H'
theorem Ft(D:xn K mg "_law_behind" bX) (Z:wAK mg) (F:aH P w K mg base 2 "_law_sum_behind" qAi zk) (O:aH P w K mg base 3 "_law_room" qAF vT):aH P w K mg base 4 "_law_behind" qAF Aq:=by
 refine D.cal (k:=3) F0 (λf bt A outer s0 H vs Q E hr h=>?_);revert h;refine yF7 λp b t rl r N ts=>yB10 ?_;rintro rfl hR ok hb hk hN ht U a7 q;refine⟨_,(ah (aS (az aM (am (au K) (pv 1) af) ay (aB _)) (aj (aA dJ)) aL)
   (ah (aS (PW.pt' (cw (az aM (am (au K) (pv 0) af) af (aB _)) (cS (az aM (br (aU K) Z bG (aa (pv 2) ae)) af (aB _))))) (aj (aA (aN (aa (ax F hr (aa (pv 1) (aa (am (au K) (pv 2) af) ae))) ae)))) aL)
   (ah (av 3 F0.nd (aN (aa (ax F hr (aa (pv 1) (aa (am (au K) (pv 2) af) ae))) ae)))
   (ah (aS (az aM (am (au K) (pv 0) af) af (aB _)) (ah (av 3 F0.nd (ar (ee K) (pv 3) (aN (aa (ax F hr (aa (pv 1) (aa (am (au K) (pv 2) af) ae))) (aa (am (au K) (pv 2) af) ae)))))
   (aj (aS (az aM (br (aU K) Z bG (aa (pv 2) ae)) af (aB _)) (aj (aA (pv 3))) aL))) aL)
   (ah (av 4 F0.nd (ax O hr (aa (pv 0) (aa (pv 1) (aa (pv 2) ae)))))
   (ah (aS (az jH (pv 4) dJ (aB _)) (aj (aA dJ)) aL)
   (aj (aA (ar (ee K) (pv 3) (aN (aa (pv 4) ae))))))))))),?_⟩
 refine yE3 (id hR) λpw pr as=>yB3 λag be bg=>?_;cbv;refine X1 (su.of hb) (ao (j:=0) hk.hd) ?_;cbv;refine aP (λcc=>?_) (λcc=>?_)
 .exact(q H (sg.refl H)).1 (by unfold fP;rw[KZ cc])
 have eA:∀ {us},Qo rl r ts=us->fP rl r ts=us:=λz=>by unfold fP;rw[KQ cc];exact z
 have a6:∃n us,ts=n::us/\(us=[]->rl.s=2):=by
  cases U with
  | h1 n k=>exact yI2 n ([k]) #[rfl,λz=>nomatch z]
  | one n h=>exact yI2 n ([]) #[rfl,λ_=>h]
  | two n m o=>exact yI2 n ([m,o]) #[rfl,λz=>nomatch z]
  | tie n m o k=>exact yI2 n ([m,o,k]) #[rfl,λz=>nomatch z]
 revert a6;refine yF2 λn us=>yB2 λJ a8=>?_;have e0:ts[0]?=Sm n:=by rw[J];rfl
 refine dX (λσ' H'=>H=H'/\σ'=[Sm (.ref p),Sm (.ref b),Sm (.ref t),Nn,Nn]/\us≠[]) (λk S=>?_) ?_
 .cbv;refine X1 (su.of ag) rfl ?_;cbv;refine aP (λc1=>?_) (λc1=>S _ _ #[rfl,rfl,λz=>c1 (a8 z)]);refine#[_,.inr (su.of ht),?_];rw[ze];cbv;refine aP (λY=>?_) (λY=>S _ _ #[rfl,rfl,λz=>Y (by rw[J,z];rfl)]);obtain rfl:us=[]:=by
   have Y:ts.length=1:=()
   rw[J]at Y;simpa using Y
  refine X1 (su.of ht) (nA e0) (yI4 b r n N #[rfl,hb,hk,hN,λH1 s1=>#[∅,λu hu=>?_]]);exact(q _ (s1.trans (ak hu _))).2 [ci r n] u (eA (by rw[J];rfl)) (s1.free hu) ai
 rintro σ' H' ⟨rfl,rfl,al⟩;rw?;refine X1 (su.of ht) (nA e0) (yI4 b r n N #[rfl,hb,hk,hN,λH1 s1=>#[∅,λu hu=>?_]]);have s2:=ak hu (.tup [.int (ci r n:Nat)]);have e2:cF (upd H1 u (.tup [.int (ci r n:Nat)])) u [ci r n]:=ai;generalize upd H1 u (.tup [.int (ci r n:Nat)])=H2 at s2 e2 |-;have ab:=s1.trans s2;have bh:=s1.free hu;clear s1 s2 hu;refine dX (λσ' H'=>∃(f:so) (ks:LJ) (k:Nat),σ'=[Sm (.ref p),Sm (.ref b),Sm (.ref t),Sm (.ref f),Nn]/\sg H H'/\cF H' f ks/\ks≠[]/\ks.length<=3/\mS ts k/\k<rl.rs.length/\fP rl r ts=(after rl k (gB r ts)).map λj=>ks++[j]) (λk S=>?_) ?_
 .cbv;refine X1 (su.of (ab _ _ ag)) rfl ?_;cbv;refine aP (λc1=>?_) (λc1=>?_)
  .have a9:∃m o vs,ts=n::m::o::vs:=by
    cases U with
    | h1 _ _ h=>lia
    | one _ _=>cases J;exact absurd rfl al
    | two a m o=>cases J;exact yI3 m o ([]) rfl
    | tie a m o k=>cases J;exact yI3 m o ([k]) rfl
   revert a9;refine yF3 λm o ws W=>?_;refine X1 (su.of (ab _ _ ht)) (nA (j:=1) (n:=m) (by rw[W];rfl)) (yI4 b r m N #[rfl,ab _ _ hb,hk,hN,λH3 s3=>?_]);have ad:=ab.trans s3;refine X1 (su.of (ad _ _ ht)) (nA (j:=2) (n:=o) (by rw[W];rfl)) #[∅,λv hv=>?_];have s4:=ak hv (.tup [.int (ci r m:Nat),.int (o:Int)]);have e4:cF (upd H3 v (.tup [.int (ci r m:Nat),.int (o:Int)])) v [ci r m,o]:=ai;generalize upd H3 v (.tup [.int (ci r m:Nat),.int (o:Int)])=H4 at s4 e4 |-;refine yI2 _ _ ⟨su.of ((s3.trans s4) _ _ e2),su.of e4,'~',aJ '~',λz=>absurd z '~',λ_ f hf=>?_⟩
   have s5:=ad.trans (s4.trans (ak hf (.tup ([ci r n].map iN++[ci r m,o].map iN))));have e5:cF (upd H4 f (.tup ([ci r n].map iN++[ci r m,o].map iN))) f [ci r n,ci r m,o]:=ai;have a5:=(ad.trans s4).free hf;generalize upd H4 f (.tup ([ci r n].map iN++[ci r m,o].map iN))=H5 at s5 e5 |-;rw?;refine#[_,.inr (su.of (s5 _ _ ht)),?_]
   rw[ze];cbv;refine aP (λY=>?_) (λY=>?_)
   .obtain rfl:ws=[]:=by
     have Y:ts.length=3:=()
     rw[W]at Y;simpa using Y
    exact(q _ s5).2 _ f (eA (by rw[W];rfl)) a5 e5
   .cases U with
    | h1 _ _ h=>lia
    | one _ _=>cases J;exact absurd rfl al
    | two a m o=>exact absurd rfl Y
    | tie a m o k _ hk4=>cases W;exact S _ _ (yI3 f _ k #[rfl,s5,e5,'~','~',.tie _ _ _ _,hk4,eA rfl])
  .cases U with
   | h1 a k h hk4=>cases J;exact S _ _ (yI3 u _ k #[rfl,ab,e2,'~','~',.h1 _ _,hk4,eA rfl])
   | one _ h | two _ _ _ h | tie _ _ _ _ h=>exact absurd h c1
 intro σ' H3;refine yF3 λf ks k=>yB8 ?_;rintro rfl s3 e3 a4 bp bc a3 hA;rw?;refine yI8 p b t rl r ts k N #[rfl,hR.mono s3,ok,a3,s3 _ _ hb,hk,hN,s3 _ _ ht,U,bc,a7,λH4 s4=>?_];have ac:=s3.trans s4;cases ha:after rl k (gB r ts) with
 | none=>
  rw?;rw[KZ (show du Nn=V.non from rfl)];exact(q H4 ac).1 (by rw[hA,ha];rfl)
 | some j=>
  rw?;rw[KQ (by simp[du])];rw?;refine#[∅,λv hv=>?_];∎;rename_i H5 s5 e5;cbv;refine yI2 _ _ #[su.of ((s4.trans s5) _ _ e3),su.of e5,λz=>a4 (Lk.mp z),by rw[ze];exact aJ (by simp;lia),λhz=>absurd hz '~',λ_ x hx=>?_];have s6:=ac.trans (s5.trans (ak hx (.tup (ks.map iN++[du (Sm j)]))));exact(q _ s6).2 (ks++[j]) x (by rw[hA,ha];rfl) ((ac.trans s5).free hx) (by show upd _ _ _ _=_;rw[ai,yH];rfl)
theorem Fp(D:xn K mg "_law_after" fU):aH P w K mg base 1 "_law_after" qAd zh:=by
 refine D.cal (k:=0) qW (λf ac A outer s0 H vs Q E hr h=>?_);revert h;refine yF5 λc R i N r=>yB5 ?_;rintro rfl hL hC U q;refine⟨_,(ah (aS (az aM (am (au K) (am (au K) (pv 0) (pv 1)) af) ay (aB _)) (aj (aA (aI ae))) aL)
   (ah (aS (az aM (am (au K) (am (au K) (pv 0) (pv 1)) af) ay (aB _)) (aj (aA (aI (aa (am (au K) (am (au K) (pv 0) (pv 1)) af) ae)))) aL)
   (ah (aS (az aM (am (au K) (am (au K) (pv 0) (pv 1)) af) ay (aB _)) (aj (aA (aI (aa (ar aF (pv 1) af) (aa (am (au K) (am (au K) (pv 0) (pv 1)) af) ae))))) aL)
   (aj (aA (aI (aa (ar aF (pv 1) af) ae))))))),?_⟩
 refine yE2 (jE hL U) λas b=>yB4 λa1 al ab S=>?_;have W:=(hC.row i r U).1;have J:cM (as.map V.ref) (i:Int)=Sm (.ref b):=ao (by rw[yf,ab];rfl);unfold cr at q;cbv;refine X2 (ud.of a1) J ?_;cbv;refine X1 (su.of S) (ao (j:=0) W.hd) ?_;cbv;refine aP (λc1=>?_) (λc1=>?_)
 .rw[KZ c1]at q;exact#[∅,λO F=>q O _ (ak F _) F ai]
 rw[KQ c1]at q;rw?;refine X2 (ud.of a1) J ?_;cbv;refine X1 (su.of S) (ao (j:=0) W.hd) ?_;cbv;refine aP (λY=>?_) (λY=>?_)
 .rw[KZ Y]at q;refine X2 (ud.of a1) J ?_;cbv;refine X1 (su.of S) (ao (j:=2) (W.j2 Y)) ?_;exact#[∅,λO F=>q O _ (ak F _) F ai]
 rw[KQ Y]at q;rw?;refine X2 (ud.of a1) J ?_;cbv;refine X1 (su.of S) (ao (j:=0) W.hd) ?_;cbv;refine aP (λZ=>?_) (λZ=>?_)
 .rw[KZ Z]at q;refine X2 (ud.of a1) J ?_;cbv;refine X1 (su.of S) (ao (j:=3) (W.t3 Z)) ?_;exact#[∅,λO F=>q O _ (ak F _) F ai]
 .rw[KQ Z]at q;rw?;exact#[∅,λO F=>q O _ (ak F _) F ai]
theorem yl.updL{bs:LL}{F:List LJ}{l:so}{ys:LM}(hl:H l=Sm (.lst xs))(h:yl H bs F):yl (upd H l (.lst ys)) bs F:=⟨h.1,λi b ts h1 h2=>by
 have e:H b=Sm (.tup (ts.map iN)):=h.2 i b ts h1 h2;show upd H l (.lst ys) b=_;rw[aw (λz=>by rw[z,hl]at e;cases e)];exact e⟩
def AO:Sp:=λvs H Q _=>∃(p b L:so) (rl:Rl) (r:aC) (N:Nat) (bs:LL) (tss:List LJ),vs=[.ref p,.ref b,.ref L]/\CU H p rl/\dD rl/\bN H b r/\Do N r/\N<=9000/\H L=Sm (.lst (bs.map V.ref))/\yl H bs tss/\tss.length<=1/\(∀ts∈tss,kq rl.s rl.rs.length ts)/\
 ∀(L':so) (H':Hp) (cs:LL),sg H H'->H L'=Nn->H' L'=Sm (.lst (cs.map V.ref))->yl H' cs (cE rl r tss)->Q (.ref L') H'
theorem FE(D:xn K mg "_law_begun" bI) (ag:wAK mg) (ab:aH P w K mg base 1 "_law_next" qAH oP) (O:aH P w K mg base 2 "_law_sum_behind" qAi zk) (Y:aH P w K mg base 1 "_law_has" qAX mQ):aH P w K mg base 3 "_law_begun" qAZ AO:=by
 refine D.cal (k:=2) Cr (λf cm A outer s0 H vs Q E hr h=>?_);revert h;refine yF8 λp b L rl r N bs J=>yB11 ?_;rintro rfl hp hok hb hk hN hL hT h7 hA q;refine⟨_,(ah (aS (PW.pt' (cw (az aM (am (au K) (pv 1) af) ay (aB _)) (cS (az aM (am (au K) (pv 0) af) af (aB _))))) (ah (av 3 Cr.nd (ax ab hr (aa (pv 0) (aa af (aa ay ae)))))
   (aj (aA (ft (az mH (pv 3) dJ (aB _)) (aI (aa (aN (aa (ar fN af (am (au K) (pv 1) af)) (aa (pv 3) ae))) ae)) (aI ae))))) aL)
   (ah (av 4 Cr.nd (aI ae))
   (ah (aS (az aM (am (au K) (pv 1) af) ay (aB _)) (ah (bo (bB K xl mB mF bw (pv 4) (aa (aN (aa (ar fN af (am (au K) (pv 1) af)) ae)) ae)))
   (aj (bT xm rfl (bJ K (pv 2)) (aV 5 Cr.nd) (aj (aS (az aM (br (aU K) ag bG (aa (pv 5) ae)) af (aB _)) (ah (av 6 Cr.nd (ax O hr (aa (pv 1) (aa (am (au K) (pv 5) af) ae))))
   (aj (av 4 Cr.nd (ar aF (pv 4) (aI (aa (aN (aa (pv 6) (aa (ar fN af (am (au K) (pv 1) af)) (aa af ae)))) (aa (aN (aa (ar fN af (am (au K) (pv 1) af)) (aa (pv 6) (aa af ae)))) ae))))))) aL))))) aL)
   (ah (aS (PW.pt' (cw (az aM (am (au K) (pv 1) af) ay (aB _)) (cS (az aM (am (au K) (pv 0) af) af (aB _))))) (aj (bT xm rfl (bJ K (pv 2)) (aV 5 Cr.nd) (aj (aS (PW.pt' (cw (az aM (br (aU K) ag bG (aa (pv 5) ae)) af (aB _)) (cw (cQ (ax Y hr (aa (am (au K) (pv 5) af) (aa (am (au K) (pv 1) af) ae)))) (cS (cQ (ax Y hr (aa (am (au K) (pv 5) af) (aa (am (au K) (pv 1) af) ae)))))))) (aj (bo (bB K xl mB mF bw (pv 4) (aa (ar (ee K) (pv 5) (aN (aa af ae))) ae)))) aL)))) aL)
   (aj (aA (pv 4))))))),?_⟩
 refine yE3 (id hp) λpw pr as=>yB3 λbe cn cd=>?_;have ad:∀i (h:i<J.length),J.take (i+1)=J.take i++[J[i]]:=λi h=>by rw[rT,zg h];rfl
 have hs:=hok.s;refine dX (λσ' H'=>H=H'/\σ'=[Sm (.ref p),Sm (.ref b),Sm (.ref L),Nn,Nn,Nn,Nn]/\¬ (cO r = "open" /\ rl.s=1)) (λk S=>?_) ?_
 .cbv;refine X1 (su.of hb) (ao (j:=0) hk.hd) ?_;cbv;refine aP (λc1=>?_) (λc1=>S _ _ #[rfl,rfl,λz=>c1 z.1]);refine X1 (su.of be) rfl ?_;cbv;refine aP (λc2=>?_) (λc2=>S _ _ #[rfl,rfl,λz=>c2 z.2]);let#[h2,l2]:=hk.s2 (by rw[c1];decide);refine yI4 p rl 0 ("open") #[rfl,hp,hok,by have:=hok.n0;lia,?_];have eb:cE rl r J=(match step rl 0 "open" with | some j=>[[2^aG r 2,j]] | none=>[]):=by unfold cE gq;rw[KZ c1];exact KZ c2
  rw[eb]at q;cases hst:step rl 0 "open" with
  | none=>
   rw[hst]at q;rw?;exact#[∅,λx hx=>q x _ [] (ak hx _) hx ai (yl.nil _)]
  | some j=>
   rw[hst]at q;rw?;refine X1 (su.of hb) (ao (j:=2) h2) ?_;cbv;refine#[#[(),(),∅],∅,λt ht=>#[∅,λx hx=>?_]];rw[iU]at hx |-
   have s2:=ak ht (.tup [V.int (2^aG r 2:Nat),V.int (j:Int)]);have t2:cF (upd H t (.tup [V.int (2^aG r 2:Nat),V.int (j:Int)])) t [2^aG r 2,j]:=ai;exact q x _ [t] (s2.trans (ak hx _)) (s2.free hx) ai (yl.one (ak hx _ _ _ t2))
 rintro σ' H' ⟨rfl,rfl,bh⟩;rw?;refine#[∅,λF hF=>?_];∎;rename_i H2 s2 U;have U:H2 F=Sm (.lst (([]:LL).map V.ref)):=U;have bc:=s2 _ _ hb;refine dX (λσ' H'=>∃(F:so) (cs:LL) (o5 o6:LR),σ'=[Sm (.ref p),Sm (.ref b),Sm (.ref L),Nn,Sm (.ref F),o5,o6]/\sg H H'/\H F=Nn/\H' F=Sm (.lst (cs.map V.ref))/\yl H' cs (if cO r = "open" then gq rl (aG r 2) J else [])) (λk S=>?_) ?_
 .cbv;refine X1 (su.of bc) (ao (j:=0) hk.hd) ?_;cbv;refine aP (λc1=>?_) (λc1=>S _ _ (yI4 F ([]) Nn Nn #[rfl,s2,hF,U,by rw[KQ c1];exact yl.nil _]));rw[KZ c1]at S;have c3:¬ rl.s=1:=λz=>bh #[c1,z];let#[h2,l2]:=hk.s2 (by rw[c1];decide);have ca:gq rl (aG r 2) J=[2^aG r 2]::J.flatMap λts=>if ts.length=1 then [[aX (ts.getD 0 0) (aG r 2),2^aG r 2,1],[2^aG r 2,aX (ts.getD 0 0) (aG r 2),2]] else []:=by unfold gq;rw[KQ c3]
  have bt:∀n,ci r n=aX n (aG r 2):=λn=>by unfold ci;rw[KQ (λz=>absurd (c1.symm.trans z.1) ∅),KZ (by rw[c1];decide)]
  rw[ca]at S;refine#[#[_,ud.of U],X1 (su.of bc) (ao (j:=2) h2) ?_];cbv;refine#[#[(),(),∅],∅,λt ht=>#[_,ak ht _ _ _ U,aJ '~',?_]];rw[iU];have t3:cF (upd H2 t (.tup [V.int (2^aG r 2:Nat)])) t [2^aG r 2]:=ai;have T3:yl (upd (upd H2 t (.tup [V.int (2^aG r 2:Nat)])) F (.lst (([]:LL).map V.ref++[V.ref t]))) [t] [[2^aG r 2]]:=((yl.nil _).snoc t3).updL (ak ht _ _ _ U);have s3:=(s2.trans (ak ht (.tup [V.int (2^aG r 2:Nat)]))).upd hF (.lst (([]:LL).map V.ref++[V.ref t]));have e3:upd (upd H2 t (.tup [V.int (2^aG r 2:Nat)])) F (.lst (([]:LL).map V.ref++[V.ref t])) F=Sm (.lst ([t].map V.ref)):=ai;generalize upd (upd H2 t (.tup [V.int (2^aG r 2:Nat)])) F (.lst (([]:LL).map V.ref++[V.ref t]))=H3 at T3 s3 e3 |-;rw?;refine#[#[_,ud.of (s3 _ _ hL)],?_]
  refine b6 (xs:=bs.map V.ref) (λi σ H'=>∃(F:so) (cs:LL) (o5 o6:LR),σ=[Sm (.ref p),Sm (.ref b),Sm (.ref L),Nn,Sm (.ref F),o5,o6]/\sg H H'/\H F=Nn/\H' F=Sm (.lst (cs.map V.ref))/\
   yl H' cs ([2^aG r 2]::(J.take i).flatMap λts=>if ts.length=1 then [[aX (ts.getD 0 0) (aG r 2),2^aG r 2,1],[2^aG r 2,aX (ts.getD 0 0) (aG r 2),2]] else [])/\cs.length<=1+2*i)
   (yI4 F ([t]) Nn Nn #[rfl,s3,hF,e3,T3,'~']) (λi σ H' _ hh=>by revert hh;refine yF4 λ_ _ _ _=>yB3 λ_ z _=>?_;exact ud.of (z _ _ hL)) ?_ ?_
  .intro i v σ H' hv;refine yF4 λF cs o5 o6=>yB6 ?_;rintro rfl sm hF U W a5;have hi:i<bs.length:=by have:=(KO.mp hv).1;simpa using this
   rw[yf,zg hi]at hv;cases hv;have al:i<J.length:=by rw[<-hT.1];exact hi
   have ac:=hT.2 i _ _ (zg hi) (zg al);rw[ad i al,zbn,List.flatMap_singleton,<-ir];generalize J[i]=ts at ac |-;generalize bs[i]=u at ac |-;have Z:H' u=Sm (.tup (ts.map iN)):=sm _ _ ac
   cbv;refine#[_,.inr (su.of Z),?_];rw[ze];refine aP (λc2=>?_) (λc2=>?_)
   .let#[n,rfl]:=List.length_eq_one_iff.mp (show ts.length=1 from ());refine X1 (su.of Z) (ao (j:=0) (by rfl)) ?_;refine yI4 b r n N #[rfl,sm _ _ hb,hk,hN,λH4 s4=>?_];rw[bt];have a7:=sm.trans s4;have b3:=s4 _ _ U;have T4:=W.same s4;have b4:=a7 _ _ hb;rw?;refine X1 (su.of b4) (ao (j:=2) h2) ?_;cbv;refine#[#[(),(),∅],∅,λt1 b2=>?_];rw[iU];have s6:=ak b2 (.tup ([aX n (aG r 2),2^aG r 2,1].map iN));have e6:cF (upd H4 t1 (.tup ([aX n (aG r 2),2^aG r 2,1].map iN))) t1 [aX n (aG r 2),2^aG r 2,1]:=ai;rw[show [V.int ((aX n (aG r 2):Nat):Int),V.int ((2^aG r 2:Nat):Int),V.int 1]=[aX n (aG r 2),2^aG r 2,1].map iN from rfl];generalize upd H4 t1 (.tup ([aX n (aG r 2),2^aG r 2,1].map iN))=H6 at s6 e6 |-;refine X1 (su.of (s6 _ _ b4)) (ao (j:=2) h2) ?_
    cbv;refine#[#[(),(),∅],∅,λt2 bp=>?_];rw[iU];have s7:=ak bp (.tup ([2^aG r 2,aX n (aG r 2),2].map iN));have e7:cF (upd H6 t2 (.tup ([2^aG r 2,aX n (aG r 2),2].map iN))) t2 [2^aG r 2,aX n (aG r 2),2]:=ai;rw[show [V.int ((2^aG r 2:Nat):Int),V.int ((aX n (aG r 2):Nat):Int),V.int 2]=[2^aG r 2,aX n (aG r 2),2].map iN from rfl];generalize upd H6 t2 (.tup ([2^aG r 2,aX n (aG r 2),2].map iN))=H7 at s7 e7 |-;refine⟨∅,λx ce=>?_⟩
    ∎;rename_i H8 s8 e8;have e8:H8 x=Sm (.lst ([t1,t2].map V.ref)):=e8;have a4:=s6.trans (s7.trans s8);refine yI2 _ _ #[a4 _ _ b3,e8,by rw[ze];exact aJ (by simp;lia),λG hG=>?_];have s9:=ak hG (.lst (cs.map V.ref++[t1,t2].map V.ref));refine yI4 G (cs++[t1]++[t2]) _ _ #[rfl,a7.trans (a4.trans s9),(a7.trans a4).free hG,by rw[ai];simp,?_,by simp;lia];have T9:=((T4.same (a4.trans s9)).snoc ((s7.trans (s8.trans s9)) _ _ e6)).snoc ((s8.trans s9) _ _ e7);have eq:([2^aG r 2]::((J.take i).flatMap λts=>if ts.length=1 then [[aX (ts.getD 0 0) (aG r 2),2^aG r 2,1],[2^aG r 2,aX (ts.getD 0 0) (aG r 2),2]] else []))++[[aX n (aG r 2),2^aG r 2,1]]++[[2^aG r 2,aX n (aG r 2),2]]=[2^aG r 2]::(((J.take i).flatMap λts=>if ts.length=1 then [[aX (ts.getD 0 0) (aG r 2),2^aG r 2,1],[2^aG r 2,aX (ts.getD 0 0) (aG r 2),2]] else [])++[[aX n (aG r 2),2^aG r 2,1],[2^aG r 2,aX n (aG r 2),2]]):='~';rw[eq]at T9;exact T9
   .refine yI4 F cs (Sm (.ref u)) o6 #[rfl,sm,hF,U,?_,()];rw[KQ (),sF];exact W
  .intro σ H';refine yF4 λF cs o5 o6=>yB6 ?_;rintro rfl sm hF U W a5;rw[ze,hT.1,tO]at W;exact S _ _ (yI4 F cs o5 o6 #[rfl,sm,hF,U,W])
 intro σ2 H5;refine yF4 λF cs o5 o6=>yB5 ?_;rintro rfl s5 hF U a8;have b1:=s5 _ _ hb;refine dX (λσ' H'=>∃(F:so) (cs:LL) (o5 o6:LR),σ'=[Sm (.ref p),Sm (.ref b),Sm (.ref L),Nn,Sm (.ref F),o5,o6]/\sg H H'/\H F=Nn/\H' F=Sm (.lst (cs.map V.ref))/\yl H' cs (cE rl r J)) (λk S=>?_) ?_
 .cbv;refine X1 (su.of b1) (ao (j:=0) hk.hd) ?_;cbv;refine aP (λc1=>?_) (λc1=>S _ _ (yI4 F cs o5 o6 #[rfl,s5,hF,U,by unfold cE;rw[KQ c1];exact a8]));have no:¬ cO r = "open" := λz=>absurd (c1.symm.trans z) ∅;have eb:cE rl r J=gb (aG r 2) (aG r 3) J:=by unfold cE;rw[KQ no,KZ c1]
  rw[eb]at S;rw[KQ no]at a8;obtain rfl:cs=[]:=List.length_eq_zero_iff.mp a8.1;refine X1 (su.of (s5 _ _ be)) rfl ?_;cbv;refine aP (λc2=>?_) (λc2=>S _ _ (yI4 F ([]) o5 o6 #[rfl,s5,hF,U,?_]))
  .let#[h2,l2]:=hk.s2 (by rw[c1];decide);let#[h3,l3]:=hk.s3 (by rw[c1];decide);refine#[#[_,ud.of (s5 _ _ hL)],?_];refine b6 (xs:=bs.map V.ref) (λi σ H'=>∃(cs:LL) (o5:LR),σ=[Sm (.ref p),Sm (.ref b),Sm (.ref L),Nn,Sm (.ref F),o5,o6]/\sg H H'/\H' F=Sm (.lst (cs.map V.ref))/\yl H' cs (gb (aG r 2) (aG r 3) (J.take i))/\cs.length<=i)
    (yI2 ([]) o5 #[rfl,s5,U,yl.nil _,zu _]) (λi σ H' _ hh=>by revert hh;refine yF2 λ_ _=>yB3 λ_ z _=>?_;exact ud.of (z _ _ hL)) ?_ ?_
   .intro i v σ H' hv;refine yF2 λcs o5=>yB5 ?_;rintro rfl sm U W a5;have hi:i<bs.length:=by have:=(KO.mp hv).1;simpa using this
    rw[yf,zg hi]at hv;cases hv;have al:i<J.length:=by rw[<-hT.1];exact hi
    have ac:=hT.2 i _ _ (zg hi) (zg al);have a6:=ad i al;generalize J[i]=ts at ac a6;generalize bs[i]=u at ac |-;have Z:H' u=Sm (.tup (ts.map iN)):=sm _ _ ac
    have a3:(decide (ts.length=3)&&bi (ts.getD 0 0) (aG r 2)&&bi (ts.getD 1 0) (aG r 3))=false->∃(cs:LL) (o5:LR),[Sm (V.ref p),Sm (.ref b),Sm (.ref L),Nn,Sm (.ref F),Sm (.ref u),o6]=[Sm (V.ref p),Sm (.ref b),Sm (.ref L),Nn,Sm (.ref F),o5,o6]/\sg H H'/\H' F=Sm (.lst (cs.map V.ref))/\yl H' cs (gb (aG r 2) (aG r 3) (J.take (i+1)))/\cs.length<=i+1:=λz=>by
     refine yI2 cs _ #[rfl,sm,U,?_,()];unfold gb;rw[a6,IH,show [ts].filter (λts=>decide (ts.length=3)&&bi (ts.getD 0 0) (aG r 2)&&bi (ts.getD 1 0) (aG r 3))=[] by rw[List.filter_cons,z];rfl,sF];exact W
    cbv;refine#[_,.inr (su.of Z),?_];rw[ze];refine aP (λc3=>?_) (λc3=>a3 (by rw[decide_eq_false (λz=>c3 ())];rfl));obtain⟨x,y,z,rfl⟩ : ∃x y z,ts=[x,y,z]:=by
     match ts,(show ts.length=3 from ()) with
     | [x,y,z],_=>exact yI3 x y z rfl
    have bg:=sm _ _ hb;refine X1 (su.of Z) (ao (j:=0) (by rfl)) (X1 (su.of bg) (ao (j:=2) h2) (yI2 x (aG r 2) #[rfl,(),_,rfl,aP (λc4=>?_) (λc4=>a3 (by show (true&&bi x _&&_)=false;rw[Ll.mpr c4];rfl))]));refine X1 (su.of Z) (ao (j:=1) (by rfl)) (X1 (su.of bg) (ao (j:=3) h3) (yI2 y (aG r 3) #[rfl,(),_,rfl,aP (λc5=>?_) (λc5=>a3 (by show (true&&bi x _&&bi y _)=false;rw[Ll.mpr c5,Bool.and_false]))]));refine#[#[_,ud.of U],∅,λa1 a9=>yI2 _ _ #[su.of (ak a9 _ _ _ Z),su.of ai,'~',(by show 4<=L_;decide),λz=>absurd z '~',λ_ a2 cb=>?_]];have sa:=(ak a9 (.tup [V.int 0])).trans (ak cb (.tup ([x,y,z].map iN++[V.int 0])));have t2:cF (upd (upd H' a1 (.tup [V.int 0])) a2 (.tup ([x,y,z].map iN++[V.int 0]))) a2 [x,y,z,0]:=ai;refine#[_,sa _ _ U,aJ (by rw[ze];lia),yI2 (cs++[a2]) _ #[rfl,(sm.trans sa).upd hF _,by rw[ai];simp,?_,by simp;lia]];unfold gb;rw[a6,IH,show [[x,y,z]].filter (λts=>decide (ts.length=3)&&bi (ts.getD 0 0) (aG r 2)&&bi (ts.getD 1 0) (aG r 3))=[[x,y,z]] by simp[c4,c5],yH];exact yl.updL (sa _ _ U) ((W.same sa).snoc t2)
   .intro σ H';refine yF2 λcs o5=>yB5 ?_;rintro rfl sm U W a5;rw[ze,hT.1,tO]at W;exact S _ _ (yI4 F cs o5 o6 #[rfl,sm,hF,U,W])
  .have e0:gb (aG r 2) (aG r 3) J=[]:=by
    unfold gb;rw[Lk,List.filter_eq_nil_iff];intro ts cc;cases hA ts cc with
    | h1 n k _ _=>simp
    | one n z | two n m o z | tie n m o k z=>exact absurd z c2
   rw[e0];exact yl.nil _
 intro σ3 H6;refine yF4 λF cs o5 o6=>yB5 ?_;rintro rfl s6 hF U b0;rw?;exact q F H6 cs s6 hF U b0
def zQ:Sp:=λvs H Q _=>∃(F rw tk Wt:so) (rows:LJ) (cs fds qs0:LL) (toks:List LJ) (Ks:List (List LJ)) (U:List (Nat×LJ)),vs=[.ref tk,.ref rw,.ref F,.ref Wt]/\F≠Wt/\tk≠Wt/\rw≠Wt/\H rw=Sm (.lst (rows.map iN))/\H tk=Sm (.lst (cs.map V.ref))/\yl H cs toks/\B6 H F fds Ks/\H Wt=Sm (.lst (qs0.map V.ref))/\BW H qs0 U/\(∀j∈rows,j<Ks.length)/\rows.length<=2/\toks.length<=16/\(∀ks∈Ks,ks.length<=60000)/\U.length<=15000000/\
 ∀(H':Hp) (qs:LL),GA (Wt::fds) H H'->B6 H' F fds (fJ Ks rows toks).1->H' Wt=Sm (.lst (qs.map V.ref))->BW H' qs (U++(fJ Ks rows toks).2)->Q .non H'
theorem FD(D:xn K mg "_law_put_all" cg):aH P w K mg base 1 "_law_put_all" qAO zQ:=by
 refine D.cal (k:=0) Gc (λf cd A outer s0 H vs Q E hr h=>?_);revert h;refine yF11 λF rw tk W rows cs J a7 toks Ks U=>yB16 ?_;rintro rfl b4 b0 b1 a4 as hT hP hW hL a3 cb ce bt hU q;refine⟨_,(aj (bT xm rfl (bJ K (pv 1)) (aV 4 Gc.nd) (aj (bT xm rfl (bJ K (pv 0)) (aV 5 Gc.nd) (aj (aS (az (k_ hr) (pv 5) (am (au K) (pv 2) (pv 4)) (by with_unfolding_all rfl)) (ah (iT gC (kM (am (au K) (pv 2) (pv 4)) (pv 5) (Al hr)))
   (aj (bo (bB K xl mB mF bw (pv 3) (aa (aN (aa (pv 4) (aa (pv 5) ae))) ae))))) aL)))))),?_⟩
 have fo:W∉J:=hP.off hW (λ_=>'~');have cut:∀ {a:so} {o:HO},H a=Sm o->(∀kvs,o ≠ .dT kvs)->a≠W->a∉W::J:=λe ho hn z=>(K7.mp z).elim hn (hP.off e ho);cbv;refine#[#[_,ud.of a4],?_];have B0:IR Ks 0 (Ks,[]):=⟨rfl,zu _,λa=>by
  show (Ks.getD a []).length<=_;rw[xV];cases e:Ks[a]? with
  | none=>simp
  | some ks=>exact xH (bt ks (me e)) '~'⟩
 refine b6 (xs:=rows.map iN) (λi σ H'=>∃(st:List (List LJ)×List (Nat×LJ)) (qs:LL) (o4 o5:LR),σ=[Sm (.ref tk),Sm (.ref rw),Sm (.ref F),Sm (.ref W),o4,o5]/\st=(rows.take i).foldl (λst i=>ptT toks i st) (Ks,[])/\GA (W::J) H H'/\B6 H' F J st.1/\H' W=Sm (.lst (qs.map V.ref))/\BW H' qs (U++st.2)/\IR Ks (16*i) st)
  (yI4 _ a7 Nn Nn #[rfl,rfl,λa o _ e=>e,hP,hW,by show BW H a7 (U++[]);rw[sF];exact hL,B0]) (λi σ H' _ hh=>by revert hh;refine yF4 λ_ _ _ _=>yB4 λ_ _ z _=>?_;exact ud.of (z _ _ (cut a4 (λ_=>'~') b1) a4)) ?_ ?_
 .intro i v σ H2 hv;refine yF4 λst qs o4 o5=>yB7 ?_;rintro rfl ac k2 P2 w2 L2 B2;have hi:i<rows.length:=by have:=(KO.mp hv).1;simpa using this
  rw[yf,zg hi]at hv;cases hv;have a5:=a3 _ (xF hi);have eo:=jh (λst i=>ptT toks i st) (Ks,[]) hi;rw[<-ac]at eo;generalize rows[i]=at_ at a5 eo |-;have al:=cut as (λ_=>'~') b0
  cbv;refine#[#[_,ud.of (k2 _ _ al as)],?_];refine b6 (xs:=cs.map V.ref) (λj σ H'=>∃(S:List (List LJ)×List (Nat×LJ)) (qs:LL) (o5:LR),σ=[Sm (.ref tk),Sm (.ref rw),Sm (.ref F),Sm (.ref W),Sm (.int (at_:Int)),o5]/\S=(toks.take j).foldl (λst t=>pt1 st at_ t) st/\GA (W::J) H H'/\B6 H' F J S.1/\H' W=Sm (.lst (qs.map V.ref))/\BW H' qs (U++S.2)/\IR Ks (16*i+j) S)
   (yI3 st qs _ #[rfl,rfl,k2,P2,w2,L2,B2]) (λj σ H' _ hh=>by revert hh;refine yF3 λ_ _ _=>yB4 λ_ _ z _=>?_;exact ud.of (z _ _ al as)) ?_ ?_
  .intro j v σ H3 hv;refine yF3 λS qs o5=>yB7 ?_;rintro rfl ad k3 P3 w3 L3 Z;have hj:j<cs.length:=by have:=(KO.mp hv).1;simpa using this
   rw[yf,zg hj]at hv;cases hv;have bc:j<toks.length:=by rw[<-hT.1];exact hj
   have Y:=hT.2 j _ _ (zg hj) (zg bc);have ei:=jh (λst t=>pt1 st at_ t) st bc;rw[<-ad]at ei;have O:cF H3 cs[j] toks[j]:=k3 _ _ (cut Y (λ_=>'~') (λz=>by rw[z,cF,hW]at Y;cases Y)) Y;generalize toks[j]=t at ei O;generalize cs[j]=c at O |-;have a6:H3 c=Sm (.tup ((eZ t).map kV)):=by rw[lG];exact O
   have bg:at_<J.length:=by rw[P3.2.1,Z.1];exact a5
   have b3:at_<S.1.length:=by rw[Z.1];exact a5
   have ag:=zg bg;have a9:=zg b3;have a8:=P3.2.2.2 at_ _ _ ag a9;have eg:S.1.getD at_ []=S.1[at_]:=by rw[xV,a9];rfl
   cbv;refine X2 (ud.of P3.1) (ao (by rw[yf,ag];rfl)) (yI4 (J[at_]) c _ (eZ t) #[rfl,rfl,a8,a6,?_]);rw[kB];unfold K56.pt1 at ei;rw[eg]at ei;have ca:=Z.2.2 at_;rw[eg]at ca;have cc:=Z.2.1;refine#[_,rfl,aP (λc1=>?_) (λc1=>?_)]
   .have ab:t∉S.1[at_]:=by simpa using c1
    rw[KQ ab]at ei;have bp:bU (e_ S.1[at_]) (eZ t)=Nn:=by
     have:=kB S.1[at_] t;rw[decide_eq_false ab]at this;exact Option.isSome_eq_false_iff.mp this |> Option.isNone_iff_eq_none.mp
    refine X2 (ud.of P3.1) (ao (by rw[yf,ag];rfl)) (yI4 (J[at_]) c _ (eZ t) #[rfl,rfl,a8,a6,aJ (by unfold e_;rw[ze];lia),?_]);rw[tZ _ bp,show e_ S.1[at_]++[(eZ t,V.bl true)]=e_ (S.1[at_]++[t]) by unfold e_;rw[yH];rfl];have b2:J[at_]∈J:=xF bg;have P4:=P3.put ag (S.1[at_]++[t]);have kk:∀a o,a∉J->H3 a=Sm o->upd H3 J[at_] (.dT (e_ (S.1[at_]++[t]))) a=Sm o:=λa o ha e=>by rw[aw (λz=>ha (by rw[z];exact b2))];exact e
    have k4:GA (W::J) H (upd H3 J[at_] (.dT (e_ (S.1[at_]++[t])))):=λa o ha e=>kk a o (λz=>ha (yS _ z)) (k3 a o ha e);have w4:=kk _ _ fo w3;have L4:=L3.keep λa xs e=>kk _ _ (P3.off e (λ_=>'~')) e;have t4:cF _ c t:=kk _ _ (P3.off O (λ_=>'~')) O;generalize upd H3 J[at_] (.dT (e_ (S.1[at_]++[t])))=H4 at P4 k4 w4 L4 t4 |-;rw?;refine⟨⟨_,ud.of w4⟩,∅,λq1 be=>⟨_,ak be _ _ _ w4,by rw[ze,L3.1,jn];exact oG (show _<16000000 from ()) ∅,?_⟩⟩
    have s5:=ak be (.tup [V.int (at_:Int),V.ref c]);have e5:upd H4 q1 (.tup [V.int (at_:Int),V.ref c]) q1=Sm (.tup [V.int (at_:Int),V.ref c]):=ai;have w5:=s5 _ _ w4;have L5:=(L4.keep λa xs e=>s5 _ _ e).app (BW.one (pl:=(at_,t)) #[c,e5,s5 _ _ t4]);rw[uP]at L5;refine yI3 _ (qs++[q1]) _ #[rfl,ei.symm,λa o ha e=>?_,(P4.keep s5).else b4 fo,by rw[ai,yH];rfl,L5.keep λa xs e=>?_,?_]
    .rw[aw (λz=>ha (by rw[z];exact yy))];exact s5 _ _ (k4 _ _ ha e)
    .rw[aw (λz=>by rw[z,w5]at e;cases e)];exact e
    .have:=Z.pt1 (i:=at_) (t:=t);unfold K56.pt1 at this;rw[eg,KQ ab]at this;exact this
   .have bh:t∈S.1[at_]:=by simpa using c1
    rw[KZ bh]at ei;exact yI3 S qs _ #[rfl,ei.symm,k3,P3,w3,L3,Z.1,(),Z.2.2]
  .intro σ H3;refine yF3 λS qs o5=>yB7 ?_;rintro rfl ad k3 P3 w3 L3 Z;rw[ze,hT.1,tO]at ad;refine yI4 S qs _ _ #[rfl,by rw[ad,eo];rfl,k3,P3,w3,L3,Z.1,by have:=Z.2.1;rw[ze,hT.1]at this;lia,Z.2.2]
 .intro σ H2;refine yF4 λst qs o4 o5=>yB7 ?_;rintro rfl ac k2 P2 w2 L2 B2;rw[ze,tO]at ac;subst ac;exact q H2 qs k2 P2 w2 L2
theorem uj(x:Nat):∀ns:LJ,iQ (iN x) (ns.map iN)=decide (x∈ns)
 | []=>rfl
 | y::ns=>by
  have ih:=uj x ns;show (kZ (iN y) (iN x)||iQ (iN x) (ns.map iN))=_;rw[ih];show (decide ((y:Int)=(x:Int))||decide (x∈ns))=_;by_cases h:y=x
  .subst h;simp
  .have h2:¬ x=y:=λz=>h z.symm;have F:¬ (y:Int)=(x:Int):=()
   rw[decide_eq_false F];simp[h2]
theorem AN(ns:LJ):(ns.map iN).all cW=true:=by
 rw[zbr];intro v hv;let#[n,_,rfl]:=K3.mp hv
 rfl
theorem J7(h:Do N r):wc i r=cr i r:=by
 cases h<;>rfl
theorem EV{N:Nat}{R:List aC}{rs:LJ}(F:∀(i:Nat) r,R[i]?=Sm r->Do N r)(J:0∈rs)(O:∀i∈rs,∀r,R[i]?=Sm r->∀j∈cr i r,j∈rs){j:Nat}(h:GY R j):j∈rs:=by
 induction h with
 | zero=>exact J
 | step _ e m ih=>rw[J7 (F _ _ e)]at m;exact O _ ih _ e _ m
theorem JE{E:Nat}(h:yh N E R i r):(cr i r).Nodup:=by
 unfold cr;split
 .exact Ih
 split
 .simp
 split
 .rename_i c;have:=(h.2.1 c).1;simp;lia
 .simp
theorem FV{rows:LJ}{toks:List LJ}(J:∀j,(Ks.getD j []).Nodup)(F:∀j∈rows,j<Ks.length):(∀j∈rows,∀t∈toks,t∈(fJ Ks rows toks).1.getD j [])/\∀j x,x∈Ks.getD j []->x∈(fJ Ks rows toks).1.getD j []:=by
 have U:Im Ks (λ_ _=>True) (Ks,[]):=#[rfl,λ_ _ z=>z,λ_ _ z=>.inl z,rfl,J,λ_ z=>nomatch z];let#[_,W,S]:=U.ptR (toks:=toks) (rows:=rows) λa O=>#[F a O,λ_ _=>trivial];exact#[W,S]
structure IQ (R:List aC) (rl:Rl) (m:Nat) (rs:LJ) (Ks:dI) (U:List (Nat×LJ)):Prop where
 I:Ho R rl (G9 R rl) 0 Ks U
 eq:U.length=(Ks.map List.length).sum
 nd:rs.Nodup
 lt:∀i∈rs,i<R.length
 z:0∈rs
 beg:∀(k i:Nat) r,k<m->rs[k]?=Sm i->R[i]?=Sm r->∀j∈cr i r,j∈rs/\∀t∈cE rl r [],t∈Ks.getD j []
theorem IQ.step{O:Rl}{rs:LJ}{U:List (Nat×LJ)}(h:IQ R O m rs Ks U)(Z:rs[m]?=Sm i)(hi:R[i]?=Sm r)(S:∀j∈cr i r,j<R.length)(hd:(cr i r).Nodup) :
  IQ R O (m+1) (rs++(cr i r).filter λj=>decide (j∉rs)) (fJ Ks (cr i r) (cE O r [])).1 (U++(fJ Ks (cr i r) (cE O r [])).2):=by
 let#[I',hs]:=h.I.step (m':=0) (V:=U) (toks:=cE O r []) hi S (λj S t Y=>.beg hi S Y) (λa F=>absurd F (Ji _)) (λ_ z=>z) (zu _) (λ_ _ z=>.inl z);let#[g2,g3]:=FV (toks:=cE O r []) h.I.nd (λj z=>by rw[h.I.len];exact S j z);have hf:∀j,j∈cr i r->j∈rs++(cr i r).filter λj=>decide (j∉rs):=λj z=>by
  by_cases c:j∈rs
  .exact sE _ c
  .exact nS _ (Lh.mpr #[z,decide_eq_true c])
 have ab:=(KO.mp Z).1;refine#[I',by rw[jn,hs,h.eq],?_,λa F=>?_,sE _ h.z,λk a q hk F W j J=>?_]
 .rw[ID];exact#[h.nd,hd.filter _,λa F b hb z=>of_decide_eq_true (Lh.mp hb).2 (by rw[<-z];exact F)]
 .rcases K8.mp F with z | z
  .exact h.lt a z
  .exact S a (Lh.mp z).1
 .rw[xR ()]at F;rcases HU k m with c | c
  .let#[b1,b2]:=h.beg k a q c F W j J;exact#[sE _ b1,λt Y=>g3 _ _ (b2 t Y)]
  .rw[show k=m from (),Z]at F;cases F;rw[hi]at W;cases W;exact#[hf j J,g2 j J]
theorem IQ.all{F:Rl}{rs:LJ}{U:List (Nat×LJ)}(h:IQ R F m rs Ks U)(W:rs.length<=m)(O:∀(i:Nat) r,R[i]?=Sm r->Do N r)(S:∀i,i<R.length->GY R i):Ho R F (G9 R F) R.length Ks U:=by
 have at_:∀i∈rs,∀r,R[i]?=Sm r->∀j∈cr i r,j∈rs/\∀t∈cE F r [],t∈Ks.getD j []:=λi hi r e=>by
  let#[k,O,rfl]:=Le.mp hi;exact h.beg k _ r () (zg O) e
 exact#[h.I.len,h.I.nd,h.I.bd,λi r hi e j J=>(at_ i (EV O h.z (λi hi r e j J=>(at_ i hi r e j J).1) (S i hi)) r e j J).2,h.I.cl,h.I.wok,h.I.sum]
theorem IQ.le{F:Rl}{rs:LJ}{U:List (Nat×LJ)}(h:IQ R F m rs Ks U):rs.length<=R.length:=by
 have:=gA (l:=rs) (m:=List.range R.length) h.nd λx hx=>Lg.mpr (h.lt x hx)
 rwa [JB]at this
theorem Ho.next{F:Rl}{U:List (Nat×LJ)}{pl:Nat×LJ}{toks:List LJ}(I:Ho R F (G9 R F) R.length Ks (U.drop a))(eq:U.length=(Ks.map List.length).sum)(Y:U[a]?=Sm pl)(hi:R[pl.1]?=Sm r)(J:∀j∈cr pl.1 r,j<R.length)(S:∀t,t∈toks ↔ Ie F r pl.2 t) :
  Ho R F (G9 R F) R.length (fJ Ks (cr pl.1 r) toks).1 ((U++(fJ Ks (cr pl.1 r) toks).2).drop (a+1))/\(U++(fJ Ks (cr pl.1 r) toks).2).length=((fJ Ks (cr pl.1 r) toks).1.map List.length).sum:=by
 let#[O,e]:=KO.mp Y;have hd:U.drop a=pl::U.drop (a+1):=by rw[za4 O,e]
 rw[hd]at I;have hz:=(I.wok pl yy).2;let#[Z,W]:=I.step (m':=R.length) (V:=U.drop (a+1)) (toks:=toks) hi J (λj J t ht=>.mk hz hi J ((S t).mp ht)) (λ_ O=>.inl O) (λ_ z=>yS _ z) '~' (λb x z=>by
  rcases K7.mp z with z | z
  .subst z;exact .inr #[rfl,λt z=>(S t).mpr z]
  .exact .inl z)
 rw[List.drop_append_of_le_length ()];exact#[Z,by rw[jn,W,eq]]
def vC:Sp:=λvs H Q _=>∃(c p:so) (R:List aC) (rl:Rl) (N:Nat),vs=[.ref c,.ref p]/\B5 H c R/\CU H p rl/\Ik R rl N/\(∀i,i<R.length->GY R i)/\∀(F:so) (H':Hp) (fds:LL) (Ks:dI),sg H H'->H F=Nn->B6 H' F fds Ks->Ks.length=R.length->(∀j t,t∈Ks.getD j [] ↔ G9 R rl j t)->Q (.ref F) H'
def K1(H:Hp)(c p F Wt:so)(fds:LL)(R:List aC)(rl:Rl)(m:Nat)(σ : List LR)(H':Hp):Prop:=∃(a:Nat) (rs:LJ) (Ks:dI) (U:List (Nat×LJ)) (qs:LL) (ra:so),σ=[Sm (.ref c),Sm (.ref p),Sm (.ref F),Sm (.ref ra),Sm (.ref Wt),Sm (.int (a:Int)),Nn,Nn,Nn,Nn]/\sg H H'/\B6 H' F fds Ks/\H' Wt=Sm (.lst (qs.map V.ref))/\BW H' qs U/\ra≠Wt/\H' ra=Sm (.lst (rs.map iN))/\IQ R rl a rs Ks U/\m=R.length-a
def KW(H:Hp)(c p F Wt:so)(fds:LL)(R:List aC)(rl:Rl)(M m:Nat)(σ : List LR)(H':Hp):Prop:=∃(a:Nat) (Ks:dI) (U:List (Nat×LJ)) (qs:LL) (ra:so) (o6 o7 o8 o9:LR),σ=[Sm (.ref c),Sm (.ref p),Sm (.ref F),Sm (.ref ra),Sm (.ref Wt),Sm (.int (a:Int)),o6,o7,o8,o9]/\sg H H'/\B6 H' F fds Ks/\H' Wt=Sm (.lst (qs.map V.ref))/\BW H' qs U/\Ho R rl (G9 R rl) R.length Ks (U.drop a)/\U.length=(Ks.map List.length).sum/\a<=U.length/\m=M-a
theorem BQ(D:xn K mg "_law_come" aO) (bt:wAK mg) (Y:aH P w K mg base 3 "_law_begun" qAZ AO) (J:aH P w K mg base 1 "_law_after" qAd zh) (ad:aH P w K mg base 4 "_law_behind" qAF Aq) (S:aH P w K mg base 1 "_law_put_all" qAO zQ):aH P w K mg base 5 "_law_come" qAg vC:=by
 refine D.cal (k:=4) BC (λf f1 A outer s0 H vs Q E hr h=>?_);revert h;refine yF5 λc p R Z N=>yB6 ?_;rintro rfl hC hR ⟨ac,hN,ok,ev,eH,eE⟩ ed q;have c9:∀j x,G9 R Z j x->Hi Z.s (2^N) Z.rs.length x:=λj x h=>h.zt ok λi r e=>(ac.row i r e).1;have eL:∀(i:Nat) r,R[i]?=Sm r->Do N r:=λi r e=>(ac.row i r e).1;refine⟨_,(ah (iA (C5.to (fsc:=(rd aO)) (N:=qAA) (N0:=qAA) (T:=["_law_row"])) rfl BC.nd (i:=2) rfl Rt (bJ K (pv 0)) (λ_ _ _ _=>(aV 10 (show (["_law_code_here","_law_rule_here","_law_come_here","_law_rows","_law_waiting","_law_at","_law_here","_law_token","_law_found","_law_behind_here","_law_row"]:LI).Nodup from ⋯))) (cN (show (qAA:LI).length<=10 from ∅)) (λ_ _ _ _=>eJ) (λ_ _ _ _=>uh))
   (ah (av 3 BC.nd (aI (aa af ae)) (hx:=HV))
   (ah (av 4 BC.nd (aI ae))
   (ah (av 5 BC.nd af)
   (ah (j3 xm (az rX (pv 5) (br (aU K) bt bG (aa (pv 3 (hv:=tR)) ae)) (aB _)) (ah (bo (ax S hr (aa (ax Y hr (aa (pv 1) (aa (am (au K) (pv 0) (am (au K) (pv 3 (hv:=tR)) (pv 5))) (aa (aI ae) ae)))) (aa (ax J hr (aa (pv 0) (aa (am (au K) (pv 3 (hv:=tR)) (pv 5)) ae))) (aa (pv 2) (aa (pv 4) ae))))))
   (ah (av 3 BC.nd (ar aF (pv 3 (hv:=tR)) (eV (C5.to (fsc:=(rd aO)) (N:=qAA) (N0:=qAA) (T:=["_law_to"])) rfl (bJ K (ax J hr (aa (pv 0) (aa (am (au K) (pv 3 (hv:=tR)) (pv 5)) ae)))) (λ_ _ _ _=>(aV 10 (show (["_law_code_here","_law_rule_here","_law_come_here","_law_rows","_law_waiting","_law_at","_law_here","_law_token","_law_found","_law_behind_here","_law_to"]:LI).Nodup from ⋯))) (cN (show (qAA:LI).length<=10 from ∅)) (λ_ _ _ _=>(iR (az (im K) (pv 10) (pv 3 (hv:=(cJ (rd aO) ⋯))) (by with_unfolding_all rfl)))) (λ_ _ _ _=>(pv 10)))) (hx:=HV))
   (aj (av 5 BC.nd (ar aF (pv 5) af))))))
   (ah (av 5 BC.nd af)
   (ah (j3 xm (az rX (pv 5) (br (aU K) bt bG (aa (pv 4) ae)) (aB _)) (ah (iT (am (au K) (pv 4) (pv 5)) (iM K (n:=2) (cG (aV 6 BC.nd) (cG (aV 7 BC.nd) gT))))
   (ah (av 8 BC.nd (ax Y hr (aa (pv 1) (aa (am (au K) (pv 0) (pv 6)) (aa (aI (aa (pv 7) ae)) ae)))))
   (ah (av 9 BC.nd (ax ad hr (aa (pv 1) (aa (am (au K) (pv 0) (pv 6)) (aa (pv 7) ae)))))
   (ah (aS (az mH (pv 9) dJ (aB _)) (aj (bo (bB K xl mB mF bw (pv 8) (aa (pv 9) ae)))) aL)
   (ah (bo (ax S hr (aa (pv 8) (aa (ax J hr (aa (pv 0) (aa (pv 6) ae))) (aa (pv 2) (aa (pv 4) ae))))))
   (aj (av 5 BC.nd (ar aF (pv 5) af)))))))))
   (aj (aA (pv 2)))))))))),?_⟩
 let#[as,a1,a2]:=id hC;have hl:=aQ a2;cbv;refine#[#[_,ud.of a1],λF hF=>?_];refine iG (xs:=as.map V.ref) (λi ys H'=>sg H H'/\∃O:LL,ys=O.map V.ref/\H' F=Sm (.lst (O.map V.ref))/\O.length=i/\O.Nodup/\∀fd∈O,H fd=Nn/\H' fd=Sm (.dT [])) #[ak hF _,[],rfl,ai,rfl,Ih,λ_ z=>nomatch z] (λi ys H' _ hh=>ud.of (hh.1 _ _ a1)) ?_ ?_
 .intro i ys H' v hv hi;refine yB2 λsm=>yF1 λO=>yB5 ?_;rintro rfl eF cd c5 bh;cbv;intro d hd;have s1:=ak hd (.dT []);have eN:d≠F:=λz=>by rw[z,eF]at hd;cases hd
  refine iD hi (by rw[ze];exact cd) (by rw[ze,hl];exact aJ eE) (s1 _ _ eF) #[(sm.trans s1).upd hF _,O++[d],'~',by rw[ai];simp,by simp[cd],?_,λfd hf=>?_]
  .rw[ID];exact#[c5,'~',λa ha b hb z=>by rw[KU.mp hb]at z;have:=(bh a ha).2;rw[z,hd]at this;cases this]
  .rcases K8.mp hf with z | z
   .let#[z1,z2]:=bh fd z;refine#[z1,?_];rw[aw (λy=>by rw[y,eF]at z2;cases z2)];exact s1 _ _ z2
   .rw[KU.mp z];exact#[sm.free hd,by rw[aw eN];exact ai]
 intro ys H1;refine yB2 λs1=>yF1 λO=>yB5 ?_;rintro rfl eF cd c5 bh;rw[ze,hl]at cd;rw?;refine#[∅,λra dl=>?_];have s2:=ak dl (.lst [V.int 0]);have er:upd H1 ra (.lst [V.int 0]) ra=Sm (.lst (([0]:LJ).map iN)):=ai;have d8:H ra=Nn:=s1.free dl;have cB:=s2 _ _ eF;have bc:∀fd∈O,H fd=Nn/\upd H1 ra (.lst [V.int 0]) fd=Sm (.dT []):=λfd h=>#[(bh fd h).1,s2 _ _ (bh fd h).2];have cz:=s1.trans s2;clear bh eF s1 dl;generalize upd H1 ra (.lst [V.int 0])=H2 at s2 er cB bc cz |-;rw?;refine⟨∅,λWt a4=>?_⟩
 have s3:=ak a4 (.lst []);have e3:upd H2 Wt (.lst []) Wt=Sm (.lst (([]:LL).map V.ref)):=ai;have eM:H Wt=Nn:=cz.free a4;have ej:F≠Wt:=λz=>by rw[<-z,cB]at a4;cases a4
 have b3:ra≠Wt:=λz=>by rw[<-z,er]at a4;cases a4
 have P0:B6 (upd H2 Wt (.lst [])) F O (List.replicate R.length []):=⟨s3 _ _ cB,by rw[cd,zaL],c5,λj fd ks h1 h2=>by
  have hk:ks=[]:=List.eq_of_mem_replicate (me h2);rw[hk];exact s3 _ _ (bc fd (me h1)).2⟩
 have dt:∀j,(List.replicate R.length ([]:List LJ)).getD j []=[]:=λj=>by
  rw[xV,zaY];split<;>rfl
 have d1:∀n:Nat,((List.replicate n ([]:List LJ)).map List.length).sum=0:=λn=>by induction n with
  | zero=>rfl
  | succ n ih=>rw[List.replicate_succ,yX,iS,ih];rfl
 have eA:0<R.length:=by
  let#[r,e,_]:=ac.en;have:=(KO.mp e).1;lia
 have I0:IQ R Z 0 [0] (List.replicate R.length []) []:=#[#[zaL,λj=>(by rw[dt];exact Ih),λj x hx=>(by rw[dt]at hx;cases hx),λi r hi=>(),λi r _ x hx=>(by rw[dt]at hx;cases hx),λ_ z=>(yT z).elim,gV _],(d1 _).symm,'~',λi hi=>(by rw[KU.mp hi];exact eA),KU.mpr rfl,λk i r hk=>absurd hk (Ji _)];have dc:=cz.trans s3;have dm:=s3 _ _ er;generalize upd H2 Wt (.lst [])=H3 at s3 e3 P0 dc dm |-;have eo:∀fd∈O,H fd=Nn:=λfd h=>(bc fd h).1
 clear bc cB er cz s2;rw?;have kx:∀ {Ha Hb:Hp},sg H Ha->GA (Wt::O) Ha Hb->sg H Hb:=λsm k a o e=>k a o (λz=>by
  rcases K7.mp z with z | z
  .rw[z,eM]at e;cases e
  .rw[eo a z]at e;cases e) (sm a o e)
 refine#[K1 H c p F Wt O R Z,yI7 _ 0 ([0]) _ ([]) ([]) ra #[rfl,dc,P0,e3,BW.nil _,b3,dm,I0,rfl],?_];clear I0 dm P0 e3 dc b3 d8 s3;intro m σ H4;refine yF6 λa rs Ks U qs ra=>yB9 ?_;rintro rfl s4 P4 w4 L4 b3 er I4 rfl;have hle:=I4.le;cbv;refine#[_,.inl (ud.of er),?_];rw[ze];refine aP (λc1=>?_) (λc1=>?_)
 .have ha:a<rs.length:=()
  have dP:rs[a]?=Sm rs[a]:=zg ha;have d3:=I4.lt _ (xF ha);have W:=zg d3;have a7:=ac.nx W;have ca:=JE (ac.row _ _ W);have a9:cM (rs.map iN) (a:Int)=Sm (.int (rs[a]:Nat)):=ao (by rw[yf,dP];rfl);generalize rs[a]=i at dP d3 W a7 ca a9;have ag:=(ac.row i _ W).1;refine yE2 (jE hC W) λda b=>yB4 λcm al ab hb=>?_;have cq:cM (da.map V.ref) (i:Int)=Sm (.ref b):=ao (by rw[yf,ab];rfl);generalize R[i]=r at W a7 ca ag hb;refine#[λσ' H'=>∃m',m'<R.length-a/\K1 H c p F Wt O R Z m' σ' H',λσ' H' z=>z,?_];refine X2 (ud.of er) a9 (X2 (ud.of (s4 _ _ cm)) cq #[∅,λx hx=>?_]);∎;rename_i H5 s5 e5;have e5:H5 x=Sm (.lst (([]:LL).map V.ref)):=e5;have bg:=s4.trans s5;have eg:bN H5 b r:=bg _ _ hb;refine yI8 p b x Z r N ([]) ([]) #[rfl,hR.mono bg,ok,eg,ag,hN,e5,yl.nil _,'~',(λts h=>nomatch h),λtk H6 cs s6 cv eu hT=>?_];have a6:=s5.trans s6;refine X2 (ud.of (a6 _ _ er)) a9 (yI5 c R i N r #[rfl,hC.mono (s4.trans a6),ac,W,λrb H7 s7 cc a8=>?_]);have a5:=a6.trans s7;have w7:=a5 _ _ w4;have fl:=mo Z r [] '~';let#[b4,ec]:=I4.I.cap c9;have a3:H4 rb=Nn:=a6.free cc;have ff:=I4.eq;refine yI11 F rb tk Wt (cr i r) cs O qs (cE Z r []) Ks U #[rfl,ej,(λz=>by rw[z]at cv;rw[s5 _ _ w4]at cv;cases cv),(λz=>by rw[z,w4]at a3;cases a3),a8,s7 _ _ eu,hT.same s7,P4.keep a5,w7,L4.keep (λa xs e=>a5 _ _ e),λj hj=>by rw[I4.I.len];exact a7 j hj,jG _ _,(),(λks hk=>xH (b4 ks hk) ev),(),λH8 d7 k8 P8 w8 L8=>?_];have I8:=I4.step dP W a7 ca;have s8:=kx (s4.trans a5) k8;have d9:H8 ra=_:=k8 _ _ (λz=>by
   rcases K7.mp z with z | z
   .exact b3 z
   .exact(P4.off er (λ_=>'~')) z) (a5 _ _ er)
  generalize (fJ Ks (cr i r) (cE Z r [])).1=fx at P8 I8;generalize U++(fJ Ks (cr i r) (cE Z r [])).2=U8 at L8 I8;clear k8 w7 a5 a6 bg s5 s6 s7 e5 eu hT a8 cc a3 cv eg P4 L4 w4 er;rw?;refine X2 (ud.of d9) a9 (yI5 c R i N r #[rfl,hC.mono s8,ac,W,λrb H9 s9 cc a8=>#[_,rfl,#[_,ud.of a8],λD1 d5=>?_]]);have fy:=s8.trans s9;have d4:=s9 _ _ d9;refine jY (xs:=(cr i r).map iN) (λk ys H'=>sg H9 H'/\∃js:LJ,ys=js.map iN/\H' D1=Sm (.lst (js.map iN))/\js.length<=k/\js=((cr i r).take k).filter λj=>decide (j∉rs)) #[ak d5 _,[],rfl,ai,zu _,rfl] (λk ys H' _ hh=>ud.of (hh.1 _ _ a8)) ?_ ?_
  .intro k ys H' v hv hk;refine yB2 λsm=>yF1 λjs=>yB4 ?_;rintro rfl eD eB b2;have ew:k<(cr i r).length:=by simpa using hk
   rw[yf,zg ew]at hv;cases hv;have et:(cr i r).take (k+1)=(cr i r).take k++[(cr i r)[k]]:=by rw[rT,zg ew];rfl
   have eH:=jG i r;generalize (cr i r)[k]=j at et |-;cbv;refine#[_,.inl (ud.of (sm _ _ d4)),rfl,AN _,?_]
   rw[uj];refine aP (λc2=>?_) (λc2=>?_)
   .have hj:j∉rs:=by simpa using c2
    refine jD hk (by rw[ze];exact eB) (aJ (by rw[ze];lia)) eD #[sm.upd d5 _,js++[j],'~',by rw[ai];simp,by simp;lia,?_];rw[et,IH,<-b2];simp[hj]
   .have hj:j∈rs:=by simpa using c2
    refine lx hk #[sm,js,rfl,eD,(),?_];rw[et,IH,<-b2];simp[hj]
  intro ys e0;refine yB2 λb1=>yF1 λjs=>yB4 ?_;rintro rfl eD _ b2;rw[ze,tO]at b2;rw[<-b2]at I8;have e9:=I8.le;rw[jn]at e9;have em:=b1 _ _ d4;cbv;refine yI2 _ _ #[em,eD,by rw[ze,ze];exact aJ (),λe6 cb=>?_];have e8:=ak cb (.lst (rs.map iN++js.map iN));have be:=s9.trans (b1.trans e8);have dV:=(s9.trans b1) _ _ w8;rw?;refine#[_,?_,yI6 (a+1) _ _ _ _ e6 #[rfl,s8.trans be,P8.keep be,be _ _ w8,L8.keep λa xs e=>be _ _ e,(λz=>by rw[z,dV]at cb;cases cb),by rw[ai,yH],I8,rfl]];lia
 have I5:=I4.all () eL ed;have cA:=I4.eq;rw?;refine#[KW H c p F Wt O R Z (R.length*fj Z.s (2^N) Z.rs.length),yI10 _ 0 Ks U qs ra Nn Nn Nn Nn #[rfl,s4,P4,w4,L4,I5,cA,gV _,rfl],?_];clear I5 cA I4 L4 w4 P4 s4 c1 hle er b3;intro m σ H4;refine yF9 λa Ks U qs ra o6 o7 o8 o9=>yB9 ?_;rintro rfl s4 P4 w4 L4 I4 cA fz rfl;let#[b4,ec]:=I4.cap c9;have f0:=L4.1;cbv;refine#[_,.inl (ud.of w4),?_];rw[ze];refine aP (λc1=>?_) (λc1=>?_)
 .have ha:a<U.length:=()
  have d2:qs[a]?=Sm qs[a]:=zg ();have ce:U[a]?=Sm U[a]:=zg ha;let#[t,t1,t2]:=L4.2 a _ _ d2 ce;have c4:cM (qs.map V.ref) (a:Int)=Sm (.ref qs[a]):=ao (by rw[yf,d2];rfl);generalize U[a]=pl at ce t1 t2;generalize qs[a]=q0 at d2 t1 c4;let#[ey,d6]:=I4.wok pl (by rw[List.mem_iff_getElem?];exact#[0,by rw[List.getElem?_drop];exact ce]);have W:=zg ey;have ag:=(ac.row _ _ W).1;have a7:=ac.nx W;refine yE2 (jE hC W) λda b=>yB4 λcm al ab hb=>?_;have cq:cM (da.map V.ref) (pl.1:Int)=Sm (.ref b):=ao (by rw[yf,ab];rfl);generalize R[pl.1]=r at W a7 ag hb;refine#[λσ' H'=>∃m',m'<R.length*fj Z.s (2^N) Z.rs.length-a/\KW H c p F Wt O R Z (R.length*fj Z.s (2^N) Z.rs.length) m' σ' H',λσ' H' z=>z,?_];refine X2 (ud.of w4) c4 ?_;refine yI2 _ _ #[rfl,su.of t1,rfl,yI2 _ _ #[rfl,yI2 _ _ #[rfl,rfl,?_]]];rw?;refine X2 (ud.of (s4 _ _ cm)) cq #[∅,λx hx=>?_];∎;rename_i H5 s5 e5;have e5:H5 x=Sm (.lst ([t].map V.ref)):=e5;have bg:=s4.trans s5;have eb:=(c9 _ _ d6).tka;have ez:=d6.dsj;have fb:=mo Z r [pl.2] '~';have ea:cF H5 t pl.2:=s5 _ _ t2;refine yI8 p b x Z r N ([t]) ([pl.2]) #[rfl,hR.mono bg,ok,bg _ _ hb,ag,hN,e5,yl.one ea,'~',(λts h=>by rw[KU.mp h];exact eb),λfo H6 cs s6 eG cn hT=>?_];have a6:=s4.trans (s5.trans s6);have b0:=s5.free eG;have f2:=hT.1;dsimp only;refine dX (λσ' H'=>sg H6 H'/\∃v:V,σ'=[Sm (.ref c),Sm (.ref p),Sm (.ref F),Sm (.ref ra),Sm (.ref Wt),Sm (.int (a:Int)),Sm (.int (pl.1:Int)),Sm (.ref t),Sm (.ref fo),Sm v]/\((fP Z r pl.2=Nn/\v = .non)\/∃us u,fP Z r pl.2=Sm us/\v = .ref u/\cF H' u us)) (λk bp=>?_) ?_
  .cbv;exact X2 (ud.of (a6 _ _ cm)) cq (yI7 p b t Z r N pl.2 #[rfl,hR.mono a6,ok,a6 _ _ hb,ag,hN,s6 _ _ ea,eb,ez,λH7 s7=>#[λhn=>bp _ _ #[s7,_,rfl,.inl #[hn,rfl]],λus u hs _ hu=>bp _ _ #[s7,_,rfl,.inr (yI2 us u #[hs,rfl,hu])]]])
  intro σ' H7;refine yB2 λs7=>yF1 λv=>yB2 ?_;rintro rfl hv;refine dX (λσ' H'=>σ'=[Sm (.ref c),Sm (.ref p),Sm (.ref F),Sm (.ref ra),Sm (.ref Wt),Sm (.int (a:Int)),Sm (.int (pl.1:Int)),Sm (.ref t),Sm (.ref fo),Sm v]/\∃(cs:LL) (toks:List LJ),sg H4 H'/\H' fo=Sm (.lst (cs.map V.ref))/\yl H' cs toks/\toks.length<=16/\∀k,k∈toks ↔ Ie Z r pl.2 k) (λk bp=>?_) ?_
  .have a5:=(s5.trans s6).trans s7;rcases hv with ⟨hn,rfl⟩ | ⟨us,u,hs,rfl,hu⟩
   .cbv;rw[KQ '~'];exact bp _ _ #[rfl,yI2 cs _ #[a5,s7 _ _ cn,hT.same s7,(),λk=>by unfold Ie;rw[hn];simp]]
   .cbv;rw[KZ '~'];refine#[#[_,ud.of (s7 _ _ cn)],_,s7 _ _ cn,by rw[ze];exact aJ (),bp _ _ #[rfl,yI2 (cs++[u]) (cE Z r [pl.2]++[us]) #[a5.upd b0 _,by rw[ai];simp,yl.updL (s7 _ _ cn) ((hT.same s7).snoc hu),by simp;lia,λk=>?_]]];rw[IZ,za9];unfold Ie;rw[hs,Option.some.injEq,eq_comm (a:=k)]
  intro σ' H8;refine yB2 ?_;rintro rfl;refine yF2 λe1 toks=>yB5 λs8 ek e4 ei hm=>?_;let#[I8,q8]:=I4.next cA ce W a7 hm;rw?;refine yI5 c R pl.1 N r #[rfl,hC.mono (s4.trans s8),ac,W,λrb H9 s9 cc a8=>?_];have c3:=s8.trans s9;have a3:=s8.free cc;refine yI11 F rb fo Wt (cr pl.1 r) e1 O qs toks Ks U #[rfl,ej,(λz=>by rw[z,w4]at b0;cases b0),(λz=>by rw[z,w4]at a3;cases a3),a8,s9 _ _ ek,e4.same s9,P4.keep c3,c3 _ _ w4,L4.keep (λa xs e=>c3 _ _ e),λj hj=>by rw[I4.len];exact a7 j hj,jG _ _,ei,(λks hk=>xH (b4 ks hk) ev),(),λe0 d7 e2 e7 dV eS=>?_];have b1:=kx (s4.trans c3) e2;rw?;refine#[_,?_,yI9 (a+1) _ _ d7 ra _ _ _ _ #[rfl,b1,e7,dV,eS,I8,q8,by rw[jn];lia,rfl]];lia
 .rw?;have hn:U.drop a=[]:=List.drop_eq_nil_iff.mpr ();rw[hn]at I4;exact q F H4 O Ks s4 hF P4 I4.len I4.cme
theorem A8{B Z J F:Nat}(h1:B<=J)(h2:Z<=F):fj sd B Z<=fj sd J F:=by
 unfold fj;refine Nat.mul_le_mul h1 ?_;split
 .exact h2
 .exact Nat.add_le_add_right (Nat.mul_le_mul h1 ()) 1
theorem Hs{F:Rl}(J:sd=1\/sd=2)(h1:Jv N R)(ok:dD F)(O:F.s=sd)(Y:5-sd=(m:Int))(U:F.rs.length<=m)(Z:(N:Int)<=7-2*sd)(hl:R.length<=4230):Ik R F N:=by
 obtain⟨c,h2,S⟩ : ∃c,fj F.s (2^N) F.rs.length<=c/\c<=800:=by
  rw[O];rcases J with rfl | rfl
  .exact#[_,A8 (Nat.pow_le_pow_right ∅ (show N<=5 from ())) (show _<=4 from ()),∅]
  .exact#[_,A8 (Nat.pow_le_pow_right ∅ (show N<=3 from ())) (show _<=3 from ()),∅]
 have W:=xH h2 S;exact#[h1,(),ok,(),xH (Nat.mul_le_mul hl W) ∅,()]
theorem IS{f:so}{fd:MV}(F:Jn K "law" "law" bx f fd) (ag:mg "range" = Nn) (ad:mg "list" = Nn) (J:mg "isinstance" = Nn) (a3:wAK mg) (al:mg "tuple" = Nn) (be:mg "zip" = Nn) (O:aH P w K mg base 1 "_law_cell_at" qAa (sv K)) (S:aH P w K mg base 1 "_law_words" qAh nZ) (Y:aH P w K mg base 1 "_law_rule" qAQ uw) (W:aH P w K mg base 36 "_law_code" qAN (p9 K)) (U:aH P w K mg base 7 "paper_of" ["code","rule"] wz) (Z:aH P w K mg base 5 "_law_come" qAg vC):GG P w K mg base kR 37 f fd ["_law_script"] (qH K):=by
 refine F.ok F8 (by walk_at "v") (λd7 A outer s H vs Q E hr h=>?_);revert h;refine yF2 λa ns=>yB4 ?_;rintro rfl hS hn q;refine⟨_,(ah (av 1 F8.nd (ax O hr (aa (pv 0 (hv:=Jo)) (aa af ae))))
   (ah (av 2 F8.nd (ar aF (ax S hr (aa (ar eU (pv 1) af) (aa af ae))) (aI (aa ay (aa ay (aa ay (aa ay ae)))))))
   (ah (iA (C5.to (fsc:=(rd bx)) (N:=qAB) (N0:=qAB) (T:=["_law_k"])) rfl F8.nd (i:=3) rfl Q0 (fA Pm ag (aa af ae)) (λ_ _ _ _=>(aV 12 (show (["_law_script","_law_second","_law_words_here","_law_cells","_law_sides","_law_rule_here","_law_code_here","_law_come_here","_law_paper","_law_tokens","_law_known","_law_token","_law_k"]:LI).Nodup from ⋯))) (cN (show (qAB:LI).length<=12 from ∅)) (λ_ _ _ _=>eJ) (λ_ _ _ _=>(ax O hr (aa (pv 0 (hv:=(cJ (rd bx) ⋯))) (aa (ar aF af (pv 12)) ae)))))
   (ah (av 4 F8.nd (ar aF af (ar b5 (ar eU (am (au K) (pv 3) af) af) af)))
   (ah (av 5 F8.nd (ax Y hr (aa (pv 3) (aa (pv 4) (aa (pv 2) (aa (ar fR af (pv 4)) ae))))))
   (ah (av 6 F8.nd (ax W hr (aa (pv 0 (hv:=Jo)) (aa af (aa (pv 4) (aa (pv 2) ae))))))
   (ah (av 7 F8.nd (ax Z hr (aa (pv 6) (aa (pv 5) ae))))
   (ah (av 8 F8.nd (ax U hr (aa (pv 6) (aa (pv 5) ae))))
   (ah (aS (PW.pt' (y8 (i0 (cQ (br mJ J iw (aa (pv 8) (aa (uT ad oE) ae))))) (tL (az rH (br (aU K) a3 bG (aa (pv 8) ae)) (br (aU K) a3 bG (aa (pv 6) ae)) (aB _))))) (aj (aA gC)) aL)
   (ah (bT xm rfl (Fu K O_ be (aa (pv 8) (aa (pv 7) ae))) (iM K (n:=2) (cG (aV 9 F8.nd) (cG (aV 10 F8.nd) gT))) (ah (aS (i0 (cQ (br mJ J iw (aa (pv 9) (aa (uT ad oE) ae))))) (aj (aA gC)) aL)
   (aj (bT xm rfl (bJ K (pv 9)) (aV 11 F8.nd) (aj (aS (PW.pt' (y8 (i0 (cQ (br mJ J iw (aa (pv 11) (aa (uT al mh) ae))))) (tL (az (k_ hr) (pv 11) (pv 10) (by with_unfolding_all rfl))))) (aj (aA gC)) aL))))))
   (aj (aA gC)))))))))))),?_⟩
 cbv;refine yI3 a ns 1 #[rfl,hS,∅,?_];generalize ns.getD (Int.toNat 1) 0=c1;rw?;refine#[#[∅,∅],?_];refine yI2 (c1/4) 2 #[rfl,∅,λwp ws H2 s2 d9 e2 bg c5=>?_];cbv;refine#[∅,λx4 d8=>?_];∎;rename_i H3 s3 e3;have e3:H3 x4=Sm (.lst ((qAG:LI).map V.str)):=e3;refine yI2 _ _ #[s3 _ _ e2,e3,by rw[ze,ze,bg];exact aJ '~',λwq dc=>?_];have s4:=ak dc (.lst (ws.map V.str++(qAG:LI).map V.str));have e4:upd H3 wq (.lst (ws.map V.str++(qAG:LI).map V.str)) wq=Sm (.lst ((ws++(qAG:LI)).map V.str)):=by rw[ai,yH]
 generalize upd H3 wq (.lst (ws.map V.str++(qAG:LI).map V.str))=H4 at s4 e4 |-;have ac:∀x∈ws++(qAG:LI),dQ x:=Kt c5
 have bc:(ws++(qAG:LI)).length=6:=by rw[jn,bg];rfl
 generalize ws++(qAG:LI)=cz at e4 ac bc;have a7:=(s2.trans s3).trans s4;clear s2 s3 s4 e3 e2 bg c5;have cd:=a7.seq hS;rw?;refine#[∅,∅,λLc hL=>?_];rw[show Int.toNat 6=6 from rfl];refine l_ (λj ys H'=>sg H4 H'/\H' Lc=Sm (.lst ys)/\∃cs:LS,ys=cs.map V.int/\cs.length=j) #[ak hL _,ai,[],rfl,rfl] ?_ ?_
 .intro j ys H' hj;refine yB3 λsm hl=>yF1 λcs=>yB2 ?_;rintro rfl a4;cbv;refine yI3 a ns (2+(0+(j:Int))) #[rfl,sm.seq cd,(),?_];refine iD hj (by rw[ze];exact a4) (aJ ()) hl #[sm.upd hL _,ai,cs++[ns.getD (2+(0+(j:Int))).toNat 0],rF _ _,mq a4]
 intro ys H5;refine yB3 λs5 e5=>yF1 λcs=>yB2 ?_;rintro rfl a4;have c9:H Lc=Nn:=a7.free hL;have c2:=a7.trans s5;rw?;obtain⟨k1,cA⟩ : ∃k1:Int,(cs.map V.int)[1]?=Sm (.int k1):=⟨_,by rw[yf,zg (show 1<cs.length from ())];rfl⟩
 refine X2 (ud.of e5) (ao (j:=1) cA) ?_;cbv;have b2:∃sd:Int,1+k1/2048%2=sd/\(sd=1\/sd=2):=#[_,rfl,()];let#[sd,da,bh]:=b2;refine#[#[∅,∅],∅,?_];rw[da];rw?;obtain⟨m,em⟩ : ∃m:Nat,5-sd=(m:Int):=⟨(5-sd).toNat,()⟩
 rw[em];refine yI6 Lc wq cs cz m sd #[rfl,bh,e5,a4,s5 _ _ e4,(),λx hx=>(ac x hx).1,(),(),λp H7 rl s7 hp hR ok d4 hm=>?_];have c4:=c2.trans s7;rw?;refine yI5 a wq ns cz sd #[rfl,bh,c4.seq hS,(s5.trans s7) _ _ e4,(),(),ac,λcq H8 R N s8 d6 hC dV cn hN dt=>?_];have cm:=Hs bh dV ok d4 em hm hN dt;have b4:=hR.mono s8;have ec:=c4.trans s8;clear hR hp s7 c2 a7 s5 cd e5 a4 hL c9 e4 ac bc;rw?;refine yI5 cq p R rl N #[rfl,hC,b4,cm,cn,λF H9 a9 Ks s9 hF P9 dl d1=>?_];have cb:=hC.mono s9;have dP:=b4.mono s9;rw?;refine yI5 cq p R rl N #[rfl,cb,dP,cm,λL cB ls Kp cv hL eL ce d3 hT=>?_];have a5:=P9.keep cv;let#[as,ea,eb]:=cb.mono cv;have hl:=aQ eb;rw?;refine#["list",by simp[de,show cB L=_ from eL],∅,?_];rw[KQ ∅];refine#[_,.inl (ud.of eL),_,.inl (ud.of ea),?_];rw[KQ (by simp[hl,ce])];rw?;have d5:a9.length=ls.length:=by rw[a5.2.1,dl,ce]
 refine#[#[_,ud.of eL],#[_,ud.of a5.1],?_];refine Cv (xs:=ls.map V.ref) (ys:=a9.map V.ref) (λk σ H'=>∃o9 bp ab:LR,σ=[Sm (.ref a),Sm (.int c1),Sm (.ref wq),Sm (.ref Lc),Sm (.int sd),Sm (.ref p),Sm (.ref cq),Sm (.ref F),Sm (.ref L),o9,bp,ab]/\sg cB H') (by rw[ze,ze,d5]) (yI3 Nn Nn Nn #[rfl,λ_ _ z=>z]) (λi σ H' _ h=>by revert h;refine yF3 λ_ _ _=>yB2 λ_ sm=>?_;exact#[ud.of (sm _ _ eL),ud.of (sm _ _ a5.1)]) ?_ ?_
 .intro i x y t σ H' hx hy;refine yF3 λo9 bp ab=>yB2 ?_;rintro rfl sm;intro ht;have hi:i<ls.length:=by have:=(KO.mp hx).1;simpa using this
  have ca:i<a9.length:=()
  have dm:i<Ks.length:=by rw[<-a5.2.1];exact ca
  have b1:=zg ca;have b0:=zg dm;have cc:=zg hi;rw[yf,cc]at hx;rw[yf,b1]at hy;cases hx;cases hy;refine yE2 (hT i _ cc) λcs ks=>yB4 λt1 t2 _ t4=>?_;have hd:=a5.2.2.2 i _ _ b1 b0;have b3:∀x∈ks,x∈Ks[i]:=λx hx=>by
   have:=(d1 i x).mpr ((d3 i x).mp ((t4 x).mp hx))
   rwa [xV,b0]at this
  generalize Ks[i]=Kd at hd b3;generalize ls[i]=l at t1 |-;generalize a9[i]=fd at hd |-;∎
  rename_i H1 s1 e1;have a6:=sm.trans s1;have bt:=a6 _ _ t1;cbv;refine yI2 t _ #[rfl,su.of e1,rfl,yI2 _ _ #[rfl,yI2 _ _ #[rfl,rfl,"list",by simp[de,show H1 l=_ from bt],∅,?_]]];rw[KQ ∅];rw?;refine#[#[_,ud.of bt],?_];refine b6 (xs:=cs.map V.ref) (λj σ H'=>∃ab:LR,σ=[Sm (.ref a),Sm (.int c1),Sm (.ref wq),Sm (.ref Lc),Sm (.int sd),Sm (.ref p),Sm (.ref cq),Sm (.ref F),Sm (.ref L),Sm (.ref l),Sm (.ref fd),ab]/\H1=H') #[_,rfl,rfl] (λj σ H' _ h=>by let#[_,_,rfl]:=h;exact ud.of bt) ?_ ?_
  .rintro j v σ H2 hv ⟨ab,rfl,rfl⟩;have hj:j<cs.length:=by have:=(KO.mp hv).1;simpa using this
   rw[yf,zg hj]at hv;cases hv;have c3:j<ks.length:=by rw[<-t2.1];exact hj
   have a8:=a6 _ _ (t2.2 j _ _ (zg hj) (zg c3));have hm:=b3 _ (xF c3);generalize ks[j]=tk at a8 hm;generalize cs[j]=q0 at a8 |-;have d2:H1 q0=Sm (.tup ((eZ tk).map kV)):=by rw[lG];exact a8
   cbv;refine#["tuple",by simp[de,show H1 q0=_ from a8],∅,?_];rw[KQ ∅];refine yI4 fd q0 _ (eZ tk) #[rfl,rfl,a6 _ _ hd,d2,?_];rw[kB];refine#[_,rfl,?_];rw[KQ (by simp[hm])];exact#[_,rfl,rfl]
  .rintro σ H2 ⟨ab,rfl,rfl⟩;exact yI3 _ _ _ #[rfl,a6]
 .intro σ H';refine yF3 λo9 bp ab=>yB2 ?_;rintro rfl sm;rw?;exact q H'
theorem BA{a0 a1 a2 U F S O:so}(q0:∀H:Hp,su K H a0 [.str "name"]) (Y:∀H:Hp,su K H a1 [.str "word",.str "name"]) (q2:∀H:Hp,su K H a2 [.str "name",.str "name"]) (q3:∀H:Hp,su K H U [.str "name"]) (q4:∀H:Hp,su K H F [.str "name",.str "name"]) (q5:∀H:Hp,su K H S [.str "name",.str "name",.str "steps"]) (q6:∀H:Hp,su K H J [.str "bound",.str "steps",.str "steps"]) (Z:∀H:Hp,su K H O [.str "bound",.str "steps"]) :
  ∀kind ks,(kind,ks)∈eO->∃a,bU [(("open" : Str),V.ref a0),(("do" : Str),V.ref a1),(("copy" : Str),V.ref a2),(("drop" : Str),V.ref U),(("tie" : Str),V.ref F),(("lend" : Str),V.ref S),(("if" : Str),V.ref J),(("while" : Str),V.ref O)] kind=Sm (.ref a)/\∀H:Hp,su K H a (ks.map V.str):=by
 intro kind ks h;simp only[eO,yk,Prod.mk.injEq,oZ,or_false]at h;rcases h with ⟨rfl,rfl⟩ | ⟨rfl,rfl⟩ | ⟨rfl,rfl⟩ | ⟨rfl,rfl⟩ | ⟨rfl,rfl⟩ | ⟨rfl,rfl⟩ | ⟨rfl,rfl⟩ | ⟨rfl,rfl⟩
 .exact#[a0,rfl,q0]
 .exact#[a1,rfl,Y]
 .exact#[a2,rfl,q2]
 .exact#[U,rfl,q3]
 .exact#[F,rfl,q4]
 .exact#[S,rfl,q5]
 .exact#[J,rfl,q6]
 .exact#[O,rfl,Z]
def bO(K:K_)(x:Str)(st:L6):Prop:=∃(f:so) (od an:LZ) (sl:Array LO) (oc kV dc pm cd ct:KE),MP K Mn x=Sm (Sm (.ref f))/\K.lookup f=Sm #[oc,od,.func (M3 x x (Da st) (Cs st) (rd st) .none kV dc pm an cd ct),sl]/\W.codeIn K cd x=true/\Nl K (.ref f)=true
theorem dfe_mk{x:Str}{st:L6}{f:so}{J an:LZ}{Y:Array LO}{U kV O S F ct:KE}(a:MP K Mn x=Sm (Sm (.ref f)))(l:K.lookup f=Sm #[U,J,.func (M3 x x (Da st) (Cs st) (rd st) .none kV O S an F ct),Y])(c:W.codeIn K F x=true)(k:Nl K (.ref f)=true):bO K x st:=yI10 f J an Y U kV O S F ct #[a,l,c,k]
theorem aR{h:Lv}{mg:Str->LO}{x:Str}{st:L6}(X:K.In h)(G:h.Ns Mn mg)(e:bO K x st):xn K mg x st:=by
 revert e;refine yF10 λf F an Y S kV J O U ct=>yB4 λa l c k=>?_;exact#[f,_,tM (st:=st) l c k,za1 X G a]
theorem all_mk{l:W.OpenLaw}{w:Lu}{h:Lv}{mg:Str->LO}{fa:so}(X:K.In h)(G:h.Ns Mn mg)(n4:mg "law" = Sm (.ref fa))
 {O cB bt ag as b1 be bc bp ad al Z ab ac:so}{cc ce hH i3 hu hW hQ hS hY iv fz fl f2:LZ}{cd hy h8 h4 hU hE h7 io h3 f4 e8 fb:Array LO}{b2 b4 ca cb Y b3:KE}{il kt ja kw kl kj kX lB ki ez gc g7 gp:Nat}{et hq e3 hr g2 e1 he hn eD gr eN hj hs eS g3 gl ho eG gz g6 ht eL hc gt dc eB dl e0 eF c3 ey:Tok}
  (a0:bO K "next_room" dz) (a1:bO K "room_from" cV) (a2:bO K "is_in" jF) (a3:bO K "without" iq) (a4:bO K "held_behind" dj) (a5:bO K "is_of_two" fM) (a6:bO K "has_room" gv) (a7:bO K "texts_done" bu) (a8:bO K "texts_at" ef) (a9:bO K "room_behind" c_) (q1:bO K "begun_by_open" bb) (o5:bO K "begun_by_tie" aW) (nL:bO K "begins_at" bS) (oL:bO K "behind_at" bf) (pf:bO K "rows_behind" cK) (pd:bO K "made_of" cR) (nq:bO K "put" fV) (p1:bO K "paper_of" bj) (nz:bO K "closers_of" fw) (qk:bO K "head_of" gf) (n7:bO K "blocks_of" eX) (qa:bO K "steps_within" bP) (p8:bO K "names_in" b9) (qn:bO K "lines_of" bA) (qy:bO K "names_of" fC) (n3:bO K "line_behind" dH) (pb:bO K "numbered_step" ba) (nt:bO K "numbered_steps" bL) (n5:bO K "lend_lines" bW) (p0:bO K "slots_of" cC) (o9:bO K "simple_row" bR) (pa:bO K "lend_rows" bn) (o7:bO K "if_rows" bM) (oD:bO K "loop_rows" ck) (o8:bO K "while_rows" bF) (ob:bO K "rows_of" bV) (px:bO K "rows_and_end" bY) (o1:bO K "code_of" ie) (pw:bO K "turned_code" eQ) (o6:bO K "_law_cell_at" dF) (ow:bO K "_law_words" aZ) (ot:bO K "_law_step" bQ) (p5:bO K "_law_put" ij) (o2:bO K "_law_close" cy) (oi:bO K "_law_program" bq) (ov:bO K "_law_rule" aY) (o3:bO K "_law_has" h_) (pk:bO K "_law_sum_behind" b8) (n2:bO K "_law_next" fB) (oc:bO K "_law_texts" dN) (p4:bO K "_law_room" cL) (o4:bO K "_law_behind" bX) (oa:bO K "_law_begun" bI) (on:bO K "_law_after" fU) (ol:bO K "_law_code" bv) (pm:bO K "_law_put_all" cg) (p3:bO K "_law_come" aO) (np:bO K "law" bx) (fo:MP K Mn "isinstance" = Sm Nn) (m2:MP K Mn "str" = Sm Nn) (m4:MP K Mn "int" = Sm Nn) (mt:MP K Mn "tuple" = Sm Nn) (m8:MP K Mn "len" = Sm Nn) (mu:MP K Mn "range" = Sm Nn) (m0:MP K Mn "list" = Sm Nn) (m3:MP K Mn "zip" = Sm Nn) (g1:MP K Mn "enumerate" = Sm Nn) (l6:MP K Mn "sorted" = Sm Nn) (m1:MP K Mn "set" = Sm Nn) (ei:MP K Mn "NumberedStep" = Sm (Sm (.ref J))) (ea:W.plainGet K J Nr=true) (ec:W.hasDictIn K J=true) (ed:W.plainOver K J=true) (dP:MX K (.ref J) "__setattr__" = Sm (Sm (.builtin "object.__setattr__"))) (eb:W.makesIn K J=true) (dV:Nl K (.ref J)=true) (mz:MX K (.ref J) "kind" = Sm Nn) (mc:MX K (.ref J) "parts" = Sm Nn) (mb:MX K (.ref J) "lines" = Sm Nn) (lk:MX K (.ref J) "blocks" = Sm Nn) (cv:MX K (.ref J) "__init__" = Sm (Sm (.ref O))) (cz:W.isFn K (.ref O)=true) (cn:K.lookup O=Sm #[b2,cc,.func (M3 "__init__" "NumberedStep.__init__" (Da bm) (Cs bm) (rd bm) .none b4 ca cb ce Y b3),cd]) (cq:W.codeIn K Y "NumberedStep.__init__" = true) (cA:Nl K (.ref O)=true) (mm:MP K Mn "PARTS" = Sm (Sm (.ref cB))) (l3:K.lookup cB=Sm #[.type "dict",Nn,.dict #v[#[Mt w.params "open",.str "open" et,.ref bt],#[Mt w.params "do",.str "do" e3,.ref ag],#[Mt w.params "copy",.str "copy" e1,.ref as],#[Mt w.params "drop",.str "drop" eD,.ref b1],#[Mt w.params "tie",.str "tie" eN,.ref be],#[Mt w.params "lend",.str "lend" eS,.ref bc],#[Mt w.params "if",.str "if" eG,.ref bp],#[Mt w.params "while",.str "while" eL,.ref ad]] il,#[]]) (hM:K.lookup bt=Sm #[.type "tuple",hH,.seq #v[.str "name" hq] kt,hy]) (h9:K.lookup ag=Sm #[.type "tuple",i3,.seq #v[.str "word" hr,.str "name" g2] ja,h8]) (hL:K.lookup as=Sm #[.type "tuple",hu,.seq #v[.str "name" he,.str "name" hn] kw,h4]) (hN:K.lookup b1=Sm #[.type "tuple",hW,.seq #v[.str "name" gr] kl,hU]) (hT:K.lookup be=Sm #[.type "tuple",hQ,.seq #v[.str "name" hj,.str "name" hs] kj,hE]) (hJ:K.lookup bc=Sm #[.type "tuple",hS,.seq #v[.str "name" g3,.str "name" gl,.str "steps" ho] kX,h7]) (h5:K.lookup bp=Sm #[.type "tuple",hY,.seq #v[.str "bound" gz,.str "steps" g6,.str "steps" ht] lB,io]) (hw:K.lookup ad=Sm #[.type "tuple",iv,.seq #v[.str "bound" hc,.str "steps" gt] ki,h3]) (l4:(cB==sysModules)=false) (jb:MP K Mn "CLOSERS" = Sm (Sm (.ref al))) (hR:K.lookup al=Sm #[.type "dict",Nn,.dict #v[#[Mt w.params "lend",.str "lend" dc,.ref Z],#[Mt w.params "if",.str "if" dl,.ref ab],#[Mt w.params "while",.str "while" c3,.ref ac]] ez,#[]]) (e5:K.lookup Z=Sm #[.type "tuple",fz,.seq #v[.str "back" eB] gc,f4]) (fy:K.lookup ab=Sm #[.type "tuple",fl,.seq #v[.str "else" e0,.str "fi" eF] g7,e8]) (f3:K.lookup ac=Sm #[.type "tuple",f2,.seq #v[.str "done" ey] gp,fb]) (hG:(al==sysModules)=false) :
  ∃fd:MV,(∀(s:F_) (v:KE),BindsTo s fd #[[v],[]] [("_law_script",v)])/\∀base:Lv,K.In base->base.Ns Mn mg->GG l.prog w K mg base kR 37 fa fd ["_law_script"] (qH K):=by
 revert np;refine yF10 λf9 q2 pc q4 q3 q0 py oe pr pi=>yB4 λod l9 c9 k9=>?_;have e:=n4.symm.trans (za1 X G od);cases e;have hk:=aR X G a0;have gI:=aR X G a1;have mx:=aR X G a2;have kN:=aR X G a3;have e2:=aR X G a4;have gx:=aR X G a5;have h0:=aR X G a6;have fx:=aR X G a7;have hD:=aR X G a8;have e4:=aR X G a9;have eg:=aR X G q1;have ek:=aR X G o5;have hm:=aR X G nL;have ge:=aR X G oL;have eE:=aR X G pf;have js:=aR X G pd;have m5:=aR X G nq;have hO:=aR X G p1;have e9:=aR X G nz;have kb:=aR X G qk;have g9:=aR X G n7;have eo:=aR X G qa;have h6:=aR X G p8;have i5:=aR X G qn;have hI:=aR X G qy;have er:=aR X G n3;have dt:=aR X G pb;have da:=aR X G nt;have f1:=aR X G n5;have hK:=aR X G p0;have e7:=aR X G o9;have gh:=aR X G pa;have j0:=aR X G o7;have gd:=aR X G oD;have e6:=aR X G o8;have lA:=aR X G ob;have ej:=aR X G px;have lE:=aR X G o1;have eH:=aR X G pw;have ew:=aR X G o6;have g4:=aR X G ow;have hB:=aR X G ot;have k4:=aR X G p5;have hp:=aR X G o2;have eu:=aR X G oi;have i4:=aR X G ov;have k3:=aR X G o3;have dm:=aR X G pk;have hF:=aR X G n2;have g8:=aR X G oc;have hX:=aR X G p4;have f0:=aR X G o4;have gy:=aR X G oa;have g5:=aR X G on;have hP:=aR X G ol;have eM:=aR X G pm;have hA:=aR X G p3;have ff:=Ii X G fo;have nf:=Ii X G m2;have lp:=Ii X G m4;have eA:=Ii X G mt;have S:=Ii X G m8;have c5:=Ii X G mu;have l1:=Ii X G m0;have ll:=Ii X G m3;have c4:=Ii X G g1;have c2:=Ii X G l6;have ka:=Ii X G m1;have U:KC K J:=#[ea,ec,ed,dP];have l2:Fl K J "kind" := #[U,mz];have hC:Fl K J "parts" := #[U,mc];have ev:Fl K J "lines" := #[U,mb];have f5:Fl K J "blocks" := #[U,lk];have em:Hm K mg "NumberedStep" J "NumberedStep.__init__" bm:=#[O,_,tM (st:=bm) cn cq cA,#[eb,cv,cz,dV],za1 X G ei];have mp:mg "PARTS" = Sm (.ref cB):=za1 X G mm;have mr:Hc w K cB [("open",.ref bt),("do",.ref ag),("copy",.ref as),("drop",.ref b1),("tie",.ref be),("lend",.ref bc),("if",.ref bp),("while",.ref ad)]:=#[l4,(show (["open","do","copy","drop","tie","lend","if","while"]:LI).Nodup from ∅),_,[#[Mt w.params "open",.str "open" et,.ref bt],#[Mt w.params "do",.str "do" e3,.ref ag],#[Mt w.params "copy",.str "copy" e1,.ref as],#[Mt w.params "drop",.str "drop" eD,.ref b1],#[Mt w.params "tie",.str "tie" eN,.ref be],#[Mt w.params "lend",.str "lend" eS,.ref bc],#[Mt w.params "if",.str "if" eG,.ref bp],#[Mt w.params "while",.str "while" eL,.ref ad]],il,l3,#[rfl,rfl,rfl],rfl,.cons rfl (.cons rfl (.cons rfl (.cons rfl (.cons rfl (.cons rfl (.cons rfl (.cons rfl (.nil))))))))];have ky:∀H:Hp,su K H bt [.str "name"]:=λH=>.inr (yI3 _ _ _ #[hM,rfl,rfl,aJ (show 1<=1000000 from ∅),.cons #[_,rfl] (.nil)]);have k8:∀H:Hp,su K H ag [.str "word",.str "name"]:=λH=>.inr (yI3 _ _ _ #[h9,rfl,rfl,aJ (show 2<=1000000 from ∅),.cons #[_,rfl] (.cons #[_,rfl] (.nil))]);have kx:∀H:Hp,su K H as [.str "name",.str "name"]:=λH=>.inr (yI3 _ _ _ #[hL,rfl,rfl,aJ (show 2<=1000000 from ∅),.cons #[_,rfl] (.cons #[_,rfl] (.nil))]);have i6:∀H:Hp,su K H b1 [.str "name"]:=λH=>.inr (yI3 _ _ _ #[hN,rfl,rfl,aJ (show 1<=1000000 from ∅),.cons #[_,rfl] (.nil)]);have ko:∀H:Hp,su K H be [.str "name",.str "name"]:=λH=>.inr (yI3 _ _ _ #[hT,rfl,rfl,aJ (show 2<=1000000 from ∅),.cons #[_,rfl] (.cons #[_,rfl] (.nil))]);have k6:∀H:Hp,su K H bc [.str "name",.str "name",.str "steps"]:=λH=>.inr (yI3 _ _ _ #[hJ,rfl,rfl,aJ (show 3<=1000000 from ∅),.cons #[_,rfl] (.cons #[_,rfl] (.cons #[_,rfl] (.nil)))]);have kc:∀H:Hp,su K H bp [.str "bound",.str "steps",.str "steps"]:=λH=>.inr (yI3 _ _ _ #[h5,rfl,rfl,aJ (show 3<=1000000 from ∅),.cons #[_,rfl] (.cons #[_,rfl] (.cons #[_,rfl] (.nil)))]);have l0:∀H:Hp,su K H ad [.str "bound",.str "steps"]:=λH=>.inr (yI3 _ _ _ #[hw,rfl,rfl,aJ (show 2<=1000000 from ∅),.cons #[_,rfl] (.cons #[_,rfl] (.nil))]);have lq:mg "CLOSERS" = Sm (.ref al):=za1 X G jb;have ls:Hc w K al [("lend",.ref Z),("if",.ref ab),("while",.ref ac)]:=#[hG,(show (qAm:LI).Nodup from ∅),_,[#[Mt w.params "lend",.str "lend" dc,.ref Z],#[Mt w.params "if",.str "if" dl,.ref ab],#[Mt w.params "while",.str "while" c3,.ref ac]],ez,hR,#[rfl,rfl,rfl],rfl,.cons rfl (.cons rfl (.cons rfl (.nil)))];have gO:∀H:Hp,su K H Z [.str "back"]:=λH=>.inr #[_,_,_,e5,rfl,rfl,aJ (show 1<=1000000 from ∅),.cons #[_,rfl] (.nil)];have hb:∀H:Hp,su K H ab [.str "else",.str "fi"]:=λH=>.inr #[_,_,_,fy,rfl,rfl,aJ (show 2<=1000000 from ∅),.cons #[_,rfl] (.cons #[_,rfl] (.nil))];have f8:∀H:Hp,su K H ac [.str "done"]:=λH=>.inr #[_,_,_,f3,rfl,rfl,aJ (show 1<=1000000 from ∅),.cons #[_,rfl] (.nil)];have F:=tM (st:=bx) l9 c9 k9;refine#[M3 "law" "law" (Da bx) (Cs bx) (rd bx) .none q0 py oe pc pr pi,λs v=>.of_eq rfl,λbase _ _=>?_];have c1:=Fz (P:=l.prog) (w:=w) (base:=base) ew S;have d1:=x6 (P:=l.prog) (w:=w) (base:=base) e9 lq ls gO hb f8;have d2:=FO kb S d1;have d3:=zS g9 S d2;have d4:=pT eo d3 10;have d5:=xQ (P:=l.prog) (w:=w) (base:=base) h6 ll l1 mp mr (BA ky k8 kx i6 ko k6 kc l0);have d6:=Dd (xq hI d5 d4);have d7:=rW i5 nf ll d1 d2 d3 10;have d8:=sX f1 c4 d7;have d9:=Cg (NO:=Iv) Iv.mono hK c4 (A7 d6 (k:=15) ∅) d8;have k0:=Cb (P:=l.prog) (w:=w) (base:=base) em l2 hC ev f5;have b0:=Ap (P:=l.prog) (w:=w) (base:=base) er S ev;have n0:=w6 dt da d2 d3 b0 k0 10;have r0:=vP (P:=l.prog) (w:=w) (base:=base) lA gh j0 gd e6 e7 S eA l2 hC ev f5 10;have r1:=xP (NO:=Iv) (d:=10) (k:=33) Iv.mono ej ∅ n0 r0 (A7 d9 ∅) b0 ∅ ∅;have r2:=AI eH r1;have r3:=FJ lE r1;have pu:=Iz (P:=l.prog) (w:=w) (base:=base) k4;have pg:=w_ eu S lp (FM hB S) pu (Bw hp pu);have ii:=Fj (P:=l.prog) (w:=w) (base:=base) mx;have wo:=yi (P:=l.prog) (w:=w) (base:=base) kN;have nr:=Fq (P:=l.prog) (w:=w) (base:=base) hk;have tw:=JH (P:=l.prog) (w:=w) (base:=base) gx S;have tx:=Cu hD (FS fx ii tw) tw;have rb:=BI e4 (sT gI nr) tx;have ha:=HI (P:=l.prog) (w:=w) (base:=base) h0 S;have bh:=FH ge eA tw ha (EW e2 ii wo) rb;have bg:=Fy hm ka c2 (Fk eg S nr wo) (E8 ek S ii);have pp:=Cj hO c5 S c2 (Fw m5) (vk eE c2 ka) bg (EN js bg bh);have ln:=BV (P:=l.prog) (w:=w) (base:=base) hF;have lh:=EQ (P:=l.prog) (w:=w) (base:=base) k3;have lr:=CZ hX (Av g8 lh) ln;have sb:=GP dm lp lh;have wd:=BB (P:=l.prog) (w:=w) (base:=base) g4 c5 lp;have cm:=BQ hA S (FE gy S ln sb lh) (Fp g5) (Ft f0 S sb lr) (FD eM);exact IS F c5 l1 ff S eA ll c1 wd (Az i4 c5 S c2 ka) (Cq hP c1 wd pg r3 r2) pp cm
theorem walk{l:W.OpenLaw}{q:Lw}{loose:LI}{XP:(Str->LO)->Lv->Prop}{YP:Lu->Lv->Prop}{d:DefRec}{K:Params->K_}(U:l.most=Sm 63)(J:d.params.defaults=[])
  (O:∀(w:Lu) (h:Lv),YP w h->(K w.params).In h)
  (F:∀(w:Lu) (mg:Str->LO) (fa:so) (h:Lv),(K w.params).In h->h.Ns Mn mg->mg d.name=Sm (.ref fa)->
   ∃fd:MV,(∀(s:F_) (u:KE),BindsTo s fd ⟨[u],[]⟩ [("_law_script",u)])/\∀base:Lv,(K w.params).In base->base.Ns Mn mg->GG l.prog w (K w.params) mg base kR 37 fa fd ["_law_script"] (qH (K w.params))) :
  W.WalkO q loose XP YP l.row.toRowW d [] (λf vs=>PySem.call f vs):=
 L2.Hx (n:=63) (k:=37) (x := "_law_script") (CX:=λ_=>kR) (sp:=λw=>qH (K w.params)) U ∅ J #[rfl,∅,∅] O F (λ_ _ a ns hl _ S=>#[a,ns,rfl,S,hl,λ_=>rfl]) λ_ _ _ _ _ z=>z
end K56
end
open PySem PySem.W PyProof.Rows
set_option maxRecDepth 100000 in
set_option maxHeartbeats 0 in
theorem PySem.Challenge.cw_usewarden_k56_nothing_needless_holds : PySem.Challenge.rw_usewarden_k56_nothing_needless.Holds := by
 w_on
 refine holds_law Ws λsaid=>?_;refine holds_open (q:=K56.qq) (loose:=K56.loo) (Xt:=K56.xt) (XP:=XL K56.qq []) (Yf:=Hook.obs (kHook K56.KK K56.kk K56.kk_eq)) (Ya:=Hook.val (kHook K56.KK K56.kk K56.kk_eq)) (YP:=Hook.says (kHook K56.KK K56.kk K56.kk_eq)) (N:=2419) K56.hl (Hook.of (kHook K56.KK K56.kk K56.kk_eq)) (Hook.keeps (kHook K56.KK K56.kk K56.kk_eq)) (λs e=>xl_of s (Bool.and_eq_true_iff.mp e).1) XL.keeps (by rfl) (by rfl) (by rfl) (λs e=>recFacts_of (Bool.and_eq_true_iff.mp e).2) (by rfl) said ⋯ #[rfl,rfl,rfl,rfl,rfl,⋯] ?hw ?hc
 (case hw=>w_witness2)
 k_fill
 refine K56.walk (l:=PySem.Challenge.rw_usewarden_k56_nothing_needless) rfl rfl (λw h Y=>PySem.W.kIn_of Y) ?F
 case F=>
  intro w mg fa h KX G hmg;refine' K56.all_mk KX G hmg ..
  all_goals first | (refine' K56.dfe_mk ?a ?l ?c ?k;(case a=>k_is);(case l=>k_is);(case c=>k_is);(case k=>k_is)) | k_is | exact⟨_,by k_is⟩ | kernel_rfl | skip
