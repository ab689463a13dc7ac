import PyProof.Rows.All
import Wide.All
import OpenK.AllK
import Wide.FinOn
import Lean
import PyProof.EqAt
import PyProof.EqKinds
import PyProof.TupleCall
import PyProof.ZipIter
import PyProof.EnumMake
import PyProof.EnumFor
import PyProof.CollectIter
import PyProof.TupleKey
import PyProof.DictRoadsH
import PyProof.P3Eq
import PyProof.Rows.SeqMore
import PyProof.ConsumeWalk
import PyProof.Rows.SortShellK
import PyProof.DictItems
import PyProof.DictWalks
import PyProof.AttrMissHeap
import PyProof.DictIter
import PyProof.MaxThree
import PyProof.SeqI3
import PyProof.DictTruth
import PyProof.Rows.TupDisplay
import PyProof.ListCopy
import PyProof.NeKinds
import PyProof.RaisesDict
import KE.KDictOf
import PyProof.Rows.CallKwBuiltin
import PyProof.DelItemList
import PySem.Challenge.RW_fewtimes_k37_walked
set_option Elab.async false
set_option linter.all false
set_option compiler.extract_closed false
set_option genSizeOf false
set_option bootstrap.genMatcherCode false
set_option maxRecDepth 100000
set_option maxHeartbeats 4000000
set_option tactic.hygienic false
open PySem.W (Frag)
open PySem renaming wpAny_bind->b3,Value->gV,sizeLine_eq->hH,Shared->tv,wpAny_pure->D2,sizeLine->Ls,wpAny->LD,model->LN,Program->LR,starEach->LV,wpAny_setField_rec->LZ,wpAny_call_entry->Mc,World->Mn,wpAny_callSpecial?_slot->Mo,Around->Mq,compareOp->Mu,wpAny_field->MB,Comprehension->MZ,Paired->N6,wpAny_newObj_type->N8,wpAny_seqItems->Nh,PyData->Ni,wpAny_holding->Np,mainGlobals->Nq,sysModules->Nr,wpAny_truthy_bool->Nu,wpAny_mono->NH,wpAny_rule->NI,mem_of_lookup->NL,swappedStores->NP,binaryOp->NQ,wpAny_pyIter_tuple->NV,cLine->NW,DictEntry->NY,Builtin->O7,sliceBounds->Oc,assignEach->Of,foldedSetIterable->Om,cellsFrom->Oo,wpAny_pyIter_list->Oq,wpAny_loadPart'->Ow,bootBuiltins->OA,wpAny_isInstance->OG,pyNext->OO,wpAny_passesOwn->OQ,swapsWithSole->OZ,IsPair->P6,wpAny_attempt->P7,NameKind->Ph,wpAny_letGo->Pk,backTo->Po,wpAny_Call_Name_kw->Pp,codeAny_builtin->PH,wpAny_standAt->PJ,FuncData->PX,wpAny_of_eq->Q0,firstArgMember->Q1,codeAny->Q6,storedH->Q7,behindInMarks->Qc,atKey->Qh,Reads->Qi,plainId_quiet->Ql,intKind->Qp,wpAny_specialOf->Qr,swapsWith->Qy,Model->QB,standAt->QC,codeAny_mono->QG,isSubtype_type->QP,wpAny_tryCatch->QR,atKey_none_of_get->QT,builtinLookup_eq_fast->QV,wpAny_forIn_list->QY,richCompare->Ri,wpAny_updateSeq_pair->Rk,letOwnedTupleGo->Rm,wpAny_ite_false->Rt,wpAny_typeOf->Ry,Keyword->Rz,rawInt->RP,call_meets->RW,wpAny_newTuple->RZ,isSubtype_stop->S0,ReadsAll->S2,wpAny_binaryOp_repeat_ref->Sf,getItem->Sr,IsZip->Su,wpAny_pyIter_slot->Sw,pyIter->Sx,wpAny_getItem_list_slice->Sy,attributeBase->Sz,wpAny_newList->SA,wpAny_comprehension_free->SD,wpAny_onRaise->SE,tupleKind->SH,lastMarks->SI,noFill_tuple_add->SK,wpAny_Dict_empty->SM,seqItems?->SN,setItem->T7,IsPart->T8,typeIs_int->Ta,IsEnum->Tb,argsOk->Te,wpAny_execs_nil->Tj,pushCells_keeps->Ts,typeLookup_type->Tu,wpAny_updateSeq->Tv,isSubtype_tuple_tuple->Tx,keywordEach->TM,newFunctionEnv->TQ,ZipApart->TR,carriedByValue->TX,codeAny_call_builtin->U0,wpAny_ite_true->U1,dictSetDefault->U4,callerA->Ua,valueAt->Ub,eqIsQuiet->Uc,assignInOrder->Uj,CmpOp->Uk,seq_tuple_add->Ul,evalPart_none->Um,wpAny_handled->Up,mroOf_keyiter->Ur,foldedForSure->Uv,wpAny_getItem_heap->UI,tupleKind_room_in1->UJ,wpAny_setItem_heap->UK,Operator->UQ,BindsTo->UU,concat_meets->UW,wpAny_sequenceKey->UX,seqIndex_neg->UY,wpAny_pyIter_enum->V4,eqIsQuiet_byValue->V6,wpAny_collect_seq->Vc,Result->Vn,slicePick->Vp,pushCells->Vr,wpAny_pyIter_zip->Vu,IsEnumOut->Vv,checkBuiltinCall->VB,entryFor_of_tree->VC,seqIndex_of->VL,wpAny_throw->VN,storedH_new->VR,entryOfKey->W3,builtinsNs->W4,wpAny_Name->W5,bindName->W6,wpAny_call->W7,bindL->W8,bindC->W9,backToKw->Wd,call->We,newExc->Wg,newTuple->Wh,reduceHash->Wi,entryFor->Wk
open PySem.Heap renaming get?_push_of_some->h7,get?_push_size->Lu,lt_size->LB,SameBut->Nt,size_push->Ny,get?_update_other->NB,get?_update_ne->Ob,get?_update_self->ON,get?_push_cases->Rl,IsTuple->RB,IsList->TV,ExtBut->VM
open List renaming length_map->s9,getElem?_eq_getElem->D1,length_append->I7,getElem?_eq_some_iff->J4,getElem?_append_right->Lo,pairwise_append->Lp,mem_append->Lv,mem_cons->Lw,getElem?_map->Ly,size_toArray->LA,getElem?_append_left->LC,append_assoc->LH,mem_map->LI,mem_of_getElem?->LJ,map_cons->LL,range->LO,mem_append_right->LP,replicate->LQ,length_take->LS,not_mem_nil->LW,length_singleton->LY,filter_append->Mb,toList_toArray->Me,mem_cons_of_mem->Mf,length_range->Mg,map_append->Mj,length_eq_zero_iff->Mp,filter_cons_of_pos->Mv,filter_cons_of_neg->Mw,length_cons->My,length_pos_iff->Mz,drop_eq_getElem_cons->MK,mem_map_of_mem->MM,append_nil->MN,pairwise_map->MP,getD_eq_getElem?_getD->MQ,take_append_drop->MV,mem_append_left->N7,flatten_cons->N9,length_filter_le->Nc,replicate_succ->Nf,flatMap_append->Ng,mem_cons_self->Nk,mem_filter->Nl,length_nil->Nm,nodup_iff_pairwise_ne->Nz,take_of_length_le->NF,map_map->NG,pairwise_flatMap->NN,mem_range->NO,all_cons->NR,find?_cons->NT,length_drop->NX,mem_flatMap->O0,any_cons->O6,flatMap_cons->Oa,eraseIdx_eq_take_drop_succ->Oe,mem_iff_getElem->Oi,getElem?_of_mem->Ol,getElem?_cons_succ->Ot,nodup_cons->Ov,dropLast_concat_getLast->Ox,flatten_append->Oz,zipWith->OB,drop_eq_nil_of_le->OC,length->OE,lookup_cons->OF,Perm->OH,getElem_mem->OI,getElem?_mapIdx->OV,mem_of_mem_drop->OW,mem_of_mem_take->OX,ext_getElem?->OY,filterMap_cons_none->Pa,filterMap_cons_some->Pb,map_congr_left->Pg,getElem?_set_self->Pn,map_nil->Pt,forIn_cons->Py,perm_append_comm->PR,nodup_append->PV,mem_reverse->Q8,mem_or_eq_of_mem_set->Qa,getElem?_range->Qb,getElem?_take_of_lt->Qe,map_take->Qn,map_drop->Qo,getElem?_drop->Qx,eraseIdx_append_of_length_le->QA,drop_drop->QM,extract->QN,reverse_perm->QO,find?_cons_of_neg->QU,foldl->QZ,all_eq_true->Ra,map_zipWith->Rb,getElem?_set_ne->Rh,length_set->Ro,filterMap_cons->Rx,map_set->RI,zip_cons_cons->RU,nodup_nil->RY,pairwise_cons->S8,set_cons_zero->Sb,set_cons_succ->Sd,perm_ext_iff_of_nodup->Se,pairwise_iff_getElem->Sg,getElem?_eq_none_iff->Si,getElem?_replicate->SJ,zipIdx_cons->SO,any_eq_true->SW,getElem?_cons_zero->SY,map_flatMap->T1,nodup_range->T2,find?_cons_of_pos->Tg,filter_eq_nil_iff->Th,of_mem_zip->To,foldl_cons->Tp,nil_append->Tq,append_inj->Tw,getElem?_zipWith->Tz,pairwise_reverse->TB,set_append_right->TF,getElem?_eq_none->TH,forIn_nil->TU,drop_left->TY,take_left->TZ,length_reverse->Ug,map_eq_nil_iff->Uh,zip_eq_zipWith->Ui,Pairwise->Uq,mem_filterMap->Uz,filterMap_map->UD,mem_singleton->UN,take_add_one->V8,getElem?_inj->Vj,drop_length->Vw,map_snd_zip->VA,zipWith_map->VH,zipIdx_nil->VY,map_const'->W1
open Bool renaming and_eq_true->D0,false_ne_true->Lq,false_eq_true->Ml,not_eq_true'->Nv,not_true->P9,and_eq_true_iff->Q3,not_eq_true->R3,false_or->Rc,or_eq_true->Tt,not_false->U8
open PyProof.Rows renaming wpS_bind->Lr,Keyed->Lx,pendingOf->LM,arrOf->Mx,wpS_forRange->MX,SortSt->MY,kindOf->NJ,callWith_type1->O1,slot_tuple_getitem->Od,wpS_modify->Og,failedOf->Oy,SortKind->Qj,IntsAre->Qq,wpS_get->Qs,get?_update_seq->Qt,setPending->Qw,listUpdate_at->Rf,mem_zip_self->RF,assignInOrder_cons->RN,AllBare->Sn,seqSlot_of->SR,subscriptTail_builtinR->T9,envOfC->TK,entry_tuple_getitem->Ud,subscriptTail->Uo,args_tuple_getitem->UE,assignInOrder_nil->UP,listItems_at->Va,seqObj->Vz,IsTup->VJ,keyKind'_eq->VP,seqEpoch_at->VQ,Subscript_->Wb,tail_any->Wc,mergeAt'->Wj
open Nat renaming le_refl->Lz,ne_of_lt->Mh,lt_of_lt_of_le->Mk,le_trans->MR,lt_irrefl->Nb,zero_le->NM,mul_le_mul->NS,min_eq_left->NU,ne_of_gt->OU,add_assoc->PM,le_of_lt->Q5,succ_mul->QK,sub_self->RC,zero_add->RE,succ_le_succ->SS,div_eq_of_lt->SU,le_mul_of_pos_right->SV,mul_comm->V0,lt_succ_of_lt->V1,lt_trichotomy->Vh,lt_or_ge->Vi,lt_succ_self->Vx,not_lt->Wf
open Array renaming toList_append->LF,toList_push->LK,length_toList->LX,getElem?_toList->Ma,getElem?_eq_getElem->Mm,toList_reverse->Mt,toList_extract->Oj,getElem?_eq_none->Pu,size_append->PU,toList_inj->R6,map->R7,size_push->Ru,forIn_toList->S1,toList_setIfInBounds->S9,toList->T6,all_eq_true->Vb,filterMap->W0
open PySem.W renaming mg_of->LG,kia_one->NA,fnOf->Pq,keepIn->PY,kitx_list->QE,kitx_dict->QF,cellsFrom_some->QH,nsIn->QL,codeIn->RT,methodObj->Sl,instObj->Ti,OpenLaw->Tr,lookIn->TJ,kitAny->U2,kitx_float->UA,kitx_tuple->UB,kitx_none->UR,kitx_bool->US,plainGet->Vk,kitx_int->Vl,kitx_str->Vm
open Int renaming toNat_natCast->LU,toNat_of_nonneg->Pf,eq_ofNat_of_zero_le->Pj,emod_lt_of_pos->Pw,natCast_mul->PD,emod_nonneg->Qu,add_mul->VW
open PySem.PyData renaming eqv->Md,eqvAll->MA,canLayAll0->MD,depthAll->N5,depth->ND,canLay0->Q2,int->Qv,tuple->V7,list->VO
open PySem.NameKind renaming free->Mr,cell->Oh
open PySem.Value renaming ref->Ms,type->MJ,none->Ou,int->QW,bool->RJ,isInt->Sj,isInt_shape->Sk,notImplemented->TL,str->U9,float->VI
open PySem.Str renaming ofString->MU
open List.Perm renaming append_left->MW,append_right->Na,of_eq->PF,refl->Sa
open PySem.Builtin.Tuple renaming tupleHashOf->Nj,tupleExact->P5,tupleCompareSizes->Pc,tupleItemsOf->PZ,tupleIsExact->RX,tupleTooMany->S4
open Option renaming some->Nw,map_eq_some_iff->O8,isSome_iff_exists->P4,map_some->Pz,bind_some->R4,getD_some->R8,isSome_some->UH,getD_none->Vo,join_some->VE,bind_none->VF,join_none->VG
open True renaming intro->Nx
open PySem.F renaming plain_min_loop->NZ,slot_tuple_iterator_next->OK,slot_enumerate_next->PQ,args_tuple_add_2->Qf,entry_tuple_add->Qz,slot_tuple_add->QI,entry_min_loop->R9,slot_int_rmul->Rp,args_tuple_iterator_next_1->Rq,slot_zip_next->Rr,slot_dict_setdefault->Rw,entry_tuple_iterator_next->RA,slot_list_insert->SF,args_enumerate_next_1->SQ,plainAttrs_list->SX,entry_enumerate_next->Tc,slot_dict_items_iter->Tf,args_int_rmul_2->UZ,args_zip_next_1->V2,slot_tuple_hash->V5,slot_dict_items->Vd,entry_int_rmul->Vq,entry_zip_next->Vs,slot_dict_iter->VD,fills_int_mul->VX,slot_tuple_lt->VZ
open PySem.SeqAt renaming readOf->O9,readOf_eq->OT,eqAt_reads->Vy,EqAt->Wa
open PySem.Paired renaming length->OD
open PySem.Obj renaming mapSeq->OJ,data_mapDictKeys->U5,data_mapFields->UL
open PySem.Builtin.Dict_items renaming isOneOf->OL,pairFromOwner->QS
open PySem.Builtin.List renaming listFitsIndex->OM,listTooLong->Qg,listLengthHint->RG
open PySem.Builtin.Slice renaming slicePlaces->OP,sliceAdjust->Q9,sliceApplied->RV
open LawfulBEq renaming eq_of_beq->OR
open List.cons renaming injEq->OS
open PySem.Heap.SameBut renaming update->Pe
open PySem.Shared renaming heap->Pm
open ForInStep renaming yield->Px
open PySem.Around renaming under_plainId->Q4,in1_handled->UM
open List.Pairwise renaming imp_of_mem->Qk,nil->Ss
open Function renaming comp->Qm
open PySem.Calls renaming callWith_builtin->QJ,Name_function_global->RL,spliced_cons->RQ,evalArgs_plain->TN,spliced_nil->UT
open PyProof.Rows.IsTup renaming new->QX
open And renaming intro->R0
open PyProof.Rows.SortSt renaming mk'->R5
open Prod.mk renaming injEq->Rg
open PySem.Data renaming seq->Rj,fields->So
open PySem.Builtin.Builtins renaming bindParams->RH
open Option.some renaming injEq->Sv
open PySem.Env renaming blockKind->SG,kindOf->UO
open Sum renaming inl->T3,inr->T5
open ToString renaming toString->U3
open PySem.Expr renaming Subscript->U6,Attribute->U7,Constant->Us,ListComp->Ut,UnaryOp->Vf,Compare->Vg,BoolOp->VS,BinOp->Wl,IfExp->Wn,Tuple->Wo,Slice->Wp,Name->Wt,List->Wu,Call->Wv,Dict->Ww
open PySem.Builtin.Int renaming intBits->Ue
open PySem.Stmt renaming Continue->Uu,Assign->VT,Delete->VU,Return->VV,While->Wq,Break->Wr,Expr->Wx,Pass->Wy
open Sum.inr renaming injEq->Uw
open PySem.SeqAt.EqAt renaming int_str->Ux,str_int->Uy,int_int->UC
open PySem.Heap.IsSliceOf renaming new->UG
open PySem.Heap.IsTuple renaming push->V3
open Exists renaming intro->V9
open MonadExcept renaming tryCatch->Ve
open PySem.Heap.IsList renaming push->Vt
open Iff renaming rfl->W2
open Option renaming some->S,none->Y
open Bool renaming true->WX,false->WY
open PySem renaming Addr->WZ
local macro_rules|`(tactic|let $d:letDecl)=>`(tactic|have $d:letDecl)
local macro_rules|`(tactic|let⟨$a,*⟩:=$e)=>do
 let rec f(n:Nat)(s:Lean.Syntax):Lean.MacroM (Lean.TSyntax `rcasesPat):=match n with
  |0=>Lean.Macro.throwUnsupported
  |n+1=>match s with
   |`(⟨$b,*⟩)=>do `(rcasesPat|⟨$[$(<-b.getElems.mapM (f n ·.raw)):rcasesPat],*⟩)
   |`(_)=>`(rcasesPat|_)
   |`($i:ident)=>`(rcasesPat|$i:ident)
   |_=>Lean.Macro.throwUnsupported
 `(tactic|obtain⟨$[$(<-a.getElems.mapM (f 9 ·.raw)):rcasesPat],*⟩:=$e)
local macro_rules|`((·))=>`(by decide)
local macro_rules|`((_))=>`(by simp)
local macro_rules|`(tactic|show $e:term)=>`(tactic|exact $e)
local macro_rules|`(tactic|calc $e:term)=>`(tactic|refine $e)
local macro_rules|`(command|def $i:declId $s:optDeclSig $v:declVal)=>do return (<-`(command|theorem $i:declId $(⟨.node .none ``Lean.Parser.Command.declSig #[s.raw[0],s.raw[1][0]]⟩):declSig $v:declVal)).raw.rewriteBottomUp (·.setInfo .none)
local macro_rules|`(command|abbrev $i:declId $s:optDeclSig $v:declVal)=>do return (<-`(command|noncomputable def $i:declId $s:optDeclSig $v:declVal)).raw.rewriteBottomUp (·.setInfo .none)
section
def Xa{a b c:Nat}(h:b<=c)(k:a<=b):a<=c:=Nat.le_trans k h
def Xb{a b c:Nat}(h:b<=c)(k:a+1<=b):a<=c-1:=Nat.le_sub_of_add_le (Nat.le_trans k h)
def Xc{a b:Nat}(h:Nat.ble (a+1) b=true):a<b:=Nat.le_of_ble_eq_true h
local macro_rules|`(∅)=>`(by first|with_reducible assumption|with_reducible show Nat.le_of_ble_eq_true rfl|with_reducible show Xc rfl|show Xa (by with_reducible assumption) (by with_reducible show Nat.le_of_ble_eq_true rfl)|show Xb (by with_reducible assumption) (by with_reducible show Nat.le_of_ble_eq_true rfl)|lia)
namespace L2
open PySem PySem.Spec PyProof.Rows
section
noncomputable abbrev Key:=Sum Int Str
abbrev ic:Key->gV->Bool
 |.inl k,v=>Sj k v
 |.inr x,v=>Value.isStrOf x v
abbrev Gn(w:Mn):Key->Int
 |.inl k=>hashInt k
 |.inr x=>hashStr w x
def aZ:∀{k:Key} {v:gV},ic k v=WX->(∃i t,k=T3 i/\v=QW i t)∨(∃x t,k=T5 x/\v=U9 x t)
 |.inl i,v,h=>by let⟨t,e⟩:=Sk (k:=i) (v:=v) h;show .inl ⟨i,t,rfl,e⟩
 |.inr x,v,h=>by let⟨t,e⟩:=Value.isStrOf_shape (x:=x) (v:=v) h;show .inr ⟨x,t,rfl,e⟩
def vI(i:Int)(t:Tok):ic (.inl i) (.int i t)=WX:=by simp[ic,Sj]
def vJ(x:Str)(t:Tok):ic (.inr x) (.str x t)=WX:=by simp[ic,Value.isStrOf]
def Dp(a b:Int):decide ((T3 a:Key)=T3 b)=(a==b):=by
 by_cases e:a=b
 ·subst e;simp
 ·let h:¬(T3 a:Key)=T3 b:=λq=>e (T3.inj q);rw[decide_eq_false h];show(beq_eq_false_iff_ne.mpr e).symm
def Dq(a b:Str):decide ((T5 a:Key)=T5 b)=decide (a=b):=by
 by_cases e:a=b
 ·subst e;simp
 ·let h:¬(T5 a:Key)=T5 b:=λq=>e (T5.inj q);rw[decide_eq_false h,decide_eq_false e]
def Ds(a:Int)(b:Str):decide ((T3 a:Key)=T5 b)=WY:=decide_eq_false (λq=>nomatch q)
def Dt(a:Str)(b:Int):decide ((T5 a:Key)=T3 b)=WY:=decide_eq_false (λq=>nomatch q)
abbrev b4(prog:LR)(w:Mn):PySem.KeyKind prog w Key where
 is:=ic
 hash:=Gn w
 inj:=λv a b ha hb=>by
  rcases aZ ha with⟨i,t,rfl,rfl⟩|⟨x,t,rfl,rfl⟩
  ·rcases aZ hb with⟨j,u,rfl,e⟩|⟨y,u,rfl,e⟩
   ·injection e with e1 _;rw[e1]
   ·show nomatch e
  ·rcases aZ hb with⟨j,u,rfl,e⟩|⟨y,u,rfl,e⟩
   ·show nomatch e
   ·injection e with e1 _;rw[e1]
 byValue:=λk v h=>by rcases aZ h with⟨i,t,rfl,rfl⟩|⟨x,t,rfl,rfl⟩<;>rfl
 pyHash:=λhv h=>by
  rcases aZ hv with⟨i,t,rfl,rfl⟩|⟨x,t,rfl,rfl⟩
  ·show wpAny_pyHash_int h
  ·show wpAny_pyHash_str h
 eqBool:=λhu hv h=>by
  rcases aZ hu with⟨i,t,rfl,rfl⟩|⟨x,t,rfl,rfl⟩
  ·rcases aZ hv with⟨j,u,rfl,rfl⟩|⟨y,u,rfl,rfl⟩
   ·rw[Dp]at h;show wpAny_eqBool_int h
   ·rw[Ds]at h;show Ux i t y u _ _ _ _ h
  ·rcases aZ hv with⟨j,u,rfl,rfl⟩|⟨y,u,rfl,rfl⟩
   ·rw[Dt]at h;show Uy x t j u _ _ _ _ h
   ·rw[Dq]at h;show wpAny_eqBool_str h
 «strs»:=λk x t v h=>by
  rcases aZ h with⟨i,u,rfl,e⟩|⟨y,u,rfl,e⟩
  ·show nomatch e
  ·injection e with e1 _
   subst e1
   cases v<;>rfl
def rq(prog:LR)(w:Mn)(i:Int)(t:Tok):(b4 prog w).is (.inl i) (.int i t)=WX:=vI i t
def rA(prog:LR)(w:Mn)(x:Str)(t:Tok):(b4 prog w).is (.inr x) (.str x t)=WX:=vJ x t
end
variable{us:List gV}{a b:WZ}{P:LR}{w:Mn}{h:Heap}
section
inductive V where
 |non|bl (b:Bool)|int (i:Int)|str (x:Str)|byt (b:Array UInt8)|flt (b:UInt64)|ref (a:WZ)|ty (n:String)
 deriving DecidableEq
abbrev RelV:V->gV->Prop
 |.non,u=>u=Ou
 |.bl b,u=>u=RJ b
 |.int i,u=>∃t,u=QW i t
 |.str x,u=>∃t,u=U9 x t
 |.byt b,u=>∃t,u=Value.bytes b t
 |.flt b,u=>∃t,u=VI b t
 |.ref a,u=>u=Ms a
 |.ty n,u=>u=MJ n
noncomputable abbrev Vals:List V->List gV->Prop:=N6 RelV
def Vals.length{xs:List V}(r:Vals xs us):xs.length=us.length:=OD r
def Vals.get:∀{xs:List V} {us:List gV} {i:Nat} {x:V},Vals xs us->xs[i]?=S x->∃u,us[i]?=S u/\RelV x u
 |_,_,_,_,.nil,e=>by simp at e
 |_,_,0,_,.cons r _,e=>by simp at e;subst e;show⟨_,rfl,r⟩
 |_,_,i+1,x,.cons _ t,e=>by
  let⟨u,h1,h2⟩:=Vals.get (i:=i) (x:=x) t (by simpa using e)
  show⟨u,by simpa using h1,h2⟩
def Vals.set{x:V}{u:gV}(r:RelV x u):∀{xs:List V} {us:List gV} (i:Nat),Vals xs us->Vals (xs.set i x) (us.set i u)
 |_,_,_,.nil=>.nil
 |_,_,0,.cons _ t=>.cons r t
 |_,_,i+1,.cons q t=>.cons q (Vals.set r i t)
def Vals.append:∀{xs ys:List V} {us ws:List gV},Vals xs us->Vals ys ws->Vals (xs++ys) (us++ws)
 |_,_,_,_,.nil,s=>s
 |_,_,_,_,.cons r t,s=>.cons r (Vals.append t s)
def Vals.take:∀{xs:List V} {us:List gV} (n:Nat),Vals xs us->Vals (xs.take n) (us.take n)
 |_,_,0,_=>.nil
 |_,_,_+1,.nil=>.nil
 |_,_,n+1,.cons r t=>.cons r (Vals.take n t)
def Vals.drop:∀{xs:List V} {us:List gV} (n:Nat),Vals xs us->Vals (xs.drop n) (us.drop n)
 |_,_,0,r=>r
 |_,_,_+1,.nil=>.nil
 |_,_,n+1,.cons _ t=>Vals.drop n t
abbrev RelO:Option V->Option gV->Prop
 |some v,S u=>RelV v u
 |none,Y=>True
 |_,_=>False
abbrev KV{κ:Type}:List (κ×V)->List (κ×gV)->Prop:=N6 λ(p:κ×V) (q:κ×gV)=>p.1=q.1/\RelV p.2 q.2
abbrev kV:Key->V
 |.inl i=>.int i
 |.inr x=>.str x
inductive HO where
 |lst (xs:List V)
 |tup (xs:List V)
 |dK (kvs:List (Key×V))|dT (kvs:List (List Key×V))
 |set (F2:Int->Bool) (n:Nat)
 |ins (C dx:WZ) (fs:List (Str×V))
 |own (x:WZ)
 |xd (fs:List (Str×V))
 |met (f x:WZ)
 |rng (lo hi:Int)
 |frz (o:Obj) (u:HO)
 |tbl (ps:Array gV)
 |ext (φ:Heap->Prop)
noncomputable abbrev Hp:=WZ->Option HO
abbrev upd(H:Hp)(a:WZ)(o:HO):Hp:=λb=>if b=a then S o else H b
def aB{H:Hp}{o:HO}:upd H a o a=S o:=by unfold upd;rw[if_pos rfl]
def av{H:Hp}{o:HO}(h:b≠a):upd H a o b=H b:=by unfold upd;rw[if_neg h]
def F9{H:Hp}{o u:HO}(h:H a=S o)(h':H b=S u)(d:o≠u):a≠b:=by intro e;subst e;rw[h]at h';show d (Nw.inj h')
def ba{H:Hp}{o:HO}(h:H a=S o)(h':H b=Y):a≠b:=by intro e;subst e;rw[h]at h';cases h'
section
variable(P:LR)(w:Mn)
abbrev ObjOk(H:Hp)(h:Heap)(a:WZ):HO->Prop
 |.lst xs=>xs.length<=Ls/\∃(its:List gV) (n:Nat),Vals xs its/\h.get? a=S {cls:=.type "list",data:=.seq its.toArray n}
 |.tup xs=>xs.length<=Ls/\∃its:List gV,Vals xs its/\VJ h a its.toArray
 |.dK kvs=>kvs.length<=Ls/\(a==Nr)=WY/\∃vs,KV kvs vs/\h.DictOf (b4 P w) a vs
 |.dT kvs=>kvs.length<=Ls/\(a==Nr)=WY/\∃xs:List (List Key×WZ×gV),
  N6 (λ(p:List Key×V) (q:List Key×WZ×gV)=>p.1=q.1/\H q.2.1=S (.tup (p.1.map kV))/\RelV p.2 q.2.2) kvs xs /\
  ∃o es ep,h.get? a=S o/\o.ExactDict/\o.data=.dict es ep/\es.toList=xs.map (W3 (SH (b4 P w)))/\(xs.map (·.1)).Nodup
 |.set F2 n=>h.SetOf (Qp P w) a F2 n
 |.ins C dx fs=>H dx=S (.own a)/\fs.length<=1000/\dx≠a/\h.get? a=S (Ti C dx) /\
  ∃mA,h.Ns1 dx mA/\(∀f,RelO (fs.lookup f) (mA f))/\PySem.Within mA (fs.map (·.1))
 |.own _=>∃o,h.get? a=S o
 |.xd fs=>∃mA,h.Ns1 a mA/\∀f,RelO (fs.lookup f) (mA f)
 |.rng lo hi=>∃t u v,h.get? a=S {cls:=.type "range",data:=.fields #[.int lo t,.int hi u,.int 1 v]}
 |.frz o u=>h.get? a=S o/\ObjOk H h a u
 |.tbl ps=>h.get? a=S {cls:=.none,data:=.fields ps}
 |.met f x=>h.get? a=S (Sl (.ref f) (.ref x))
 |.ext φ=>φ h/\(∃o,h.get? a=S o)/\∀h1 h2:Heap,φ h1->(∀o,h1.get? a=S o->h2.get? a=S o)->φ h2
abbrev HOk(H:Hp)(h:Heap):Prop:=∀a o,H a=S o->ObjOk P w H h a o
end
section
variable{P:LR}{w:Mn}{H H':Hp}{h h':Heap}{a:WZ}{o:HO}
def ObjOk.lt(x:ObjOk P w H h a o):a<h.objs.size:=by
 cases o with
 |lst xs=>let⟨_,_,_,_,e⟩:=x;show LB e
 |tup xs=>let⟨_,_,_,p⟩:=x;show p.lt
 |dK kvs=>let⟨_,_,_,_,o,_,_,e,_⟩:=x;show LB e
 |dT kvs=>let⟨_,_,_,_,o,_,_,e,_⟩:=x;show LB e
 |set F2 n=>let⟨o,_,_,_,e,_⟩:=x;show LB e
 |ins C dx fs=>let⟨_,_,_,e,_⟩:=x;show LB e
 |own y=>let⟨_,e⟩:=x;show LB e
 |xd fs=>let⟨_,⟨_,_,_,e,_⟩,_⟩:=x;show LB e
 |rng lo hi=>let⟨_,_,_,e⟩:=x;show LB e
 |frz ob u=>let⟨e,_⟩:=x;show LB e
 |tbl ps=>show LB (show h.get? a=S _ from x)
 |met f y=>show LB (show h.get? a=S _ from x)
 |ext φ=>let⟨_,⟨_,e⟩,_⟩:=x;show LB e
def WD{α β:Type}{F G:α->β->Prop}:∀{l₁:List α} {l₂:List β},N6 F l₁ l₂->(∀a b,F a b->G a b)->N6 G l₁ l₂
 |_,_,.nil,_=>.nil
 |_,_,.cons r t,f=>.cons (f _ _ r) (WD t f)
def ObjOk.stay(x:ObjOk P w H h a o)(k:∀b u,(b=a∨H b=S (.own a))->h.get? b=S u->h'.get? b=S u)(ho:∀b,H b=S (.own a)->H' b=S (.own a))(ht:∀b xs,H b=S (.tup xs)->H' b=S (.tup xs)):ObjOk P w H' h' a o:=by
 induction o with
 |lst xs=>let⟨z,its,n,r,e⟩:=x;show⟨z,its,n,r,k _ _ (.inl rfl) e⟩
 |tup xs=>let⟨z,its,r,ob,e,c⟩:=x;show⟨z,its,r,ob,k _ _ (.inl rfl) e,c⟩
 |dK kvs=>let⟨z,y,vs,r,ob,es,ep,e,c⟩:=x;show⟨z,y,vs,r,ob,es,ep,k _ _ (.inl rfl) e,c⟩
 |dT kvs=>let⟨z,y,xs,r,ob,es,ep,e,c⟩:=x;show⟨z,y,xs,WD r λp q z=>⟨z.1,ht _ _ z.2.1,z.2.2⟩,ob,es,ep,k _ _ (.inl rfl) e,c⟩
 |set F2 n=>let⟨ob,es,ep,t,e,c⟩:=x;show⟨ob,es,ep,t,k _ _ (.inl rfl) e,c⟩
 |ins C dx fs=>let⟨d,z,ne,e,mA,⟨od,es,ep,e2,c⟩,r⟩:=x;show⟨ho _ d,z,ne,k _ _ (.inl rfl) e,mA,⟨od,es,ep,k _ _ (.inr d) e2,c⟩,r⟩
 |own y=>let⟨ob,e⟩:=x;show⟨ob,k _ _ (.inl rfl) e⟩
 |xd fs=>let⟨mA,⟨od,es,ep,e,c⟩,r⟩:=x;show⟨mA,⟨od,es,ep,k _ _ (.inl rfl) e,c⟩,r⟩
 |rng lo hi=>let⟨t,u,v,e⟩:=x;show⟨t,u,v,k _ _ (.inl rfl) e⟩
 |frz ob u ih=>let⟨e,q⟩:=x;show⟨k _ _ (.inl rfl) e,ih q⟩
 |tbl ps=>let e:h.get? a=S {cls:=.none,data:=.fields ps}:=x;change h'.get? a=S {cls:=.none,data:=.fields ps};show k a _ (.inl rfl) e
 |met f y=>let e:h.get? a=S (Sl (.ref f) (.ref y)):=x;change h'.get? a=S (Sl (.ref f) (.ref y));show k a _ (.inl rfl) e
 |ext φ=>let⟨p,⟨o,e⟩,st⟩:=x;show⟨st _ _ p λo q=>k _ _ (.inl rfl) q,⟨o,k _ _ (.inl rfl) e⟩,st⟩
def HOk.lt(x:HOk P w H h)(e:H a=S o):a<h.objs.size:=(x a o e).lt
def HOk.fresh(x:HOk P w H h)(e:h.objs.size<=a):H a=Y:=by
 cases q:H a with
 |none=>rfl
 |some u=>show absurd (Mk (x.lt q) e) (Nb _)
def HOk.kept(x:HOk P w H h)(k:∀b u,h.get? b=S u->h'.get? b=S u):HOk P w H h':=λa o e=>(x a o e).stay (λb u _ q=>k b u q) (λ_ q=>q) λ_ _ q=>q
def HOk.laid(x:HOk P w H h)(k:∀b u,h.get? b=S u->h'.get? b=S u)(z:h.objs.size<=a)(new:ObjOk P w (upd H a o) h' a o):HOk P w (upd H a o) h':=λb u e=>by
 let j:=x.fresh z
 by_cases hb:b=a
 ·subst hb;rw[aB]at e;cases e;show new
 ·rw[av hb]at e;show(x b u e).stay (λc v _ q=>k c v q) (λc q=>by rw[av (ba q j)];show q) λc xs q=>by rw[av (ba q j)];show q
end
abbrev Rd(H:Hp)(a:WZ)(u:HO):Prop:=H a=S u∨∃o,H a=S (.frz o u)
def Rd.of{H:Hp}{u:HO}(h:H a=S u):Rd H a u:=.inl h
def Rd.ok{H:Hp}{u:HO}(r:Rd H a u)(x:HOk P w H h):ObjOk P w H h a u:=by
 rcases r with r|⟨o,r⟩
 ·show x a u r
 ·let⟨_,q⟩:=x a _ r;show q
abbrev Mut:Option HO->Prop
 |some (.lst _)=>True
 |some (.dK _)=>True
 |some (.dT _)=>True
 |some (.set _ _)=>True
 |some (.ins _ _ _)=>True
 |some (.ext _)=>True
 |_=>False
section
variable{P:LR}{w:Mn}{H:Hp}{h h':Heap}{x e:WZ}{o':HO}
def HOk.write(ok:HOk P w H h)(mu:Mut (H x))(he:e=x∨H e=S (.own x))(k:∀b u,b≠e->h.get? b=S u->h'.get? b=S u)(F:∃u,h'.get? e=S u)(new:ObjOk P w (upd H x o') h' x o'):HOk P w (upd H x o') h':=λb u q=>by
 let nown:∀c y,H c=S (.own y)->c≠x:=λc y r z=>by subst z;rw[r]at mu;show mu
 let ntup:∀c xs,H c=S (.tup xs)->c≠x:=λc xs r z=>by subst z;rw[r]at mu;show mu
 by_cases hb:b=x
 ·subst hb;rw[aB]at q;cases q;show new
 ·rw[av hb]at q
  by_cases j:b=e
  ·let q':H b=S (.own x):=by
    rcases he with z|z
    ·show absurd (j.trans z) hb
    ·rw[j];show z
   rw[q]at q';cases q';let⟨v,G⟩:=F;show⟨v,by rw[j];show G⟩
  ·refine(ok b u q).stay (λc v B r=>k c v ?_ r) (λc r=>by rw[av (nown c b r)];show r) λc xs r=>by rw[av (ntup c xs r)];show r
   rcases B with rfl|B
   ·show j
   ·rintro rfl
    rcases he with z|z
    ·show nown c b B z
    ·rw[B]at z;cases z;show hb rfl
end
structure Un(fs ex:List WZ)(H H':Hp)(h h':Heap):Prop where
 keep:∀b o,h.get? b=S o->H b=Y->b∉fs->b∉ex->h'.get? b=S o
 slot:∀b o,h.get? b=S o->H b=Y->b∈fs->b∉ex->∃sl,h'.get? b=S {o with slots:=sl}
 free:∀b o,h.get? b=S o->H b=Y->b∉ex->H' b=Y
 there:∀b o,h.get? b=S o->b∉ex->∃o',h'.get? b=S o'
 tups:∀b xs,H b=S (.tup xs)->H' b=S (.tup xs)
 frzs:∀b o u,H b=S (.frz o u)->H' b=S (.frz o u)
 tbls:∀b ps,H b=S (.tbl ps)->∃more,H' b=S (.tbl (ps++more))
section
variable{fs fs' ex ex':List WZ}{H H1 H2:Hp}{h h1 h2 h':Heap}{a x e:WZ}{o:HO}
def Un.any(u:Un fs ex H H1 h h1){ob:Obj}(q:h.get? b=S ob)(n:H b=Y)(hx:b∉ex):∃sl,h1.get? b=S {ob with slots:=sl}:=by
 by_cases j:b∈fs
 ·show u.slot b ob q n j hx
 ·show⟨ob.slots,u.keep b ob q n j hx⟩
def Un.kept(k:∀b u,h.get? b=S u->h'.get? b=S u):Un fs ex H H h h':=⟨λb ob q _ _ _=>k b ob q,λb ob q _ _ _=>⟨ob.slots,k b ob q⟩,λ_ _ _ n _=>n,λb ob q _=>⟨ob,k b ob q⟩,λ_ _ q=>q,λ_ _ _ q=>q,λ_ ps q=>⟨#[],by rw[q];simp⟩⟩
def Un.refl:Un fs ex H H h h:=Un.kept λ_ _ q=>q
def Un.laid(k:∀b u,h.get? b=S u->h'.get? b=S u)(z:h.objs.size<=a)(j:H a=Y):Un fs ex H (upd H a o) h h' where
 keep:=λb u q _ _ _=>k b u q
 slot:=λb u q _ _ _=>⟨u.slots,k b u q⟩
 free:=λb u q n _=>by rw[av (Mh (Mk (LB q) z))];show n
 there:=λb u q _=>⟨u,k b u q⟩
 tups:=λb xs q=>by rw[av (ba q j)];show q
 frzs:=λb u xs q=>by rw[av (ba q j)];show q
 tbls:=λb ps q=>⟨#[],by rw[av (ba q j),q];simp⟩
def Un.write(mu:Mut (H x))(he:e=x∨H e=S (.own x))(k:∀b u,b≠e->h.get? b=S u->h'.get? b=S u)(B:∃u,h'.get? e=S u):Un fs ex H (upd H x o) h h':=by
 let hx:∀b,H b=Y->b≠x:=λb n z=>by subst z;rw[n]at mu;show mu
 let F:∀b,H b=Y->b≠e:=λb n z=>by
  subst z
  rcases he with r|r
  ·show hx b n r
  ·rw[n]at r;cases r
 let hm:∀b u,H b=S u->¬Mut (S u)->b≠x:=λb u q nm z=>by subst z;rw[q]at mu;show nm mu
 refine⟨λb u q n _ _=>k b u (F b n) q,λb u q n _ _=>⟨u.slots,k b u (F b n) q⟩,λb u q n _=>by rw[av (hx b n)];show n,λb u q _=>?_,
  λb xs q=>by rw[av (hm b _ q λz=>z)];show q,λb u xs q=>by rw[av (hm b _ q λz=>z)];show q,λb ps q=>⟨#[],by rw[av (hm b _ q λz=>z),q];simp⟩⟩
 by_cases j:b=e
 ·subst j;show B
 ·show⟨u,k b u j q⟩
end
abbrev trk(h:Heap)(H:Hp):List WZ:=(LO h.objs.size).filter λa=>(H a).isSome
abbrev fN(h:Heap)(H:Hp):Heap:=PySem.W.hideAll h (trk h H)
def vK(h:Heap)(H:Hp):(fN h H).objs.size=h.objs.size:=PySem.W.hideAll_size _ _
def yF{H:Hp}{o:Obj}(e:h.get? b=S o)(n:H b=Y):(fN h H).get? b=S o:=
 PySem.W.hideAll_get _ e λhm=>by let q:(H b).isSome=WX:=(Nl.mp hm).2;rw[n]at q;simp at q
def Bl{H:Hp}{o:Obj}(e:(fN h H).get? b=S o):h.get? b=S o/\H b=Y:=by
 let e':h.get? b=S o:=PySem.W.of_hideAll (trk h H) e;refine⟨e',?_⟩
 cases q:H b with
 |none=>rfl
 |some x=>
  let hm:b∈trk h H:=Nl.mpr ⟨NO.mpr (LB e'),by simp[q]⟩
  let z:(fN h H).get? b=Y:=PySem.W.hideAll_none (trk h H) hm;rw[z]at e;cases e
abbrev Bm(g h:Heap)(L:WZ):List (WZ×Obj):=(LO h.objs.size).filterMap λa=>if a=L∨(g.get? a).isSome=WX then Y else(h.get? a).map λo=>(a,o)
abbrev rest(g h:Heap)(L d:WZ):List (WZ×Obj):=(Bm g h L).filter λp=>decide (p.1≠d)
end
variable{H:Hp}{o:HO}{u:gV}{t' i:Nat}{ch:List WZ}{x:Str}{e:Expr}{N:List Str}{M:QB}{A:Mq}{v:V}{s:tv}
section
structure Mod(K:Frag)(mg:Str->Option gV)(base:Heap):Prop where
 kin:K.In base
 glob:base.Ns Nq mg
 blt:∃mb,base.Ns W4 mb/\∀x:Str,x≠"__name__"->mb x=OA x
 nolimit:base.NoLimit
structure Cx where
 prog:LR
 w:Mn
 K:Frag
 mg:Str->Option gV
 base:Heap
 A:Mq
 N:List Str
 s₀:tv
 H₀:Hp
 env:Env
 outer:List Env
 stack:List Env
 ex:List WZ
 fn:Str->Bool
 calm:Bool
 pn:List (WZ×Obj)
 xe:gV->tv->Prop
abbrev frs(l:List Env):List WZ:=l.filterMap (·.frame)
noncomputable abbrev Cx.fs(X:Cx):List WZ:=frs X.outer
abbrev Vis(sc:Scope)(x:Str):Prop:=sc.names.lookup x=S .local∨sc.names.lookup x=S .cell∨sc.names.lookup x=S .free
abbrev Loc(sc:Scope)(x:Str):Prop:=sc.names.lookup x=S .local∨sc.names.lookup x=S .cell
abbrev Go(env:Env)(h:Heap)(m:Str->Option gV)(x:Str)(u:gV):Prop:=(env.kindOf x=S .local/\m x=S u)∨((env.kindOf x=S .cell∨env.kindOf x=S .free)/\∃c,env.cells.lookup x=S c/\h.IsCell c (S u))
structure Cx.Ok(X:Cx):Prop where
 mod:Mod X.K X.mg X.base
 kind:X.env.scope.kind=.function
 glob:X.env.globals=Nq
 blt:X.env.builtins=W4
 above:X.s₀.heap.objs.size<=X.env.locals
 inj:∀x y c,X.env.cells.lookup x=S c->X.env.cells.lookup y=S c->x=y
 has:∀x,(X.env.kindOf x=S .cell∨X.env.kindOf x=S .free)->∃c,X.env.cells.lookup x=S c
 cab:∀x c,X.fn x=WX->X.env.cells.lookup x=S c->X.s₀.heap.objs.size<=c
 hd:X.calm=WX->X.A.handled=Y
 frames:X.A.frames=S X.stack
 stk:X.stack=X.outer∨(X.stack=X.env::X.outer/\X.env.frame=S X.env.locals)
 exf:∀b∈X.ex,b≠X.env.locals/\∀x c,X.env.cells.lookup x=S c->c≠b
 bs:∀b o,X.base.get? b=S o->X.s₀.heap.get? b=S o/\X.H₀ b=Y
 bsz:X.base.objs.size<=X.s₀.heap.objs.size
 noex:∀b o,X.base.get? b=S o->b∉X.ex
 exfs:∀b∈X.ex,b∉X.fs
 funs:X.s₀.heap.FunFrames X.base X.outer
 frf:∀b∈X.fs,X.H₀ b=Y
structure Inv(X:Cx)(pins:List (WZ×Obj))(σ:List (Option V))(H:Hp)(s:tv):Prop where
 ok:X.Ok
 os:s.os=X.s₀.os
 bare:Sn s.gens
 base:Un X.fs X.ex X.H₀ H X.s₀.heap s.heap
 loc:∃m,s.heap.Ns X.env.locals m/\∀(i:Nat) (x:Str) (v:V),X.N[i]?=S x->σ[i]?=S (S v)->Vis X.env.scope x->∃u,RelV v u/\Go X.env s.heap m x u
 cell:∀x c,X.env.cells.lookup x=S c->∃v,s.heap.IsCell c v
 free:H X.env.locals=Y
 freeC:∀x c,X.env.cells.lookup x=S c->H c=Y
 pin:∀p∈X.pn++pins,s.heap.get? p.1=S p.2/\H p.1=Y/\p.1≠X.env.locals/\p.1∉X.fs/\∀v,p.2.data≠.cell v
 hok:HOk X.prog X.w H s.heap
 len:σ.length=X.N.length
section
variable{X:Cx}{pins:List (WZ×Obj)}{σ:List (Option V)}{H H':Hp}{s:tv}{h':Heap}
def Cx.Ok.nofr(ok:X.Ok){o:Obj}(e:X.base.get? b=S o):b∉X.fs:=λj=>by let:=(ok.funs.mem j).1;rw[e]at this;cases this
def Inv.bs(I:Inv X pins σ H s):∀b o,X.base.get? b=S o->s.heap.get? b=S o/\H b=Y:=λb o e=>⟨I.base.keep b o (I.ok.bs b o e).1 (I.ok.bs b o e).2 (I.ok.nofr e) (I.ok.noex b o e),I.base.free b o (I.ok.bs b o e).1 (I.ok.bs b o e).2 (I.ok.noex b o e)⟩
def Inv.bk(I:Inv X pins σ H s):∀b o,X.base.get? b=S o->s.heap.get? b=S o:=λb o e=>(I.bs b o e).1
def Inv.mod(I:Inv X pins σ H s):Mod X.K X.mg X.base:=I.ok.mod
def Inv.kIn(I:Inv X pins σ H s):X.K.In s.heap:=I.ok.mod.kin.keeps I.bk
def Inv.lt(I:Inv X pins σ H s):X.env.locals<s.heap.objs.size:=let⟨_,j,_⟩:=I.loc;j.lt
def Inv.sz(I:Inv X pins σ H s):X.s₀.heap.objs.size<=s.heap.objs.size:=MR I.ok.above (Q5 I.lt)
def Inv.nofs(I:Inv X pins σ H s)(h:s.heap.objs.size<=a):a∉X.fs:=λj=>by let⟨_,o,ho,_⟩:=I.ok.funs.mem j;show absurd (Mk (LB ho) (MR I.sz h)) (Nb _)
def Inv.cne(I:Inv X pins σ H s):∀x c,X.env.cells.lookup x=S c->c≠X.env.locals:=λx c e z=>by let⟨v,o,ho,hd⟩:=I.cell x c e;let⟨m,⟨o',es,ep,j,q,_⟩,_⟩:=I.loc;rw[z,j]at ho;cases ho;rw[q]at hd;cases hd
def Inv.funs(I:Inv X pins σ H s):s.heap.FunFrames X.base X.outer:=by
 let all:∀(l:List Env),(∀b∈frs l,b∈X.fs)->X.s₀.heap.FunFrames X.base l->s.heap.FunFrames X.base l:=by
  intro l
  induction l with
  |nil=>intro _ _;trivial
  |cons env r ih=>
   intro hs B;let⟨F,⟨L,o,hf,G,ho,hd⟩,hr⟩:=B;let j:L∈X.fs:=hs L (by unfold frs;rw[Rx,hf];show Nk)
   let⟨sl,e⟩:=I.base.slot L o ho (I.ok.frf L j) j λz=>I.ok.exfs L z j;show⟨F,⟨L,_,hf,G,e,hd⟩,ih (λb q=>hs b (by unfold frs;rw[Rx,hf];show Mf _ q)) hr⟩
 show all X.outer (λ_ q=>q) I.ok.funs
def Inv.stack(I:Inv X pins σ H s):s.heap.FunFrames X.base X.stack:=by
 rcases I.ok.stk with e|⟨e,hf⟩
 ·rw[e];show I.funs
 ·rw[e];let⟨m,j,_⟩:=I.loc;refine .cons (by rw[I.ok.kind];decide) hf j ?_ I.funs
  show Heap.get?_none_of_le (MR I.ok.bsz I.ok.above)
def Inv.stkSub(I:Inv X pins σ H s):∀b∈frs X.stack,b∈X.env.locals::X.fs:=λb j=>by
 rcases I.ok.stk with e|⟨e,hf⟩
 ·rw[e]at j;show Mf _ j
 ·rw[e]at j;unfold frs at j;rw[Rx,hf]at j;show j
def Inv.stkFree(I:Inv X pins σ H s):∀b∈frs X.stack,H b=Y:=λb j=>by
 rcases Lw.mp (I.stkSub b j)with e|j
 ·rw[e];show I.free
 ·let⟨_,o,ho,_⟩:=I.ok.funs.mem j;show I.base.free b o ho (I.ok.frf b j) λz=>I.ok.exfs b z j
def Inv.step{g':Array GenState}{d':Drawn}(I:Inv X pins σ H s)(j:∀b∈ch,(b∈X.ex∨X.s₀.heap.objs.size<=b)/\b≠X.env.locals/\(∀x c,X.env.cells.lookup x=S c->c≠b)/\∀p∈X.pn++pins,p.1≠b)(keep:∀b o,b≠X.env.locals->b∉X.fs->b∉ch->s.heap.get? b=S o->H b=Y->h'.get? b=S o)(slot:∀b o,b≠X.env.locals->b∈X.fs->b∉ch->s.heap.get? b=S o->H b=Y->∃sl,h'.get? b=S {o with slots:=sl})(free:∀b o,b∉ch->s.heap.get? b=S o->H b=Y->H' b=Y)(there:∀b o,b∉ch->s.heap.get? b=S o->∃o',h'.get? b=S o')(tups:∀b xs,H b=S (.tup xs)->H' b=S (.tup xs))(frzs:∀b o u,H b=S (.frz o u)->H' b=S (.frz o u))(tbls:∀b ps,H b=S (.tbl ps)->∃more,H' b=S (.tbl (ps++more)))(ns:∀m,s.heap.Ns X.env.locals m->h'.Ns X.env.locals m)(hok:HOk X.prog X.w H' h')(J:Sn g'):
 Inv X pins σ H' {s with heap:=h',gens:=g',drawn:=d',toks:=t'}:=by
 let neL:∀b o,X.s₀.heap.get? b=S o->b≠X.env.locals:=λb o e=>Mh (Mk (LB e) I.ok.above);let neC:∀b o,X.s₀.heap.get? b=S o->b∉X.ex->b∉ch:=λb o e hx B=>by
  rcases(j b B).1 with z|z
  ·show hx z
  ·show absurd (Mk (LB e) z) (Nb _)
 let cellK:∀x c,X.env.cells.lookup x=S c->∀v,s.heap.IsCell c v->h'.IsCell c v:=λx c e v ⟨o,ho,hd⟩=>by
  let nch:c∉ch:=λz=>(j c z).2.2.1 x c e rfl
  by_cases F:c∈X.fs
  ·let⟨sl,q⟩:=slot c o (I.cne x c e) F nch ho (I.freeC x c e);show⟨_,q,hd⟩
  ·show⟨o,keep c o (I.cne x c e) F nch ho (I.freeC x c e),hd⟩
 refine⟨I.ok,I.os,J,⟨λb o e n B hx=>?_,λb o e n B hx=>?_,λb o e n hx=>?_,λb o e hx=>?_,λb xs e=>tups b xs (I.base.tups b xs e),λb o xs e=>frzs b o xs (I.base.frzs b o xs e),λb ps e=>?_⟩,?_,λx c e=>?_,?_,λx c e=>?_,λp G=>?_,hok,I.len⟩
 ·show keep b o (neL b o e) B (neC b o e hx) (I.base.keep b o e n B hx) (I.base.free b o e n hx)
 ·let⟨sl,e1⟩:=I.base.slot b o e n B hx;let⟨sl',e2⟩:=slot b _ (neL b o e) B (neC b o e hx) e1 (I.base.free b o e n hx);show⟨sl',e2⟩
 ·let⟨o',e1⟩:=I.base.there b o e hx;show free b o' (neC b o e hx) e1 (I.base.free b o e n hx)
 ·let⟨o',e1⟩:=I.base.there b o e hx;show there b o' (neC b o e hx) e1
 ·let⟨L,e1⟩:=I.base.tbls b ps e;let⟨O,e2⟩:=tbls b _ e1;show⟨L++O,by rw[e2,Array.append_assoc]⟩
 ·let⟨m,U,F3⟩:=I.loc;calc⟨m,ns m U,λi x v e1 e2 Z=>?_⟩;let⟨u,r,l⟩:=F3 i x v e1 e2 Z;refine⟨u,r,?_⟩
  rcases l with l|⟨k,c,e,z⟩
  ·show .inl l
  ·show .inr ⟨k,c,e,cellK x c e _ z⟩
 ·let⟨v,z⟩:=I.cell x c e;show⟨v,cellK x c e v z⟩
 ·let⟨m,⟨o,_,_,ho,_⟩,_⟩:=I.loc;show free _ o (λz=>(j _ z).2.1 rfl) ho I.free
 ·let⟨v,o,ho,hd⟩:=I.cell x c e;show free c o (λz=>(j c z).2.2.1 x c e rfl) ho (I.freeC x c e)
 ·let⟨e,n,ne,nf,d⟩:=I.pin p G;let nch:p.1∉ch:=λz=>(j p.1 z).2.2.2 p G rfl;show⟨keep p.1 p.2 ne nf nch e n,free p.1 p.2 nch e n,ne,nf,d⟩
def Inv.un(I:Inv X pins σ H s)(u:Un X.fs [] H H' s.heap h')(hok:HOk X.prog X.w H' h'):Inv X pins σ H' {s with heap:=h',toks:=t'}:=by
 let⟨m,⟨o,es,ep,ho,r⟩,_⟩:=id I.loc;let⟨sl,B⟩:=u.any ho I.free (_)
 show I.step (g':=s.gens) (d':=s.drawn) (ch:=[]) (λ_ z=>nomatch z) (λb o _ q _ e n=>u.keep b o e n q (_)) (λb o _ q _ e n=>u.slot b o e n q (_)) (λb o _ e n=>u.free b o e n (_)) (λb o _ e=>u.there b o e (_)) u.tups u.frzs u.tbls (λm' hm=>by let⟨o',es',ep',j,r'⟩:=hm;rw[ho]at j;cases j;show⟨_,es',ep',B,r'⟩) hok I.bare
def Inv.call{g':Array GenState}{d':Drawn}(I:Inv X pins σ H s)(u:Un (frs X.stack) ch H H' s.heap h')(hok:HOk X.prog X.w H' h')(G:Sn g')(q:∀b∈ch,(b∈X.ex∨X.s₀.heap.objs.size<=b)/\b≠X.env.locals/\(∀x c,X.env.cells.lookup x=S c->c≠b)/\∀p∈X.pn++pins,p.1≠b):
 Inv X pins σ H' {s with heap:=h',gens:=g',drawn:=d',toks:=t'}:=by
 let⟨m,⟨o,es,ep,ho,r⟩,_⟩:=id I.loc;let⟨sl,F⟩:=u.any ho I.free λz=>(q _ z).2.1 rfl;show I.step (ch:=ch) q (λb o F J j e n=>u.keep b o e n (λz=>(Lw.mp (I.stkSub b z)).elim F J) j) (λb o _ _ j e n=>u.any e n j) (λb o j e n=>u.free b o e n j) (λb o j e=>u.there b o e j) u.tups u.frzs u.tbls (λm' hm=>by let⟨o',es',ep',B,r'⟩:=hm;rw[ho]at B;cases B;show⟨_,es',ep',F,r'⟩) hok G
def Inv.turned{it:WZ}(I:Inv X pins σ H s)(k:∀b o,b≠it->s.heap.get? b=S o->h'.get? b=S o)(F:H it=Y)(B:it≠X.env.locals)(h1:it∈X.ex∨X.s₀.heap.objs.size<=it)(h2:∀x c,X.env.cells.lookup x=S c->c≠it)(G:∀p∈X.pn++pins,p.1≠it):Inv X pins σ H {s with heap:=h',toks:=t'}:=by
 let nit:∀b u,H b=S u->b≠it:=λb u e z=>by rw[z,F]at e;cases e
 refine I.step (g':=s.gens) (d':=s.drawn) (ch:=[it]) (λb J=>?_) (λb o _ _ j e _=>k b o (λz=>j (by simp[z])) e) (λb o _ _ j e _=>⟨o.slots,k b o (λz=>j (by simp[z])) e⟩) (λ_ _ _ _ n=>n)
  (λb o j e=>⟨o,k b o (λz=>j (by simp[z])) e⟩) (λ_ _ e=>e) (λ_ _ _ e=>e) (λb ps e=>⟨#[],by rw[e];simp⟩) (λm hm=>?_) (λb u e=>?_) I.bare
 ·let e:b=it:=by simpa using J
  subst e;show⟨h1,B,h2,G⟩
 ·let⟨o,es,ep,ho,r⟩:=hm;show⟨o,es,ep,k _ o (Ne.symm B) ho,r⟩
 ·refine(I.hok b u e).stay (λc v j q=>k c v ?_ q) (λ_ q=>q) λ_ _ q=>q
  rcases j with z|z
  ·rw[z];show nit b u e
  ·show nit c _ z
def Inv.tok(I:Inv X pins σ H s)(t:Nat):Inv X pins σ H {s with toks:=t}:=I.un (h':=s.heap) (t':=t) Un.refl I.hok
def Inv.kept(I:Inv X pins σ H s)(k:∀b u,s.heap.get? b=S u->h'.get? b=S u):Inv X pins σ H {s with heap:=h',toks:=t'}:=I.un (Un.kept k) (I.hok.kept k)
def Inv.laid(I:Inv X pins σ H s)(k:∀b u,s.heap.get? b=S u->h'.get? b=S u)(j:s.heap.objs.size<=a)(new:ObjOk X.prog X.w (upd H a o) h' a o):Inv X pins σ (upd H a o) {s with heap:=h',toks:=t'}:=I.un (Un.laid k j (I.hok.fresh j)) (I.hok.laid k j new)
def Inv.write{x e:WZ}(I:Inv X pins σ H s)(mu:Mut (H x))(he:e=x∨H e=S (.own x))(k:∀b u,b≠e->s.heap.get? b=S u->h'.get? b=S u)(j:∃u,h'.get? e=S u)(new:ObjOk X.prog X.w (upd H x o) h' x o):Inv X pins σ (upd H x o) {s with heap:=h',toks:=t'}:=I.un (Un.write mu he k j) (I.hok.write mu he k j new)
def Inv.pins_of{pins':List (WZ×Obj)}(I:Inv X pins σ H s)(h:∀p∈pins',s.heap.get? p.1=S p.2/\H p.1=Y/\p.1≠X.env.locals/\p.1∉X.fs/\∀v,p.2.data≠.cell v):Inv X pins' σ H s:=⟨I.ok,I.os,I.bare,I.base,I.loc,I.cell,I.free,I.freeC,λp j=>(Lv.mp j).elim (λz=>I.pin p (N7 _ z)) (h p),I.hok,I.len⟩
def oJ(q:N.Nodup){j:Nat}(a:N[i]?=S x)(b:N[j]?=S x):i=j:=by let⟨h1,e1⟩:=J4.mp a;let⟨h2,e2⟩:=J4.mp b;show(List.getElem_inj q).mp (e1.trans e2.symm)
def vL{E:gV->tv->Prop}{Q:Unit->tv->Prop}(I:Inv X pins σ H s)(hN:X.N.Nodup)(hi:X.N[i]?=S x)(hx:Loc X.env.scope x)(r:RelV v u)(h:∀s',Inv X pins (σ.set i (S v)) H s'->(∃a,Nt a s.heap s'.heap/\(a=X.env.locals∨X.env.cells.lookup x=S a))->Q () s')(hf:X.fn x=WX∨X.env.scope.names.lookup x=S .local:=by first|show .inl rfl|show .inr rfl|assumption):LD M A (storeName X.env x u) Q E s:=by
 let⟨m,hn,hl⟩:=id I.loc;let U:(X.env.scope.kind==.class || (X.env.scope.kind==.module&&X.env.locals != X.env.globals))=WY:=by rw[I.ok.kind];rfl
 let F3:i<σ.length:=by rw[I.len];show(J4.mp hi).1
 let cne:=I.cne;let tracked:∀{a:WZ} {h':Heap},(∃o,s.heap.get? a=S o/\H a=Y)->Nt a s.heap h'->HOk X.prog X.w H h':=λ{a h'} ha hs b ob e=>by
  let⟨_,_,F⟩:=ha;calc(I.hok b ob e).stay (λc w' B q=>(hs.2 c ?_).trans q) (λ_ q=>q) λ_ _ q=>q;rintro rfl
  rcases B with rfl|B
  ·rw[F]at e;cases e
  ·rw[F]at B;cases B
 rcases hx with G|G
 ·calc wpAny_storeName_local G hn (λh' Jd hs=>?_) U;let⟨oL,_,_,Je,_⟩:=id hn;refine h _ ⟨I.ok,I.os,I.bare,⟨λb o e n J hx=>?_,λb o e n J hx=>?_,I.base.free,λb o e hx=>?_,I.base.tups,I.base.frzs,I.base.tbls⟩,⟨_,Jd,λj y v' e1 e2 e3=>?_⟩,λy c e=>?_,I.free,I.freeC,λp hp=>?_,tracked ⟨oL,Je,I.free⟩ hs,by simpa using I.len⟩ ⟨_,hs,.inl rfl⟩
  ·show(hs.2 b (Mh (Mk (LB e) I.ok.above))).trans (I.base.keep b o e n J hx)
  ·let⟨sl,e1⟩:=I.base.slot b o e n J hx;show⟨sl,(hs.2 b (Mh (Mk (LB e) I.ok.above))).trans e1⟩
  ·let⟨o',e1⟩:=I.base.there b o e hx;show⟨o',(hs.2 b (Mh (Mk (LB e) I.ok.above))).trans e1⟩
  ·by_cases L:j=i
   ·subst L;rw[hi]at e1;cases e1;rw[Pn F3]at e2
    cases e2
    show⟨u,r,.inl ⟨G,by simp⟩⟩
   ·rw[Rh (Ne.symm L)]at e2;let⟨u',r',q⟩:=hl j y v' e1 e2 e3;refine⟨u',r',?_⟩
    rcases q with⟨k,e⟩|⟨k,c,e,z⟩
    ·calc .inl ⟨k,?_⟩;let:y≠x:=λe=>L (oJ hN e1 (e▸hi));simp[this,e]
    ·show .inr ⟨k,c,e,z.sameBut hs (cne y c e)⟩
  ·let⟨w',z⟩:=I.cell y c e;show⟨w',z.sameBut hs (cne y c e)⟩
  ·let⟨e,n,ne,nf,d⟩:=I.pin p hp;show⟨(hs.2 p.1 ne).trans e,n,ne,nf,d⟩
 ·let O:X.fn x=WX:=by
   rcases hf with z|z
   ·show z
   ·rw[z]at G;cases G
  let⟨c,B⟩:=I.ok.has x (.inl G);let⟨w',z⟩:=I.cell x c B;calc wpAny_storeName_cell I.ok.kind G B z (λh' Z hs=>?_);let⟨oc,Ja,Jb⟩:=id z;refine h {s with heap:=h'} ⟨I.ok,I.os,I.bare,⟨λb o e n J hx=>?_,λb o e n J hx=>?_,I.base.free,λb o e hx=>?_,I.base.tups,I.base.frzs,I.base.tbls⟩,⟨m,hn.sameBut hs (Ne.symm (cne x c B)),λj y v' e1 e2 e3=>?_⟩,λy c' e=>?_,I.free,I.freeC,λp hp=>?_,tracked ⟨oc,Ja,I.freeC x c B⟩ hs,by simpa using I.len⟩ ⟨c,hs,.inr B⟩
  ·show(hs.2 b (Mh (Mk (LB e) (I.ok.cab x c O B)))).trans (I.base.keep b o e n J hx)
  ·let⟨sl,e1⟩:=I.base.slot b o e n J hx;show⟨sl,(hs.2 b (Mh (Mk (LB e) (I.ok.cab x c O B)))).trans e1⟩
  ·let⟨o',e1⟩:=I.base.there b o e hx;show⟨o',(hs.2 b (Mh (Mk (LB e) (I.ok.cab x c O B)))).trans e1⟩
  ·by_cases L:j=i
   ·subst L;rw[hi]at e1;cases e1;rw[Pn F3]at e2
    cases e2
    show⟨u,r,.inr ⟨.inl G,c,B,Z⟩⟩
   ·rw[Rh (Ne.symm L)]at e2;let⟨u',r',q⟩:=hl j y v' e1 e2 e3;refine⟨u',r',?_⟩
    rcases q with q|⟨k,c',e,z'⟩
    ·show .inl q
    ·calc .inr ⟨k,c',e,z'.sameBut hs ?_⟩;rintro rfl;show L (oJ hN e1 (I.ok.inj _ _ _ e B▸hi))
  ·by_cases Jc:c'=c
   ·subst Jc;show⟨_,Z⟩
   ·let⟨w2,z2⟩:=I.cell y c' e;show⟨w2,z2.sameBut hs Jc⟩
  ·let⟨e,n,ne,nf,d⟩:=I.pin p hp;calc⟨(hs.2 p.1 ?_).trans e,n,ne,nf,d⟩;intro q;rw[q,Ja]at e;let q':oc=p.2:=Nw.inj e;show d w' (by rw[<-q'];show Jb)
def jb{E:gV->tv->Prop}{Q:Unit->tv->Prop}(I:Inv X pins σ H s)(j:X.N.Nodup)(hi:X.N[i]?=S x)(hx:Loc X.env.scope x)(r:RelV v u)(h:∀s',Inv X pins (σ.set i (S v)) H s'->Q () s')(hf:X.fn x=WX∨X.env.scope.names.lookup x=S .local:=by first|show .inl rfl|show .inr rfl|assumption):LD M A (storeName X.env x u) Q E s:=vL I j hi hx r (λs' I' _=>h s' I') hf
def Inv.call'{s':tv}(I:Inv X pins σ H s)(ho:s'.os=s.os)(u:Un (frs X.stack) ch H H' s.heap s'.heap)(hok:HOk X.prog X.w H' s'.heap)(q:Sn s'.gens)(j:∀b∈ch,(b∈X.ex∨X.s₀.heap.objs.size<=b)/\b≠X.env.locals/\(∀x c,X.env.cells.lookup x=S c->c≠b)/\∀p∈X.pn++pins,p.1≠b):Inv X pins σ H' s':=by let⟨h',g',d',t',o'⟩:=s';let e:o'=s.os:=ho;subst e;show I.call (g':=g') (t':=t') (d':=d') u hok q j
end
noncomputable abbrev XK:=gV->Option WZ->Hp->Prop
noncomputable abbrev St:=List (Option V)
noncomputable abbrev VK:=V->Hp->Prop
noncomputable abbrev TE:=St->Hp->VK->Prop
noncomputable abbrev TT:=St->Hp->(Bool->Hp->Prop)->Prop
noncomputable abbrev TA:=St->Hp->(List V->Hp->Prop)->Prop
structure bJ where
 nx:St->Hp->Prop
 rt:VK
 bk:St->Hp->Prop:=λ_ _=>False
 ct:St->Hp->Prop:=λ_ _=>False
noncomputable abbrev TS:=bJ->St->Hp->Prop
abbrev EP(X:Cx)(pins:List (WZ×Obj))(σ:St)(Q:VK)(u:gV)(s':tv):Prop:=∃v H',Inv X pins σ H' s'/\RelV v u/\Q v H'
abbrev TP(X:Cx)(pins:List (WZ×Obj))(σ:St)(Q:Bool->Hp->Prop)(b:Bool)(s':tv):Prop:=∃H',Inv X pins σ H' s'/\Q b H'
abbrev AP(X:Cx)(pins:List (WZ×Obj))(σ:St)(Q:List V->Hp->Prop)(us:List gV)(s':tv):Prop:=∃vs H',Inv X pins σ H' s'/\Vals vs us/\Q vs H'
abbrev SP(X:Cx)(pins:List (WZ×Obj))(D:bJ)(f:Flow)(s':tv):Prop:=
 match f with
 |.next=>∃σ' H',Inv X pins σ' H' s'/\D.nx σ' H'
 |.brk=>∃σ' H',Inv X pins σ' H' s'/\D.bk σ' H'
 |.cont=>∃σ' H',Inv X pins σ' H' s'/\D.ct σ' H'
 |.ret u=>∃v σ' H',Inv X pins σ' H' s'/\RelV v u/\D.rt v H'
abbrev PE(X:Cx)(e:Expr)(t:TE):Prop:=∀(pins:List (WZ×Obj)) (s:tv) (σ:St) (H:Hp) (Q:VK),Inv X pins σ H s->t σ H Q->LD (model X.prog X.w) X.A (eval e X.env) (EP X pins σ Q) X.xe s
abbrev PT(X:Cx)(e:Expr)(t:TT):Prop:=∀(pins:List (WZ×Obj)) (s:tv) (σ:St) (H:Hp) (Q:Bool->Hp->Prop),Inv X pins σ H s->t σ H Q->LD (model X.prog X.w) X.A (isTrue e X.env (eval e X.env)) (TP X pins σ Q) X.xe s
abbrev PW(X:Cx)(e:Expr)(t:TT):Prop:=∀(whole:Sem gV) (pins:List (WZ×Obj)) (s:tv) (σ:St) (H:Hp) (Q:Bool->Hp->Prop),Inv X pins σ H s->t σ H Q->LD (model X.prog X.w) X.A (isTrue e X.env whole) (TP X pins σ Q) X.xe s
def PW.pt{X:Cx}{t:TT}(h:PW X e t):PT X e t:=h _
abbrev PA(X:Cx)(es:List Expr)(t:TA):Prop:=∀(pos:Pos) (pins:List (WZ×Obj)) (s:tv) (σ:St) (H:Hp) (Q:List V->Hp->Prop),Inv X pins σ H s->t σ H Q->LD (model X.prog X.w) X.A (spliced (Po pos (LV es X.env))) (AP X pins σ Q) X.xe s
abbrev PS(X:Cx)(st:Stmt)(t:TS):Prop:=∀(pins:List (WZ×Obj)) (s:tv) (σ:St) (H:Hp) (D:bJ),Inv X pins σ H s->t D σ H->LD (model X.prog X.w) X.A (exec st X.env) (SP X pins D) X.xe s
abbrev PSs(X:Cx)(st:List Stmt)(t:TS):Prop:=∀(pins:List (WZ×Obj)) (s:tv) (σ:St) (H:Hp) (D:bJ),Inv X pins σ H s->t D σ H->LD (model X.prog X.w) X.A (execs st X.env) (SP X pins D) X.xe s
def thn{α:Type}{t:Sem α}{Q Q':α->tv->Prop}{E:gV->tv->Prop}(h:LD M A t Q E s)(j:∀a s,Q a s->Q' a s):LD M A t Q' E s:=NH h j λ_ _ x=>x
end
variable{X:Cx}{pos:Pos}{pins:List (WZ×Obj)}{σ:St}{c:Expr}
section
section
variable{X:Cx}
abbrev Gp(i:Nat):TE:=λσ H Q=>∃v,σ[i]?=S (S v)/\Q v H
abbrev tC(v:V):TE:=λ_ H Q=>Q v H
def Du(F:X.N[i]?=S x)(G:Vis X.env.scope x)(hd:(x==("__debug__":Str))=WY:=by decide)(z:(x==("__classdict__":Str))=WY:=by decide):PE X (.Name x pos) (Gp i):=by
 intro pins s σ H Q I h;let⟨v,e,h⟩:=h;let⟨m,J,L⟩:=I.loc;let⟨u,r,l⟩:=L i x v F e G;let fin:EP X pins σ Q u s:=⟨v,H,I,r,h⟩
 rcases l with⟨q,hm⟩|⟨q,c,B,j⟩
 ·show W5 (wpAny_loadName_local I.ok.kind q J hm fin) hd
 ·rcases q with q|q
  ·show W5 (wpAny_loadName_cell I.ok.kind q B j fin) hd
  ·show W5 (wpAny_loadName_free I.ok.kind q B j fin z) hd
def Dv{i j pos}:PE X (.Constant (.int i) j pos) (tC (.int i)):=λ_ _ _ H _ I h=>wpAny_Constant_int ⟨.int i,H,I.tok _,⟨_,rfl⟩,h⟩
def Fa{b j pos}:PE X (.Constant (.bool b) j pos) (tC (.bl b)):=λ_ _ _ H _ I h=>Constant_bool ⟨.bl b,H,I,rfl,h⟩
def Dw{j pos}:PE X (.Constant .none j pos) (tC .non):=λ_ _ _ H _ I h=>Constant_none ⟨.non,H,I,rfl,h⟩
abbrev Gl(X:Cx)(x:Str):Prop:=X.env.kindOf x=S .globalImplicit
def sf{E Q:gV->tv->Prop}(I:Inv X pins σ H s)(j:Gl X x)(hm:X.mg x=S u)(h:Q u s)(hd:(x==("__debug__":Str))=WY:=by decide):LD (model X.prog X.w) X.A (eval (.Name x pos) X.env) Q E s:=RL I.ok.kind j (Calls.loadGlobal_global (by rw[I.ok.glob];show I.mod.glob.keeps I.bk) hm h) hd
def dv{E Q:gV->tv->Prop}(I:Inv X pins σ H s)(j:Gl X x)(hm:X.mg x=Y)(q:OA x=S u)(h:Q u s)(z:x≠"__name__":=by decide)(hd:(x==("__debug__":Str))=WY:=by decide):LD (model X.prog X.w) X.A (eval (.Name x pos) X.env) Q E s:=by let⟨mb,h1,h2⟩:=I.mod.blt;show RL I.ok.kind j (Calls.loadGlobal_builtin (by rw[I.ok.glob];show I.mod.glob.keeps I.bk) hm (by rw[I.ok.blt];show h1.keeps I.bk) ((h2 x z).trans q) h) hd
def kU(j:Gl X x)(hm:X.mg x=Y)(q:OA x=S u)(r:RelV v u)(z:x≠"__name__":=by decide)(hd:(x==("__debug__":Str))=WY:=by decide):PE X (.Name x pos) (tC v):=λ_ _ _ H _ I h=>dv I j hm q ⟨v,H,I,r,h⟩ z hd
variable{a b:Expr}{ta tb:TE}{pos:Pos}
variable{tA tB':TT}{rest:List Expr}
abbrev Gq(t u:TT):TT:=λσ H Q=>t σ H λc H1=>if c=WX then u σ H1 Q else Q WY H1
abbrev tOr(t u:TT):TT:=λσ H Q=>t σ H λc H1=>if c=WX then Q WX H1 else u σ H1 Q
abbrev Gr(t:TT):TT:=λσ H Q=>t σ H λc H1=>Q (!c) H1
def Bn(j:PT X a tA):PW X (.BoolOp .And [a] pos) tA:=by
 intro wh pins s σ H Q I h;refine isTrue_and (thn (j pins s σ H Q I h) λc s1 e=>?_)
 cases c with
 |true=>show isTrue_and_nil e
 |false=>show e
def Dx(j:PT X a tA):PW X (.BoolOp .Or [a] pos) tA:=by
 intro wh pins s σ H Q I h;refine isTrue_or (thn (j pins s σ H Q I h) λc s1 e=>?_)
 cases c with
 |false=>show isTrue_or_nil e
 |true=>show e
def Dy(z:PT X a tA)(B:PW X (.BoolOp .And (b::rest) pos) tB'):PW X (.BoolOp .And (a::b::rest) pos) (Gq tA tB'):=by
 intro wh pins s σ H Q I h;calc isTrue_and (thn (z pins s σ H _ I h) λc s1 F=>?_);let⟨H1,j,q⟩:=F
 cases c with
 |true=>show B wh pins s1 σ H1 Q j q
 |false=>show⟨H1,j,q⟩
def Fb(z:PT X a tA)(B:PW X (.BoolOp .Or (b::rest) pos) tB'):PW X (.BoolOp .Or (a::b::rest) pos) (tOr tA tB'):=by
 intro wh pins s σ H Q I h;calc isTrue_or (thn (z pins s σ H _ I h) λc s1 F=>?_);let⟨H1,j,q⟩:=F
 cases c with
 |true=>show⟨H1,j,q⟩
 |false=>show B wh pins s1 σ H1 Q j q
def Dz(j:PT X a tA):PT X (.UnaryOp .Not a pos) (Gr tA):=by intro pins s σ H Q I h;show isTrue_not (j pins s σ H (λc H1=>Q (!c) H1) I h)
abbrev Fc(ta tb:TE):TE:=λσ H Q=>ta σ H λx H1=>∃c,x=.bl c/\if c=WX then tb σ H1 Q else Q (.bl WY) H1
abbrev Gs(ta tb:TE):TE:=λσ H Q=>ta σ H λx H1=>∃c,x=.bl c/\if c=WX then Q (.bl WX) H1 else tb σ H1 Q
abbrev Fd(ta:TE):TE:=λσ H Q=>ta σ H λx H1=>∃c,x=.bl c/\Q (.bl (!c)) H1
def DA{op}{t:TE}(h:PE X a t):PE X (.BoolOp op [a] pos) t:=λpins s σ H Q I hw=>BoolOp_one (h pins s σ H Q I hw)
def DB(z:PE X a ta)(B:PE X (.BoolOp .And (b::rest) pos) tb):PE X (.BoolOp .And (a::b::rest) pos) (Fc ta tb):=by
 intro pins s σ H Q I h;calc BoolOp_and (thn (z pins s σ H _ I h) λv s1 F=>?_);let⟨x,H1,q,G,j⟩:=F;let⟨c,rfl,j⟩:=j
 cases G
 refine Nu ?_
 cases c with
 |true=>show B pins s1 σ H1 Q q j
 |false=>show⟨.bl WY,H1,q,rfl,j⟩
def Fe(z:PE X a ta)(B:PE X (.BoolOp .Or (b::rest) pos) tb):PE X (.BoolOp .Or (a::b::rest) pos) (Gs ta tb):=by
 intro pins s σ H Q I h;calc BoolOp_or (thn (z pins s σ H _ I h) λv s1 F=>?_);let⟨x,H1,q,G,j⟩:=F;let⟨c,rfl,j⟩:=j
 cases G
 refine Nu ?_
 cases c with
 |false=>show B pins s1 σ H1 Q q j
 |true=>show⟨.bl WX,H1,q,rfl,j⟩
def DC(q:PE X a ta):PE X (.UnaryOp .Not a pos) (Fd ta):=by
 intro pins s σ H Q I h;calc UnaryOp_ (thn (q pins s σ H _ I h) λv s1 z=>?_);let⟨x,H1,B,F,j⟩:=z;let⟨c,rfl,j⟩:=j
 cases F
 show not_of (Nu ⟨.bl (!c),H1,B,rfl,j⟩)
abbrev tIf(t:TT)(ta tb:TE):TE:=λσ H Q=>t σ H λc H1=>if c=WX then ta σ H1 Q else tb σ H1 Q
def yG(z:PT X c tA)(B:PE X a ta)(F:PE X b tb):PE X (.IfExp c a b pos) (tIf tA ta tb):=by
 intro pins s σ H Q I h;calc wpAny_IfExp (thn (z pins s σ H _ I h) λd s1 G=>?_);let⟨H1,j,q⟩:=G
 cases d with
 |true=>show B pins s1 σ H1 Q j q
 |false=>show F pins s1 σ H1 Q j q
end
end
variable{K:Frag}{tg:Expr}{ta:TA}{body:List Stmt}
section
abbrev SqL(K:Frag)(H:Hp)(a:WZ)(xs:List V):Prop:=
 Rd H a (.lst xs) ∨
  ∃(o:Obj) (its:Array gV) (n:Nat),K.lookup a=S o/\o.cls=.type "list"/\o.dict=Y/\o.data=.seq its n/\its.size<=Ls/\Vals xs its.toList
abbrev SqT(K:Frag)(H:Hp)(a:WZ)(xs:List V):Prop:=
 Rd H a (.tup xs) ∨
  ∃(o:Obj) (its:Array gV) (n:Nat),K.lookup a=S o/\o.cls=.type "tuple"/\o.data=.seq its n/\its.size<=Ls/\Vals xs its.toList
abbrev Gu:gV->Option V
 |.none=>S .non
 |.bool b=>S (.bl b)
 |.int i _=>S (.int i)
 |.str x _=>S (.str x)
 |.bytes b _=>S (.byt b)
 |.float b _=>S (.flt b)
 |.ref a=>S (.ref a)
 |.type n=>S (.ty n)
 |_=>Y
def RelV.abs{x:V}(r:RelV x u):Gu u=S x:=by
 cases x with
 |non=>cases r;rfl
 |bl _=>cases r;rfl
 |int _=>let⟨t,rfl⟩:=r;rfl
 |str _=>let⟨t,rfl⟩:=r;rfl
 |byt _=>let⟨t,rfl⟩:=r;rfl
 |flt _=>let⟨t,rfl⟩:=r;rfl
 |ref _=>cases r;rfl
 |ty _=>cases r;rfl
def RelV.inj{x y:V}(r:RelV x u)(q:RelV y u):x=y:=Nw.inj (r.abs.symm.trans q.abs)
def Vals.inj:∀{xs ys:List V} {us:List gV},Vals xs us->Vals ys us->xs=ys
 |_,_,_,.nil,.nil=>rfl
 |_,_,_,.cons r t,.cons r' t'=>by rw[r.inj r',Vals.inj t t']
section
variable{X:Cx}{pins:List (WZ×Obj)}{σ:St}{H:Hp}{s:tv}{a:WZ}{xs ys:List V}
def SqL.of(h:H a=S (.lst xs)):SqL K H a xs:=.inl (.inl h)
def SqT.of(h:H a=S (.tup xs)):SqT K H a xs:=.inl (.inl h)
def Inv.list(I:Inv X pins σ H s)(h:SqL X.K H a xs):∃its:List gV,Vals xs its/\PlainL s.heap a its.toArray/\xs.length<=Ls:=by
 rcases h with h|⟨o,its,n,j,q,hd,hs,hz,r⟩
 ·let⟨z,its,n,r,e⟩:=h.ok I.hok;show⟨its,r,⟨_,n,e,rfl,rfl,rfl⟩,z⟩
 ·refine⟨its.toList,r,⟨o,n,I.kIn a o j,q,hd,by simpa using hs⟩,?_⟩
  let e:=r.length;simp only[LX]at e;lia
def Inv.tuple(I:Inv X pins σ H s)(h:SqT X.K H a xs):∃its:List gV,Vals xs its/\VJ s.heap a its.toArray/\xs.length<=Ls:=by
 rcases h with h|⟨o,its,n,j,q,hs,hz,r⟩
 ·let⟨z,its,r,p⟩:=h.ok I.hok;show⟨its,r,p,z⟩
 ·refine⟨its.toList,r,⟨o,I.kIn a o j,q,n,by simpa using hs⟩,?_⟩
  let e:=r.length;simp only[LX]at e;lia
def Inv.list_inj(I:Inv X pins σ H s)(h:SqL X.K H a xs)(h':SqL X.K H a ys):xs=ys:=by
 let⟨its,r,⟨o,n,e,_,_,d⟩,_⟩:=I.list h;let⟨its',r',⟨o',n',e',_,_,d'⟩,_⟩:=I.list h';rw[e]at e';cases e';rw[d]at d'
 injection d' with d1 _
 let:its=its':=by simpa using congrArg T6 d1
 subst this;show r.inj r'
def Inv.tuple_inj(I:Inv X pins σ H s)(h:SqT X.K H a xs)(h':SqT X.K H a ys):xs=ys:=by
 let⟨its,r,⟨o,e,_,n,d⟩,_⟩:=I.tuple h;let⟨its',r',⟨o',e',_,n',d'⟩,_⟩:=I.tuple h';rw[e]at e';cases e';rw[d]at d'
 injection d' with d1 _
 let:its=its':=by simpa using congrArg T6 d1
 subst this;show r.inj r'
end
noncomputable abbrev Cx.wish(X:Cx)(E:gV->tv->Prop):Cx:={X with xe:=E}
noncomputable abbrev Cx.nox(X:Cx):Cx:=X.wish λ_ _=>False
def Cx.Ok.wish(ok:X.Ok)(E:gV->tv->Prop):(X.wish E).Ok:=⟨ok.mod,ok.kind,ok.glob,ok.blt,ok.above,ok.inj,ok.has,ok.cab,ok.hd,ok.frames,ok.stk,ok.exf,ok.bs,ok.bsz,ok.noex,ok.exfs,ok.funs,ok.frf⟩
def Cx.Ok.unwish{E:gV->tv->Prop}(ok:(X.wish E).Ok):X.Ok:=⟨ok.mod,ok.kind,ok.glob,ok.blt,ok.above,ok.inj,ok.has,ok.cab,ok.hd,ok.frames,ok.stk,ok.exf,ok.bs,ok.bsz,ok.noex,ok.exfs,ok.funs,ok.frf⟩
section
variable{X:Cx}{pins:List (WZ×Obj)}{σ:St}{H:Hp}{s:tv}{E:gV->tv->Prop}
def Inv.wish(I:Inv X pins σ H s)(E:gV->tv->Prop):Inv (X.wish E) pins σ H s:=⟨I.ok.wish E,I.os,I.bare,I.base,I.loc,I.cell,I.free,I.freeC,I.pin,I.hok,I.len⟩
def Inv.unwish(I:Inv (X.wish E) pins σ H s):Inv X pins σ H s:=⟨I.ok.unwish,I.os,I.bare,I.base,I.loc,I.cell,I.free,I.freeC,I.pin,I.hok,I.len⟩
def SP.unwish{D:bJ}{f:Flow}{s':tv}(h:SP (X.wish E) pins D f s'):SP X pins D f s':=by
 cases f with
 |next=>let⟨σ',H',I,q⟩:=h;show⟨σ',H',I.unwish,q⟩
 |brk=>let⟨σ',H',I,q⟩:=h;show⟨σ',H',I.unwish,q⟩
 |cont=>let⟨σ',H',I,q⟩:=h;show⟨σ',H',I.unwish,q⟩
 |ret u=>let⟨v,σ',H',I,r,q⟩:=h;show⟨v,σ',H',I.unwish,r,q⟩
def PSs.nox{st:List Stmt}{t:TS}(h:PSs X.nox st t):PSs X st t:=λpins s σ H D I hw=>NH (h pins s σ H D (I.wish _) hw) (λ_ _ q=>q.unwish) λ_ _ z=>False.elim z
end
section
variable{X:Cx}{st:Stmt}{rest:List Stmt}{t u:TS}{e:Expr}{te:TE}{pos:Pos}
abbrev tP:TS:=λD σ H=>D.nx σ H
abbrev DD(t u:TS):TS:=λD σ H=>t {D with nx:=u D} σ H
def Bo:PSs X [] tP:=λ_ _ σ H _ I h=>Tj ⟨σ,H,I,h⟩
def yH(h1:PS X st t)(h2:PSs X rest u):PSs X (st::rest) (DD t u):=by
 intro pins s σ H D I h;refine wpAny_execs_cons (thn (h1 pins s σ H {D with nx:=u D} I h) λf s1 q=>?_)
 cases f with
 |next=>let⟨σ',H',I',q⟩:=q;show h2 pins s1 σ' H' D I' q
 |ret v=>show q
 |brk=>show q
 |cont=>show q
abbrev vM:TS:=λD σ H=>D.bk σ H
abbrev AR:TS:=λD σ H=>D.ct σ H
def Bp:PS X (.Pass pos) tP:=λ_ _ σ H _ I h=>wpAny_Pass ⟨σ,H,I,h⟩
def yI:PS X (.Break pos) vM:=λ_ _ σ H _ I h=>wpAny_Break ⟨σ,H,I,h⟩
def rB:PS X (.Continue pos) AR:=λ_ _ σ H _ I h=>wpAny_Continue ⟨σ,H,I,h⟩
def Inv.quiet(I:Inv X pins σ H s):interactive X.env=WY:=by simp[interactive,I.ok.kind]
abbrev AS(te:TE):TS:=λD σ H=>te σ H λ_ H1=>D.nx σ H1
def Bq(he:PE X e te)(hs:Qy e Y pos.line X.env=pure WY:=by rfl):PS X (.Expr e pos) (AS te):=by intro pins s σ H D I h;show wpAny_Expr_any (thn (he pins s σ H _ I h) λv s1 j=>(by let⟨x,H1,q,B,z⟩:=j;show⟨σ,H1,q,z⟩)) I.quiet hs
abbrev DE(te:TE):TS:=λD σ H=>te σ H D.rt
def DF(he:PE X e te):PS X (.Return (S e) pos) (DE te):=by intro pins s σ H D I h;show wpAny_Return_some (thn (he pins s σ H _ I h) λv s1 j=>(by let⟨x,H1,q,z,B⟩:=j;show⟨x,σ,H1,q,z,B⟩))
abbrev DG(c:TT)(t u:TS):TS:=λD σ H=>c σ H λb H1=>if b=WX then t D σ H1 else u D σ H1
def Ff{a b:List Stmt}{tc:TT}(z:PT X c tc)(B:PSs X a t)(F:PSs X b u):PS X (.If c a b pos) (DG tc t u):=by
 intro pins s σ H D I h;calc wpAny_If (thn (z pins s σ H _ I h) λd s1 G=>?_);let⟨H1,j,q⟩:=G
 cases d with
 |true=>show B pins s1 σ H1 D j q
 |false=>show F pins s1 σ H1 D j q
end
noncomputable abbrev TG:=V->St->Hp->(St->Hp->Prop)->Prop
noncomputable abbrev TGs:=List V->St->Hp->(St->Hp->Prop)->Prop
abbrev PG(X:Cx)(target:Expr)(t:TG):Prop:=
 ∀(pins:List (WZ×Obj)) (s:tv) (σ:St) (H:Hp) (v:V) (u:gV) (Q:St->Hp->Prop),Inv X pins σ H s->RelV v u->t v σ H Q->
  LD (model X.prog X.w) X.A (assign target X.env u) (λ_ s'=>∃σ' H',Inv X pins σ' H' s'/\Q σ' H') X.xe s
abbrev PGs(X:Cx)(ts:List Expr)(t:TGs):Prop:=
 ∀(pins:List (WZ×Obj)) (s:tv) (σ:St) (H:Hp) (vs:List V) (us:List gV) (Q:St->Hp->Prop),Inv X pins σ H s->Vals vs us->t vs σ H Q->
  LD (model X.prog X.w) X.A (Uj ((Of ts X.env).map (·.2)) us) (λ_ s'=>∃σ' H',Inv X pins σ' H' s'/\Q σ' H') X.xe s
noncomputable abbrev tQ:=V->V->V->Hp->(Hp->Prop)->Prop
abbrev PSet(X:Cx)(t:tQ):Prop:=
 ∀(pins:List (WZ×Obj)) (s:tv) (σ:St) (H:Hp) (o i v:V) (ov iv u:gV) (Q:Hp->Prop),Inv X pins σ H s->RelV o ov->RelV i iv->RelV v u->t o i v H Q->
  LD (model X.prog X.w) X.A (T7 ov iv u) (λ_ s'=>∃H',Inv X pins σ H' s'/\Q H') X.xe s
section
variable{X:Cx}{pos:Pos}
abbrev jN(i:Nat):TG:=λv σ H Q=>Q (σ.set i (S v)) H
def sj(j:X.N.Nodup)(hi:X.N[i]?=S x)(hx:Loc X.env.scope x)(hf:X.fn x=WX∨X.env.scope.names.lookup x=S .local:=by first|show .inl rfl|show .inr rfl|assumption):PG X (.Name x pos) (jN i):=by intro pins s σ H v u Q I r h;show wpAny_assign_Name (jb I j hi hx r (λs' I'=>⟨_,H,I',h⟩) hf)
abbrev Gv:TGs:=λvs σ H Q=>vs=[]/\Q σ H
abbrev Fg(t:TG)(u:TGs):TGs:=λvs σ H Q=>∃v r,vs=v::r/\t v σ H λσ' H'=>u r σ' H' Q
def sk:PGs X [] Gv:=by
 intro pins s σ H vs us Q I r h;let⟨e,h⟩:=h;subst e
 cases r
 show UP ⟨σ,H,I,h⟩
def jc{es:List Expr}{t:TG}{u:TGs}(h1:PG X e t)(h2:PGs X es u)(hs:(Of (e::es) X.env).map (·.2)=assign e X.env::(Of es X.env).map (·.2):=by rfl):PGs X (e::es) (Fg t u):=by
 intro pins s σ H vs us Q I r h;let⟨v,vr,e1,h⟩:=h;subst e1
 cases r with
 |cons r rr=>rw[hs];calc RN (thn (h1 pins s σ H _ _ _ I r h) λ_ s1 j=>?_);let⟨σ1,H1,q,z⟩:=j;show h2 pins s1 σ1 H1 _ _ Q q rr z
abbrev Gw(K:Frag)(n:Nat)(t:TGs):TG:=λv σ H Q=>∃a xs,v=.ref a/\SqT K H a xs/\xs.length=n/\t xs σ H Q
def vN{es:List Expr}{k:Nat}{t:TGs}{n:Nat}(q:X.calm=WX)(h:PGs X es t)(z:(Of es X.env).length=n:=by rfl)(j:(Of es X.env).findIdx? (·.1)=Y:=by rfl):PG X (.Tuple es k pos) (Gw X.K n t):=by
 intro pins s σ H v u Q I r hw;let⟨a,xs,e1,B,F,hw⟩:=hw;subst e1
 cases r
 let⟨its,rv,ht,hz⟩:=I.tuple B;refine assign_Tuple_tuple (I.ok.hd q) ht (by simp[z,<-F,rv.length]) j λh' hx=>?_
 let G:Inv X pins σ H {s with heap:=h'}:=I.kept (t':=s.toks) λb o e=>hx b o (Mh (LB e)) e
 show h pins _ σ H xs _ Q G (by simpa using rv) hw
abbrev Gx(to ti:TE)(t:tQ):TG:=λv σ H Q=>to σ H λo H1=>ti σ H1 λi H2=>t o i v H2 λH3=>Q σ H3
def jO {o i:Expr}{to ti:TE}{t:tQ}(ho:PE X o to)(hi:PE X i ti)(hs:PSet X t)(q:∀v,assign (.Subscript o i pos) X.env v=(do
   let ov <-holding [v] (eval o X.env)
   let iv <-holding [v,ov] (eval i X.env)
   QC pos
   holding [v,ov,iv] (T7 ov iv v)
   release [v,ov,iv] []):=by intro _;rfl):PG X (.Subscript o i pos) (Gx to ti t):=by
 intro pins s σ H v u Q I r h;rw[q];calc b3 (Np (thn (ho pins s σ H _ I h) λov s1 j=>?_));let⟨x,H1,z,B,F⟩:=j;calc b3 (Np (thn (hi pins s1 σ H1 _ z F) λiv s2 j=>?_));let⟨y,H2,G,J,L⟩:=j;calc b3 (PJ (b3 (Np (thn (hs pins s2 σ H2 x y v ov iv u _ G B J r L) λ_ s3 j=>?_))));let⟨O,U,F3⟩:=j;show wpAny_release ⟨σ,O,U,F3⟩
abbrev tR(te:TE)(g:TG):TS:=λD σ H=>te σ H λx H1=>g x σ H1 D.nx
def jP{te:TE}{g:TG}(he:PE X e te)(j:PG X tg g)(hs:OZ [tg] e pos.line X.env=pure WY:=by rfl)(hw:NP [tg] e X.env=pure Y:=by rfl)(h1:(Of [tg] X.env).map (·.2)=[assign tg X.env]:=by rfl):PS X (.Assign [tg] e pos) (tR te g):=by intro pins s σ H D I h;calc wpAny_Assign_stores (thn (he pins s σ H _ I h) λv s1 g9=>?_) hs hw;let⟨x,H1,z,B,F⟩:=g9;rw[h1];show thn (j pins s1 σ H1 x v _ z B F) λ_ s2 q=>q
abbrev DH(i j:Nat)(ta:TA):TS:=λD σ H=>ta σ H λvs H1=>∃v w,vs=[v,w]/\D.nx ((σ.set i (S v)).set j (S w)) H1
def DI{j:Nat}{y:Str}{a b:Expr}{px py pt:Pos}{kt G z}(hc:X.calm=WX)(U:X.N.Nodup)(hi:X.N[i]?=S x)(hj:X.N[j]?=S y)(J:i≠j)(hx:X.env.scope.names.lookup x=S .local)(F3:X.env.scope.names.lookup y=S .local)(ha:PA X [a,b] ta)(hw:NP [.Tuple [.Name x px,.Name y py] kt pt] (.Tuple [a,b] G z) X.env=pure (S [x,y]))(hs:OZ [.Tuple [.Name x px,.Name y py] kt pt] (.Tuple [a,b] G z) pos.line X.env=pure WY:=by rfl):
 PS X (.Assign [.Tuple [.Name x px,.Name y py] kt pt] (.Tuple [a,b] G z) pos) (DH i j ta):=by
 intro pins s σ H D I h;rw[exec_Assign_arm];calc b3 (PJ ?_);rw[hs];calc b3 (D2 ?_);rw[if_neg (·)]
 calc b3 (Tuple_ (thn (ha _ pins s σ H _ I h) λus s1 g9=>?_));let⟨vs,H1,I1,r1,L⟩:=g9;let⟨v,w,e1,L⟩:=L;subst e1;obtain⟨B,F,rfl,rv,rw'⟩:∃B F,us=[B,F]/\RelV v B/\RelV w F:=by
  cases r1 with
  |cons p q=>
   cases q with
   |cons p' q'=>
    cases q'
    show⟨_,_,rfl,p,p'⟩
 refine N8 ?_ (by change 2<=Ls;decide)
 let I2:Inv X pins σ H1 {s1 with heap:=s1.heap.push {cls:=.type "tuple",data:=.seq [B,F].toArray}}:=I1.kept (t':=s1.toks) λb o e=>h7 _ e
 rw[hw];calc b3 (D2 ?_);change LD (model X.prog X.w) X.A (do rule "assign.swapped-stores";let items <-unpackItems (.ref s1.heap.objs.size) 2 Y;Uj [λv=>W6 X.env y v,λv=>W6 X.env x v] items.reverse;pure Flow.next) _ _ _
 calc b3 (NI (b3 (unpackItems_tuple (items:=#[B,F]) (I.ok.hd hc) (QX s1.heap _) λh' O=>?_)));let I3:=I2.kept (h':=h') (t':=s1.toks) λb o e=>O b o (Mh (LB e)) e;change LD _ _ (Uj [λv=>W6 X.env y v,λv=>W6 X.env x v] [F,B]>>=λ_=>pure Flow.next) _ _ _;calc b3 (RN (wpAny_bindName (jb I3 U hj (.inl F3) rw' (λs2 I4=>?_) (.inr F3))));calc RN (wpAny_bindName (jb I4 U hi (.inl hx) rv (λs3 Z=>UP (D2 ?_)) (.inr hx)));rw[List.set_comm _ _ (Ne.symm J)]at Z;show⟨_,H1,Z,L⟩
end
section
variable{X:Cx}{pos:Pos}
abbrev vO(c:TT)(tb:TS):TS:=λD σ H=>∃W:Nat->St->Hp->Prop,(∃m,W m σ H)/\∀m σ H,W m σ H->
 c σ H λb H1=>if b=WX then ∃N:St->Hp->Prop,(∀σ' H',N σ' H'->∃m',m'<m/\W m' σ' H')/\tb {D with nx:=N,ct:=N,bk:=D.nx} σ H1 else D.nx σ H1
def yJ{tc:TT}{tb:TS}(J:PassesOwn (model X.prog X.w) X.A X.env X.xe)(U:PT X c tc)(F3:PSs X body tb):PS X (.While c body [] pos) (vO tc tb):=by
 intro pins s σ H D I h;let⟨W,⟨m0,Z⟩,turn⟩:=h;calc wpAny_While (codeAny_whileLoop (λn s'=>∃σ' H',Inv X pins σ' H' s'/\W n σ' H') ?_ m0 ⟨σ,H,I,Z⟩);rintro n s1 ⟨σ1,H1,I1,w1⟩;calc OQ J (thn (U pins s1 σ1 H1 _ I1 (turn n σ1 H1 w1)) λb s2 g9=>?_);let⟨H2,L,q⟩:=g9
 cases b with
 |true=>
  let⟨N,O,q⟩:=q;rw[if_pos rfl];refine OQ J (thn (F3 pins s2 σ1 H2 _ L q) λf s3 z=>?_)
  cases f with
  |next=>let⟨σ3,j,B,F⟩:=z;let⟨m',hm,G⟩:=O σ3 j F;show⟨m',hm,σ3,j,B,G⟩
  |cont=>let⟨σ3,j,B,F⟩:=z;let⟨m',hm,G⟩:=O σ3 j F;show⟨m',hm,σ3,j,B,G⟩
  |brk=>show z
  |ret v=>show z
 |false=>rw[if_neg Lq];show Tj ⟨σ1,H2,L,q⟩
end
structure It where
 go:Nat->Hp->Prop
 yld:Nat->Hp->V->Hp->Prop
 stop:Nat->Hp->Prop
abbrev cN(X:Cx)(pins:List (WZ×Obj))(H:Hp)(b:WZ):Prop:=H b=Y/\b≠X.env.locals/\b∉X.fs/\(b∈X.ex∨X.s₀.heap.objs.size<=b)/\(∀x c,X.env.cells.lookup x=S c->c≠b)/\∀p∈X.pn++pins,p.1≠b
def Inv.fpOk{H':Hp}(I:Inv X pins σ H s)(j:s.heap.objs.size<=b)(B:H' b=Y):cN X pins H' b:=by
 refine⟨B,OU (Mk I.lt j),I.nofs j,.inr (MR I.sz j),λx c e z=>?_,λp F z=>?_⟩
 ·let⟨v,q⟩:=I.cell x c e;show absurd (Mk q.lt (by rw[z];show j)) (Nb _)
 ·show absurd (Mk (LB (I.pin p F).1) (by rw[z];show j)) (Nb _)
structure gB(P:LR)(w:Mn)(K:Frag)(tg:Expr)(J:It)(fp:List WZ)(it:WZ)(tn:Nat->Heap->Prop):Prop where
 mem:it∈fp
 obj:∀i h,tn i h->∀b∈fp,∃o,h.get? b=S o/\∀v,o.data≠.cell v
 keep:∀i h h',tn i h->(∀b∈fp,∀o,h.get? b=S o->h'.get? b=S o)->tn i h'
 item:∀(X:Cx),X.prog=P->X.w=w->X.K=K->X.calm=WX->∀(i:Nat) (pins:List (WZ×Obj)) (s:tv) (σ:St) (H:Hp) (E:gV->tv->Prop),Inv X pins σ H s->(∀b∈fp,cN X pins H b)->tn i s.heap->J.go i H->
  LD (model P w) X.A (OO (.ref it)) (λr s1=>∃u,r=S u /\
   LD (model P w) X.A (Rm tg (.ref it) u) (λ_ s2=>∃x H',Inv X pins σ H' s2/\RelV x u/\J.yld i H x H'/\tn (i+1) s2.heap/\∀b∈fp,H' b=Y) E s1) E s
 done:∀(X:Cx),X.prog=P->X.w=w->X.K=K->X.calm=WX->∀(i:Nat) (pins:List (WZ×Obj)) (s:tv) (σ:St) (H:Hp) (E:gV->tv->Prop),Inv X pins σ H s->(∀b∈fp,cN X pins H b)->tn i s.heap->J.stop i H->
  LD (model P w) X.A (OO (.ref it)) (λr s1=>r=Y/\Inv X pins σ H s1) E s
 self:∀(A:Mq) (i:Nat) (s:tv) (Q:gV->tv->Prop) (E:gV->tv->Prop),tn i s.heap->Q (.ref it) s->LD (model P w) A (Sx (.ref it)) Q E s
noncomputable abbrev TI:=St->Hp->(It->Hp->Prop)->Prop
abbrev PIE(X:Cx)(pins:List (WZ×Obj))(σ:St)(tg:Expr)(R:It->Hp->Prop)(itv:gV)(s2:tv):Prop:=∃(it:WZ) (fp:List WZ) (tn:Nat->Heap->Prop) (J:It) (H':Hp),itv=.ref it/\Inv X pins σ H' s2/\gB X.prog X.w X.K tg J fp it tn/\tn 0 s2.heap/\(∀b∈fp,cN X pins H' b)/\R J H'
abbrev PI(X:Cx)(tg iter:Expr)(wi:TI):Prop:=
 ∀(pins:List (WZ×Obj)) (s:tv) (σ:St) (H:Hp) (R:It->Hp->Prop),Inv X pins σ H s->wi σ H R->
  LD (model X.prog X.w) X.A (eval iter X.env) (λv s1=>LD (model X.prog X.w) X.A (Sx v) (PIE X pins σ tg R) X.xe s1) X.xe s
def tS{E:gV->tv->Prop}{it:WZ}{o:Obj}{n:String}{vs:Array gV}{Q:Unit->tv->Prop}(ho:s.heap.get? it=S o)(q:o.cls=.type n)(hd:o.data=.fields vs)(z:["enumerate","zip","dict_itemiterator","dict_reverseitemiterator","odict_iterator","itertools.zip_longest","itertools.pairwise"].contains n=WY)(j:Q () s):LD M A (Rm tg (.ref it) u) Q E s:=by
 unfold Rm
 cases tg<;>first
  |show D2 j
  | (cases u<;>first
      |show D2 j
      | (refine b3 (wpAny_load ho ?_)
         rw[q,hd];change LD M A (if(["enumerate","zip","dict_itemiterator","dict_reverseitemiterator","odict_iterator","itertools.zip_longest","itertools.pairwise"].contains n&&vs[0]?==S (RP _))=WX then _ else _) Q E s
         rw[if_neg (by intro h;rw[z,Bool.false_and]at h;cases h)]
         show D2 j))
abbrev Itl(K:Frag)(a:WZ):It:=⟨λi H=>∃xs x,SqL K H a xs/\xs[i]?=S x,λi H x H'=>H'=H/\∀xs,SqL K H a xs->xs[i]?=S x,λi H=>∃xs,SqL K H a xs/\xs.length<=i⟩
abbrev Itt(K:Frag)(a:WZ):It:=⟨λi H=>∃xs x,SqT K H a xs/\xs[i]?=S x,λi H x H'=>H'=H/\∀xs,SqT K H a xs->xs[i]?=S x,λi H=>∃xs,SqT K H a xs/\xs.length<=i⟩
abbrev Itr(lo:Int)(n:Nat):It:=⟨λi _=>i<n,λi H x H'=>H'=H/\x=.int (lo+i),λi _=>n<=i⟩
def vP(a it:WZ):gB P w K tg (Itl K a) [it] it (λi h=>h.IsListIter it a i) where
 mem:=by simp
 obj:=λi h st b j=>by
  let e:b=it:=by simpa using j
  subst e;let⟨o,e,c,d⟩:=st;show⟨o,e,λv z=>by rw[d]at z;cases z⟩
 keep:=λi h h' st k=>st.at λo e=>k it (_) o e
 item:=by
  intro X B hw F L i pins s σ H E I hf st hg;subst B hw F;let⟨xs,x,q,hx⟩:=hg;let⟨its,rv,p,hz⟩:=I.list q;let⟨u,O,ru⟩:=rv.get hx;let⟨f0,f1,f2,G,f4,J⟩:=hf it (_)
  refine wpAny_pyNext_list_item st p.isList (x:=u) (by simpa using O) λh' st' sb=>?_
  let U:Inv X pins σ H {s with heap:=h'}:=I.turned (t':=s.toks) (λb o j e=>(sb.2 b j).trans e) f0 f1 G f4 J
  let⟨o,e,c,d⟩:=id st';show⟨u,rfl,tS (s:={s with heap:=h'}) e c d (·) ⟨x,H,U,ru,⟨rfl,λys F3=>by rw[I.list_inj F3 q];show hx⟩,st',λb j=>(hf b j).1⟩⟩
 done:=by
  intro X B hw F L i pins s σ H E I hf st hg;subst B hw F;let⟨xs,q,hx⟩:=hg;let⟨its,rv,p,hz⟩:=I.list q;let⟨f0,f1,f2,G,f4,J⟩:=hf it (_)
  let Z:=rv.length;show wpAny_pyNext_list_end (I.ok.hd L) st p.isList (by simp;lia) λh' eb=>⟨rfl,I.turned (t':=s.toks) (λb o j e=>eb b o j e) f0 f1 G f4 J⟩
 self:=λ_ _ _ _ _ st h=>wpAny_pyIter_listiter st h
def tT(a it:WZ):gB P w K tg (Itt K a) [it] it (λi h=>h.IsTupleIter it a i) where
 mem:=by simp
 obj:=λi h st b j=>by
  let e:b=it:=by simpa using j
  subst e;let⟨o,e,c,d⟩:=st;show⟨o,e,λv z=>by rw[d]at z;cases z⟩
 keep:=λi h h' st k=>st.at λo e=>k it (_) o e
 item:=by
  intro X B hw F L i pins s σ H E I hf st hg;subst B hw F;let⟨xs,x,q,hx⟩:=hg;let⟨its,rv,p,hz⟩:=I.tuple q;let⟨u,O,ru⟩:=rv.get hx;let⟨f0,f1,f2,G,f4,J⟩:=hf it (_)
  refine wpAny_pyNext_tuple_item st (show s.heap.IsTuple a its.toArray from p) (x:=u) (by simpa using O) λh' st' sb=>?_
  let U:Inv X pins σ H {s with heap:=h'}:=I.turned (t':=s.toks) (λb o j e=>(sb.2 b j).trans e) f0 f1 G f4 J
  let⟨o,e,c,d⟩:=id st';show⟨u,rfl,tS (s:={s with heap:=h'}) e c d (·) ⟨x,H,U,ru,⟨rfl,λys F3=>by rw[I.tuple_inj F3 q];show hx⟩,st',λb j=>(hf b j).1⟩⟩
 done:=by
  intro X B hw F L i pins s σ H E I hf st hg;subst B hw F;let⟨xs,q,hx⟩:=hg;let⟨its,rv,p,hz⟩:=I.tuple q;let⟨f0,f1,f2,G,f4,J⟩:=hf it (_)
  let Z:=rv.length;show wpAny_pyNext_tuple_end (I.ok.hd L) st (show s.heap.IsTuple a its.toArray from p) (by simp;lia) λh' eb=>⟨rfl,I.turned (t':=s.toks) (λb o j e=>eb b o j e) f0 f1 G f4 J⟩
 self:=λ_ _ _ _ _ st h=>wpAny_pyIter_tupleiter st h
def tU(it:WZ)(lo:Int)(n:Nat):gB P w K tg (Itr lo n) [it] it (λi h=>IsRangeIter h it (lo+(i:Nat)*1) ((n:Int)-(i:Nat)) 1) where
 mem:=by simp
 obj:=λi h st b j=>by
  let e:b=it:=by simpa using j
  subst e;show⟨_,st,λv z=>by
   let z':So _=Data.cell v:=z
   cases z'⟩
 keep:=λi h h' st k=>k it (_) _ st
 item:=by
  intro X q hw B F i pins s σ H E I hf st hg;subst q hw B;let⟨f0,f1,f2,G,f4,J⟩:=hf it (_)
  let W:=Walks.range (prog:=X.prog) (w:=X.w) (I.ok.hd F) it lo 1 n;calc W.item i s _ _ hg st λv h' tk L st' kk=>?_;let⟨t,rfl⟩:=L;let O:Inv X pins σ H {s with heap:=h',toks:=tk}:=I.turned (λb o j e=>kk b o (by simpa using j) e) f0 f1 G f4 J
  refine⟨_,rfl,tS (s:={s with heap:=h',toks:=tk}) (n:="range_iterator") st' rfl rfl (·) ⟨.int (lo+i),H,O,⟨t,?_⟩,⟨rfl,rfl⟩,st',λb j=>(hf b j).1⟩⟩
  rw[Int.mul_one]
 done:=by
  intro X q hw B F i pins s σ H E I hf st hg;subst q hw B;let⟨f0,f1,f2,G,f4,J⟩:=hf it (_)
  show wpAny_pyNext_range_end (I.ok.hd F) st (by let:n<=i:=hg;lia) λh' eb=>⟨rfl,I.turned (t':=s.toks) (λb o j e=>eb b o j e) f0 f1 G f4 J⟩
 self:=λ_ _ _ _ _ st h=>wpAny_pyIter_rangeiter st h
end
variable{fp:List WZ}
section
section
variable{X:Cx}{tg:Expr}
def oK{R:It->Hp->Prop}{E:gV->tv->Prop}{lo hi:Int}{t u v:Tok}{tk:Nat}(I:Inv X pins σ H s)(h1:-(2^62)<=lo)(h2:lo<2^62)(z:-(2^62)<=hi)(B:hi<2^62)(q:R (Itr lo (hi-lo).toNat) H):LD (model X.prog X.w) X.A (Sx (.ref s.heap.objs.size)) (PIE X pins σ tg R) E {s with heap:=s.heap.push {cls:=.type "range",data:=.fields #[.int lo t,.int hi u,.int 1 v]},toks:=tk}:=by
 calc wpAny_pyIter_range (IsRange.new ..) (small_one h1 h2 z B) ?_;let j:Inv X pins σ H {s with heap:=s.heap.push {cls:=.type "range",data:=.fields #[.int lo t,.int hi u,.int 1 v]},toks:=tk}:=I.kept λb o e=>h7 _ e
 refine⟨(s.heap.push {cls:=.type "range",data:=.fields #[.int lo t,.int hi u,.int 1 v]}).objs.size,[(s.heap.push {cls:=.type "range",data:=.fields #[.int lo t,.int hi u,.int 1 v]}).objs.size],_,_,H,rfl,
  j.kept (t':=tk) λb o e=>h7 _ e,tU _ lo (hi-lo).toNat,?_,λb F=>?_,q⟩
 ·let e1:lo+((0:Nat):Int)*1=lo:=by simp
  let e2:(((hi-lo).toNat:Nat):Int)-((0:Nat):Int)=Builtin.Range.rangeSize lo hi 1:=by rw[rangeSize_one];split<;>lia
  change IsRangeIter _ _ (lo+((0:Nat):Int)*1) ((((hi-lo).toNat:Nat):Int)-((0:Nat):Int)) 1;rw[e1,e2];show Lu _ rfl
 ·let e:b=(s.heap.push {cls:=.type "range",data:=.fields #[.int lo t,.int hi u,.int 1 v]}).objs.size:=by simpa using F
  subst e;show j.fpOk (Lz _) (j.hok.fresh (Lz _))
abbrev Fh(ta:TA):TI:=λσ H R=>ta σ H λvs H1=>∃j:Int,vs=[.int j] /\ -(2^62)<=j/\j<2^62/\R (Itr 0 j.toNat) H1
abbrev Fi(ta:TA):TI:=λσ H R=>ta σ H λvs H1=>∃i j:Int,vs=[.int i,.int j]/\(-(2^62)<=i/\i<2^62 /\ -(2^62)<=j/\j<2^62)/\R (Itr i (j-i).toNat) H1
def vQ{a:Expr}{p:Pos}(B:Gl X "range")(hm:X.mg "range"=Y)(F:PA X [a] ta)(hs:LV [a] X.env=[(WY,eval a X.env)]:=by rfl):PI X tg (.Call (.Name "range" p) [a] [] pos) (Fh ta):=by
 intro pins s σ H R I h;calc Call_ (dv I B hm boot_range (O1 (thn (F pos pins s σ H _ I h) λus s1 g9=>?_) hs rfl));let⟨vs,H1,G,J,z⟩:=g9;let⟨j,e,z,L,q⟩:=z;subst e
 cases J with
 |cons r rr=>
  cases rr
  let⟨t,rfl⟩:=r;show call_range_1 (oK G ∅ ∅ z L (by simpa using q))
def vR{a b:Expr}{p:Pos}(F:Gl X "range")(hm:X.mg "range"=Y)(G:PA X [a,b] ta)(hs:LV [a,b] X.env=[(WY,eval a X.env),(WY,eval b X.env)]:=by rfl)(z:LV [b] X.env=[(WY,eval b X.env)]:=by rfl):
 PI X tg (.Call (.Name "range" p) [a,b] [] pos) (Fi ta):=by
 intro pins s σ H R I h;calc Call_ (dv I F hm boot_range (O1 (thn (G pos pins s σ H _ I h) λus s1 g9=>?_) (by rw[hs,z]) (by rw[z];rfl)));let⟨vs,H1,J,L,B⟩:=g9
 let⟨i,j,e,⟨B,O,U,F3⟩,q⟩:=B;subst e
 cases L with
 |cons r rr=>
  cases rr with
  |cons r' rr=>
   cases rr
   let⟨t,rfl⟩:=r;let⟨t',rfl⟩:=r';show call_range_2 (oK J B O U F3 q)
abbrev DJ(wi:TI)(g:TG)(tb:TS):TS:=λD σ H=>wi σ H λJ H1=>∃W:Nat->Nat->St->Hp->Prop,(∃m,W 0 m σ H1)/\∀i m σ H,W i m σ H->
 (J.stop i H/\D.nx σ H)∨(J.go i H/\∃N:St->Hp->Prop,(∀σ' H',N σ' H'->∃m',m'<m/\W (i+1) m' σ' H')/\∀x H',J.yld i H x H'->g x σ H' λσ2 H2=>tb {D with nx:=N,ct:=N,bk:=D.nx} σ2 H2)
abbrev jQ(fp:List WZ)(h:Heap):List (WZ×Obj):=fp.filterMap λb=>(h.get? b).map λo=>(b,o)
def dL{o:Obj}(j:b∈fp)(e:h.get? b=S o):(b,o)∈jQ fp h:=Uz.mpr ⟨b,j,by rw[e];rfl⟩
def vS{p:WZ×Obj}(j:p∈jQ fp h):p.1∈fp/\h.get? p.1=S p.2:=by
 let⟨b,z,e⟩:=Uz.mp j
 cases q:h.get? b with
 |none=>rw[q]at e;cases e
 |some o=>rw[q]at e;let e':(b,o)=p:=Nw.inj e;subst e';show⟨z,q⟩
def Inv.pinned(I:Inv X pins σ H s)(hf:∀b∈fp,cN X pins H b)(ho:∀b∈fp,∃o,s.heap.get? b=S o/\∀v,o.data≠.cell v):Inv X (pins++jQ fp s.heap) σ H s:=
 I.pins_of λp q=>(Lv.mp q).elim (λz=>I.pin p (LP _ z)) λz=>by let⟨j,e⟩:=vS z;let⟨f0,f1,f2,_⟩:=hf p.1 j;let⟨o,e',d⟩:=ho p.1 j;rw[e]at e';cases e';show⟨e,f0,f1,f2,d⟩
def Inv.unpinned{pl:List (WZ×Obj)}(I:Inv X (pins++pl) σ H s):Inv X pins σ H s:=I.pins_of λp j=>I.pin p (LP _ (N7 _ j))
def DK{iter:Expr}{wi:TI}{g:TG}{tb:TS}(L:PassesOwn (model X.prog X.w) X.A X.env X.xe)(hc:X.calm=WX)(hi:PI X tg iter wi)(hg:PG X tg g)(j:PSs X body tb)(hs:∀x,Om iter X.env x=pure x:=by intro _;rfl):PS X (.For tg iter body [] pos) (DJ wi g tb):=by
 intro pins s σ H D I h;calc wpAny_For (thn (hi pins s σ H _ I h) λv s1 h1=>thn h1 λitv s2 h2=>?_) hs;let⟨it,fp,tn,J,H2,e,I2,T,Ja,f2,W,⟨m0,w0⟩,turn⟩:=h2;subst e;let stat:∀{H':Hp},(∀b∈fp,H' b=Y)->∀b∈fp,cN X pins H' b:=λhn b j=>⟨hn b j,(f2 b j).2⟩;calc codeAny_forLoop_any (λn s'=>∃i σ' H',Inv X pins σ' H' s'/\tn i s'.heap/\(∀b∈fp,H' b=Y)/\W i n σ' H') ?_ m0 ⟨0,σ,H2,I2,Ja,λb j=>(f2 b j).1,w0⟩;rintro n s3 ⟨i,σ3,Z,I3,O,U,w3⟩
 rcases turn i n σ3 Z w3 with⟨stop,qn⟩|⟨go,N,hN,step⟩
 ·calc OQ L (thn (T.done X rfl rfl rfl hc i pins s3 σ3 Z X.xe I3 (stat U) O stop) λr s4 F=>?_);let⟨hr,I4⟩:=F;subst hr;show Tj ⟨σ3,Z,I4,qn⟩
 ·calc OQ L (thn (T.item X rfl rfl rfl hc i pins s3 σ3 Z X.xe I3 (stat U) O go) fun r s4 F=>?_);let⟨u,hr,h4⟩:=F;subst hr;calc OQ L (thn h4 fun _ s5 F=>?_);let⟨x,H5,I5,r5,y5,G,Jb⟩:=F;let Jc:=I5.pinned (stat Jb) (T.obj _ _ G);calc OQ L (thn (hg _ s5 σ3 H5 x u _ Jc r5 (step x H5 y5)) fun _ s6 F=>?_);let⟨σ6,H6,I6,q6⟩:=F;calc OQ L (thn (j _ s6 σ6 H6 _ I6 q6) fun f s7 B=>?_);let again:∀{σ7:St} {q:Hp},Inv X (pins++jQ fp s5.heap) σ7 q s7->N σ7 q->∃m,m<n/\∃i σ' H',Inv X pins σ' H' s7/\tn i s7.heap/\(∀b∈fp,H' b=Y)/\W i m σ' H':=fun {σ7 q} z F3=>by
   let⟨m',hm,w7⟩:=hN σ7 q F3;calc⟨m',hm,i+1,σ7,q,z.unpinned,T.keep _ _ _ G λb j o e=>(z.pin (b,o) (LP _ (LP _ (dL j e)))).1,λb j=>?_,w7⟩;let⟨o,e,d⟩:=T.obj _ _ G b j;show(z.pin (b,o) (LP _ (LP _ (dL j e)))).2.1
  cases f with
  |next=>let⟨σ7,q,z,F3⟩:=B;show again z F3
  |cont=>let⟨σ7,q,z,F3⟩:=B;show again z F3
  |brk=>let⟨σ7,q,z,B⟩:=B;show⟨σ7,q,z.unpinned,B⟩
  |ret v=>let⟨x7,σ7,q,z,r7,B⟩:=B;show⟨x7,σ7,q,z.unpinned,r7,B⟩
end
end
variable{f:gV->gV->Sem gV}{op:Uk}
section
noncomputable abbrev R2:=V->V->Hp->VK->Prop
abbrev OpR(X:Cx)(f:gV->gV->Sem gV)(r:R2):Prop:=
 ∀(pins:List (WZ×Obj)) (s:tv) (σ:St) (H:Hp) (x y:V) (v u:gV) (Q:VK),Inv X pins σ H s->RelV x v->RelV y u->r x y H Q->
  LD (model X.prog X.w) X.A (f v u) (EP X pins σ Q) X.xe s
abbrev UnR(X:Cx)(f:gV->Sem gV)(r:V->Hp->VK->Prop):Prop:=
 ∀(pins:List (WZ×Obj)) (s:tv) (σ:St) (H:Hp) (x:V) (v:gV) (Q:VK),Inv X pins σ H s->RelV x v->r x H Q->
  LD (model X.prog X.w) X.A (f v) (EP X pins σ Q) X.xe s
abbrev CallR(X:Cx)(f:gV)(r:List V->Hp->VK->Prop):Prop:=
 ∀(pins:List (WZ×Obj)) (s:tv) (σ:St) (H:Hp) (xs:List V) (us:List gV) (Q:VK),Inv X pins σ H s->Vals xs us->r xs H Q->
  LD (model X.prog X.w) X.A (call f us) (EP X pins σ Q) X.xe s
abbrev Gy(X:Cx)(r:V->Hp->(Bool->Hp->Prop)->Prop):Prop:=
 ∀(pins:List (WZ×Obj)) (s:tv) (σ:St) (H:Hp) (x:V) (v:gV) (Q:Bool->Hp->Prop),Inv X pins σ H s->RelV x v->r x H Q->
  LD (model X.prog X.w) X.A (truthy v) (TP X pins σ Q) X.xe s
abbrev tOp(r:R2)(ta tb:TE):TE:=λσ H Q=>ta σ H λx H1=>tb σ H1 λy H2=>r x y H2 Q
abbrev tUn(r:V->Hp->VK->Prop)(ta:TE):TE:=λσ H Q=>ta σ H λx H1=>r x H1 Q
abbrev rI(C:Int->Int->Prop)(g:Int->Int->V):R2:=λx y H Q=>∃i j,x=.int i/\y=.int j/\C i j/\Q (g i j) H
abbrev rI0(g:Int->Int->V):R2:=λx y H Q=>∃i j,x=.int i/\y=.int j/\Q (g i j) H
abbrev rU(g:Int->V):V->Hp->VK->Prop:=λx H Q=>∃i,x=.int i/\Q (g i) H
section
variable{X:Cx}{a b c:Expr}{ta tb tc:TE}{pos:Pos}
def yK(q:PE X a ta)(z:PE X b tb){R:V->V->Hp->Prop}(I:Inv X pins σ H s)(h:ta σ H λx H1=>tb σ H1 λy H2=>R x y H2){Q:gV->tv->Prop}(hf:∀v u s2 x y H2,Inv X pins σ H2 s2->RelV x v->RelV y u->R x y H2->LD (model X.prog X.w) X.A (f v u) Q X.xe s2):
 LD (model X.prog X.w) X.A (eval a X.env) (λv s₁=>LD (model X.prog X.w) X.A (eval b X.env) (λu s₂=>LD (model X.prog X.w) X.A (f v u) Q X.xe s₂) X.xe s₁) X.xe s:=by
 calc thn (q pins s σ H _ I h) λv s1 j=>?_;let⟨x,H1,B,F,G⟩:=j;calc thn (z pins s1 σ H1 _ B G) λu s2 j=>?_;let⟨y,H2,J,L,O⟩:=j;show hf v u s2 x y H2 J F L O
def Fj{op:UQ}{r:R2}(ho:OpR X (NQ op) r)(j:PE X a ta)(z:PE X b tb):PE X (.BinOp a op b pos) (tOp r ta tb):=by intro pins s σ H Q I h;show wpAny_BinOp (yK j z I h λv u s2 x y H2 B rx ry q=>ho pins s2 σ H2 x y v u Q B rx ry q)
def Fk{op:UnaryOp}{r:V->Hp->VK->Prop}(ho:UnR X (unaryOp op) r)(j:PE X a ta):PE X (.UnaryOp op a pos) (tUn r ta):=by intro pins s σ H Q I h;show UnaryOp_ (thn (j pins s σ H _ I h) λv s1 q=>(by let⟨x,H1,z,B,F⟩:=q;show ho pins s1 σ H1 x v Q z B F))
def opI{C:Int->Int->Prop}{g:Int->Int->Int}(rule:∀(i j:Int) (t u:Tok) (s:tv) (Q:gV->tv->Prop) (E:gV->tv->Prop),C i j->Q (.int (g i j) s.toks) {s with toks:=s.toks+1}->LD (model X.prog X.w) X.A (f (.int i t) (.int j u)) Q E s):
 OpR X f (rI C λi j=>.int (g i j)):=by
 intro pins s σ H x y v u Q I rx ry h;let⟨i,j,rfl,rfl,z,q⟩:=h;let⟨t,rfl⟩:=rx;let⟨t',rfl⟩:=ry;show rule i j t t' s _ _ z ⟨.int (g i j),H,I.tok _,⟨_,rfl⟩,q⟩
def DL{g:Int->Int->Int}(rule:∀(i j:Int) (t u:Tok) (s:tv) (Q:gV->tv->Prop) (E:gV->tv->Prop),Q (.int (g i j) s.toks) {s with toks:=s.toks+1}->LD (model X.prog X.w) X.A (f (.int i t) (.int j u)) Q E s):
 OpR X f (rI0 λi j=>.int (g i j)):=by
 intro pins s σ H x y v u Q I rx ry h;let⟨i,j,rfl,rfl,q⟩:=h;let⟨t,rfl⟩:=rx;let⟨t',rfl⟩:=ry;show rule i j t t' s _ _ ⟨.int (g i j),H,I.tok _,⟨_,rfl⟩,q⟩
def tV{g:Int->Int->Bool}(rule:∀(i j:Int) (t u:Tok) (s:tv) (Q:gV->tv->Prop) (E:gV->tv->Prop),Q (.bool (g i j)) s->LD (model X.prog X.w) X.A (f (.int i t) (.int j u)) Q E s):
 OpR X f (rI0 λi j=>.bl (g i j)):=by
 intro pins s σ H x y v u Q I rx ry h;let⟨i,j,rfl,rfl,q⟩:=h;let⟨t,rfl⟩:=rx;let⟨t',rfl⟩:=ry;show rule i j t t' s _ _ ⟨.bl (g i j),H,I,rfl,q⟩
abbrev Gz(i j:Int):Prop:=0<=j/\j<=1000000/\i.natAbs<2^64
def op_add:OpR X (NQ .Add) (rI0 λi j=>.int (i+j)):=DL λ_ _ _ _ _ _ _ q=>add_int q
def DM:OpR X (NQ .Sub) (rI0 λi j=>.int (i-j)):=DL λ_ _ _ _ _ _ _ q=>sub_int q
def DN:OpR X (NQ .Mod) (rI (λ_ j=>0<j) λi j=>.int (i%j)):=opI λi j _ _ _ _ _ z q=>by let h1:(0:Int)<j:=z;show mod_int' ∅ (by rw[Int.fmod_eq_emod_of_nonneg i ∅];show q)
def DO:OpR X (NQ .Pow) (rI Gz λi j=>.int (i^j.toNat)):=opI λ_ _ _ _ _ _ _ z q=>pow_int_small z.1 z.2.1 z.2.2 q
def unI{f:gV->Sem gV}{g:Int->Int}(rule:∀(i:Int) (t:Tok) (s:tv) (Q:gV->tv->Prop) (E:gV->tv->Prop),Q (.int (g i) s.toks) {s with toks:=s.toks+1}->LD (model X.prog X.w) X.A (f (.int i t)) Q E s):
 UnR X f (rU λi=>.int (g i)):=by
 intro pins s σ H x v Q I rx h;let⟨i,rfl,q⟩:=h;let⟨t,rfl⟩:=rx;show rule i t s _ _ ⟨.int (g i),H,I.tok _,⟨_,rfl⟩,q⟩
def DP:UnR X (unaryOp .USub) (rU λi=>.int (-i)):=unI λ_ _ _ _ _ q=>neg_int q
end
section
variable{X:Cx}{a b c:Expr}{ta tb tc:TE}{pos:Pos}
def Fl:OpR X (Mu .Lt) (rI0 λi j=>.bl (decide (i<j))):=tV λ_ _ _ _ _ _ _ q=>lt_int q
def Fm:OpR X (Mu .LtE) (rI0 λi j=>.bl (decide (i<=j))):=tV λ_ _ _ _ _ _ _ q=>le_int q
def Fn:OpR X (Mu .Gt) (rI0 λi j=>.bl (decide (j<i))):=tV λ_ _ _ _ _ _ _ q=>gt_int q
def Fo:OpR X (Mu .GtE) (rI0 λi j=>.bl (decide (j<=i))):=tV λ_ _ _ _ _ _ _ q=>ge_int q
def OpR.or{r r':R2}(h:OpR X f r)(h':OpR X f r'):OpR X f (λx y H Q=>r x y H Q∨r' x y H Q):=by
 intro pins s σ H x y v u Q I rx ry q
 rcases q with q|q
 ·show h pins s σ H x y v u Q I rx ry q
 ·show h' pins s σ H x y v u Q I rx ry q
def Br{r:R2}(ho:OpR X (Mu op) r)(j:PE X a ta)(z:PE X b tb)(hm:Qc op b=WY):PE X (.Compare a [op] [b] pos) (tOp r ta tb):=by intro pins s σ H Q I h;show wpAny_Compare1 (yK j z I h λv u s2 x y H2 B rx ry q=>ho pins s2 σ H2 x y v u Q B rx ry q) hm
abbrev tW(t:TE):TT:=λσ H Q=>t σ H λx H'=>∃k,x=.bl k/\Q k H'
def Bs{r:R2}(ho:OpR X (Mu op) r)(j:PE X a ta)(q:PE X b tb)(hm:Qc op b=WY):PT X (.Compare a [op] [b] pos) (tW (tOp r ta tb)):=by
 intro pins s σ H Q I h;refine wpAny_isTrue_Compare1 (thn (j pins s σ H _ I h) λv s1 ⟨x,H1,B,F,G⟩=>thn (q pins s1 σ H1 _ B G) λu s2 ⟨y,H2,J,L,O⟩=>thn (ho pins s2 σ H2 x y v u _ J F L O) λc s3 ⟨z,U,F3,Z,k,e,q3⟩=>?_) hm
 subst e
 cases Z
 show Nu ⟨U,F3,q3⟩
abbrev oM(r r':R2)(ta tb tc:TE):TE:=λσ H Q=>ta σ H λx H1=>tb σ H1 λy H2=>r x y H2 λz H3=>∃k,z=.bl k /\
 (if k=WX then tc σ H3 λw' H4=>r' y w' H4 Q else Q (.bl WY) H3)
def yL{op':Uk}{r r':R2}(ho:OpR X (Mu op) r)(j:OpR X (Mu op') r')(J:PE X a ta)(L:PE X b tb)(O:PE X c tc)(hm:SI [op,op'] [b,c]=WY:=by with_unfolding_all rfl):PE X (.Compare a [op,op'] [b,c] pos) (oM r r' ta tb tc):=by
 intro pins s σ H Q I h;refine Compare_chain (thn (J pins s σ H _ I h) λv s1 ⟨x,H1,U,F3,Z⟩=>chain_link (thn (L pins s1 σ H1 _ U Z) λu s2 ⟨y,H2,I2,q,q2⟩=>thn (ho pins s2 σ H2 x y v u _ I2 F3 q q2) λd s3 ⟨z,B,F,r3,k,e,G⟩=>?_)) hm
 subst e
 cases r3
 refine Nu ?_
 cases k with
 |false=>show ite_ff ⟨.bl WY,B,F,rfl,G⟩
 |true=>show ite_tt (chain_last (thn (O pins s3 σ B _ F G) λw' s4 g9=>(by let⟨z',H4,I4,r4,q4⟩:=g9;show j pins s4 σ H4 y z' u w' Q I4 q r4 q4)))
def yM{op':Uk}{r r':R2}(ho:OpR X (Mu op) r)(j:OpR X (Mu op') r')(J:PE X a ta)(L:PE X b tb)(O:PE X c tc)(hm:SI [op,op'] [b,c]=WY:=by with_unfolding_all rfl):PT X (.Compare a [op,op'] [b,c] pos) (tW (oM r r' ta tb tc)):=by
 intro pins s σ H Q I h;refine isTrue_chain (thn (J pins s σ H _ I h) λv s1 ⟨x,H1,U,F3,Z⟩=>test_link (thn (L pins s1 σ H1 _ U Z) λu s2 ⟨y,H2,I2,q,q2⟩=>thn (ho pins s2 σ H2 x y v u _ I2 F3 q q2) λd s3 ⟨z,B,F,r3,k,e,G⟩=>?_)) hm
 subst e
 cases r3
 refine Nu ?_
 cases k with
 |false=>
  let⟨k',e',q'⟩:=G
  cases e'
  show ite_ff ⟨B,F,q'⟩
 |true=>
  calc ite_tt (test_last (thn (O pins s3 σ B _ F G) λw' s4 ⟨z',H4,I4,r4,q4⟩=>thn (j pins s4 σ H4 y z' u w' _ I4 q r4 q4) λd' s5 g9=>?_));let⟨z2,H5,I5,r5,k2,e2,q5⟩:=g9;subst e2
  cases r5
  show Nu ⟨H5,I5,q5⟩
abbrev yN(K:Frag)(x:V)(H:Hp)(k:Bool):Prop:=
 match x with
 |.non=>k=WY
 |.bl b=>k=b
 |.int i=>k=(i != 0)
 |.str y=>y.length<=Ls/\k=((y.length:Int) != 0)
 |.byt y=>y.size<=Ls/\k=((y.size:Int) != 0)
 |.ref p=>(∃xs,SqL K H p xs/\k = !xs.isEmpty)∨(∃xs,SqT K H p xs/\k = !xs.isEmpty)∨∃kvs,H p=S (.dK kvs)/\k = !kvs.isEmpty
 |_=>False
def tX{κ:Type}{kvs:List (κ×V)}{vs:List (κ×gV)}(r:KV kvs vs):(!vs.isEmpty) = !kvs.isEmpty:=by cases r<;>rfl
def jR{xs:List V}{its:List gV}(r:Vals xs its):(!its.toArray.isEmpty) = !xs.isEmpty:=by cases r<;>simp
def gC:(Ls:Nat)<2^63:=by rw[hH];decide
def DQ:Gy X (λx H Q=>∃k,yN X.K x H k/\Q k H):=by
 intro pins s σ H x v Q I rx h;let⟨k,e,q⟩:=h;let B:=gC;let hs:Ls=16777216:=hH
 cases x with
 |non=>
  cases rx
  let e':k=WY:=e;subst e';show truthy_none ⟨H,I,q⟩
 |bl b=>
  cases rx
  let e':k=b:=e;subst e';show Nu ⟨H,I,q⟩
 |int i=>let⟨t,rfl⟩:=rx;let e':k=(i != 0):=e;subst e';show PySem.P.truthy_int ⟨H,I,q⟩
 |str y=>let⟨t,rfl⟩:=rx;obtain⟨j,e'⟩:y.length<=Ls/\k=((y.length:Int) != 0):=e;subst e';show PySem.P.truthy_str ∅ ⟨H,I.tok _,q⟩
 |byt y=>let⟨t,rfl⟩:=rx;obtain⟨j,e'⟩:y.size<=Ls/\k=((y.size:Int) != 0):=e;subst e';show PySem.W.truthy_bytes ∅ ⟨H,I.tok _,q⟩
 |ref p=>
  cases rx
  let e':(∃xs,SqL X.K H p xs/\k = !xs.isEmpty)∨(∃xs,SqT X.K H p xs/\k = !xs.isEmpty)∨∃kvs,H p=S (.dK kvs)/\k = !kvs.isEmpty:=e
  rcases e' with⟨xs,hx,e'⟩|⟨xs,hx,e'⟩|⟨kvs,hx,e'⟩
  ·subst e';let⟨its,r,pl,hz⟩:=I.list hx;let hlen:=r.length;show wpAny_truthy_list pl.isList (by simp only[LA];lia) ⟨H,I.tok _,by rw[jR r];show q⟩
  ·subst e';let⟨its,r,pl,hz⟩:=I.tuple hx;let hlen:=r.length;show truthy_tuple pl (by simp only[LA];lia) ⟨H,I.tok _,by rw[jR r];show q⟩
  ·subst e';obtain⟨hz,z,vs,r,m⟩:kvs.length<=Ls/\(p==Nr)=WY/\∃vs,KV kvs vs/\s.heap.DictOf (b4 X.prog X.w) p vs:=I.hok p _ hx;let hlen:kvs.length=vs.length:=OD r;show wpAny_truthy_dict z m ∅ ⟨H,I.tok _,by rw[tX r];show q⟩
 |_=>show(show False from e).elim
def yO(j:PE X a ta)(he:∀whole,isTrue a X.env whole=(do let v <-whole;QC a.pos;holding [v] (truthy v))):
 PT X a (λσ H Q=>ta σ H λx H'=>∃k,yN X.K x H' k/\Q k H'):=by
 intro pins s σ H Q I h;show isTrue_plain (thn (j pins s σ H _ I h) λv s1 q=>(by let⟨x,H1,z,B,F⟩:=q;show DQ pins s1 σ H1 x v Q z B F)) (he _)
def tY:OpR X (NQ .Add) (λx y H Q=>∃i j,x=.str i/\y=.str j/\i.length+j.length<=Ls/\Q (.str (i++j)) H):=by intro pins s σ H x y v u Q I rx ry h;let⟨i,j,rfl,rfl,hz,q⟩:=h;let⟨t,rfl⟩:=rx;let⟨t',rfl⟩:=ry;show add_str (λt' tk=>⟨.str (i++j),H,I.tok _,⟨_,rfl⟩,q⟩) hz
def cO{x:V}(r:Vals [x] us):∃u,us=[u]/\RelV x u:=by
 cases r with
 |cons j q=>cases q;show⟨_,rfl,j⟩
def nQ{x y:V}(r:Vals [x,y] us):∃u w',us=[u,w']/\RelV x u/\RelV y w':=by
 cases r with
 |cons j q=>
  cases q with
  |cons z B=>cases B;show⟨_,_,rfl,j,z⟩
def yP:CallR X (.builtin "abs") (λxs H Q=>∃i,xs=[.int i]/\Q (.int (if i<0 then -i else i)) H):=by intro pins s σ H xs us Q I r h;let⟨i,rfl,q⟩:=h;let⟨u,rfl,t,rfl⟩:=cO r;show call_abs_int λu tk=>⟨.int (if i<0 then -i else i),H,I.tok _,⟨_,rfl⟩,q⟩
def vT(B:X.calm=WX):CallR X (.builtin "min") (λxs H Q=>∃i j,xs=[.int i,.int j]/\Q (.int (if j<i then j else i)) H):=by
 intro pins s σ H xs us Q I r h;let⟨i,j,rfl,q⟩:=h;let⟨u,w',rfl,⟨t,rfl⟩,⟨t',rfl⟩⟩:=nQ r;refine min_two_ints (I.ok.hd B) λh' tk k=>⟨_,H,I.kept k,?_,q⟩
 by_cases z:j<i
 ·rw[if_pos z,if_pos z];show⟨_,rfl⟩
 ·rw[if_neg z,if_neg z];show⟨_,rfl⟩
def vU:CallR X (.type "int") (λxs H Q=>(∃i,xs=[.int i]/\Q (.int i) H)∨∃k,xs=[.bl k]/\Q (.int (if k then 1 else 0)) H):=by
 intro pins s σ H xs us Q I r h
 rcases h with⟨i,rfl,q⟩|⟨k,rfl,q⟩
 ·let⟨u,rfl,t,rfl⟩:=cO r;show call_int_int ⟨.int i,H,I,⟨_,rfl⟩,q⟩
 ·let⟨u,rfl,j⟩:=cO r
  cases j
  show call_int_bool ⟨.int (if k then 1 else 0),H,I.tok _,⟨_,rfl⟩,q⟩
abbrev GA(K:Frag)(x:V)(H:Hp)(n:Nat):Prop:=
 match x with
 |.str y=>y.length<=Ls/\n=y.length
 |.byt y=>y.size<=Ls/\n=y.size
 |.ref p=>(∃xs,SqL K H p xs/\n=xs.length)∨∃xs,SqT K H p xs/\n=xs.length
 |_=>False
def yQ:CallR X (.builtin "len") (λxs H Q=>∃x n,xs=[x]/\GA X.K x H n/\Q (.int n) H):=by
 intro pins s σ H xs us Q I r h;let⟨x,n,rfl,e,q⟩:=h;let⟨u,rfl,rx⟩:=cO r;let z:=gC;let hs:Ls=16777216:=hH
 cases x with
 |str y=>let⟨t,rfl⟩:=rx;obtain⟨j,e'⟩:y.length<=Ls/\n=y.length:=e;subst e';show len_str ∅ ⟨.int _,H,I.tok _,⟨_,rfl⟩,q⟩
 |byt y=>let⟨t,rfl⟩:=rx;obtain⟨j,e'⟩:y.size<=Ls/\n=y.size:=e;subst e';show PySem.W.len_bytes ∅ ⟨.int _,H,I.tok _,⟨_,rfl⟩,q⟩
 |ref p=>
  cases rx
  let e':(∃xs,SqL X.K H p xs/\n=xs.length)∨∃xs,SqT X.K H p xs/\n=xs.length:=e
  rcases e' with⟨xs,hx,e'⟩|⟨xs,hx,e'⟩
  ·subst e';let⟨its,r',pl,hz⟩:=I.list hx;let hlen:=r'.length;show Calls.call_len_list pl.isList (by simp only[LA];lia) ⟨.int xs.length,H,I.tok _,⟨_,by simp only[LA];rw[hlen]⟩,q⟩
  ·subst e';let⟨its,r',pl,hz⟩:=I.tuple hx;let hlen:=r'.length;show len_tuple pl (by simp only[LA];lia) ⟨.int xs.length,H,I.tok _,⟨_,by simp only[LA];rw[hlen]⟩,q⟩
 |_=>show(show False from e).elim
end
end
section
structure ObjM(h:Heap)(x dx C:WZ)(mA:Str->Option gV):Prop where
 obj:h.get? x=S (Ti C dx)
 ns:h.Ns1 dx mA
 ne:dx≠x
set_option tactic.hygienic true
def vW{dx:WZ}{mA:Str->Option gV}(n:h.Ns1 dx mA):∃od,h.get? dx=S od/\∀name,TJ name od=S (mA name):=by
 let⟨o,es,ep,ho,hd,B,_,hm⟩:=n;calc⟨o,ho,λname=>?_⟩;let e:=hm name;unfold nsFind findBy at e;rw[<-Array.find?_toList]at e;unfold TJ;rw[hd];dsimp only
 split
 ·rename_i y q;rw[q]at e;show congrArg S e
 ·rename_i q;rw[q]at e;let a:es.toList.any (·.refKey)=WY:=by
   rw[List.any_eq_false];intro y F;let⟨z,t,j⟩:=B y (Array.mem_toList_iff.mp F);simp[DictEntry.refKey,j]
  let a':¬es.toList.any (·.refKey)=WX:=by rw[a];show Lq
  rw[if_neg a'];show congrArg S e
set_option tactic.hygienic false
def ObjM.look{x dx C:WZ}{mA:Str->Option gV}(I:ObjM h x dx C mA):∃od,PySem.W.InstAt h x (Ti C dx) C (S od)/\∀name,TJ name od=S (mA name):=
 let⟨od,ho,j⟩:=vW I.ns
 ⟨od,⟨I.obj,rfl,rfl,ho⟩,j⟩
def WN{o:Option gV}(r:RelO (S v) o):∃u,o=S u/\RelV v u:=by
 cases o with
 |none=>show(show False from r).elim
 |some u=>show⟨u,rfl,r⟩
section
variable{P:LR}{w:Mn}{H H':Hp}{h h':Heap}{a C dx:WZ}{fs fs':List (Str×V)}
def Bt(hok:HOk P w H h)(e:H a=S (.ins C dx fs)):∃mA,ObjM h a dx C mA/\(∀f,RelO (fs.lookup f) (mA f))/\PySem.Within mA (fs.map (·.1))/\fs.length<=1000/\H dx=S (.own a):=by let⟨d,z,ne,ob,mA,n,r,q⟩:=(show ObjOk P w H h a (.ins C dx fs)from hok a _ e);show⟨mA,⟨ob,n,ne⟩,r,q,z,d⟩
end
structure Cls(K:Frag)(C:WZ):Prop where
 pg:Vk K C Str.empty=WX
 hd:PySem.W.hasDictIn K C=WX
 po:PySem.W.plainOver K C=WX
 sa:PySem.W.findIn K (.ref C) "__setattr__"=S (S (.builtin "object.__setattr__"))
def Cls.get{C:WZ}(c:Cls K C)(f:Str):Vk K C f=WX:=c.pg
section
variable{X:Cx}{pins:List (WZ×Obj)}{σ:St}{H:Hp}{s:tv}{A:Mq}{E:gV->tv->Prop}{Q:gV->tv->Prop}{c:gV}{b:Bool}
inductive cr(K:Frag)(H:Hp):V->gV->Prop where
 |non:cr K H .non (.type "NoneType")
 |bl (x:Bool):cr K H (.bl x) (.type "bool")
 |int (i:Int):cr K H (.int i) (.type "int")
 |str (x:Str):cr K H (.str x) (.type "str")
 |flt (x:UInt64):cr K H (.flt x) (.type "float")
 |lst {a:WZ} {xs:List V} (e:H a=S (.lst xs)):cr K H (.ref a) (.type "list")
 |frz {a:WZ} {o:Obj} {xs:List V} (e:H a=S (.frz o (.lst xs))):cr K H (.ref a) (.type "list")
 |tup {a:WZ} {xs:List V} (e:SqT K H a xs):cr K H (.ref a) (.type "tuple")
 |dK {a:WZ} {kvs:List (Key×V)} (e:H a=S (.dK kvs)):cr K H (.ref a) (.type "dict")
 |dT {a:WZ} {kvs:List (List Key×V)} (e:H a=S (.dT kvs)):cr K H (.ref a) (.type "dict")
 | ins {a C dx:WZ} {fs:List (Str×V)} (e:H a=S (.ins C dx fs)) (cl:Cls K C) (ha:PySem.W.findIn K (.ref C) "__class__"=S (S (.builtin "object.__class__")))
    (hn:PySem.W.specialIn K (.builtin "object.__class__") "__get__"=S (S (.builtin "getset_descriptor.__get__"))) (htk:PySem.W.takesIn K (.builtin "object.__class__")=S WX)
    (hm:PySem.W.mroIn K C (.type "object")=S WX):cr K H (.ref a) (.ref C)
def vX{x:V}{t:gV}(I:Inv X pins σ H s)(rx:RelV x u)(ty:cr X.K H x t)(e:PySem.W.kitOne X.K t c=S b)(h:∀tk,Q (.bool b) {s with toks:=tk}):
 LD (model X.prog X.w) A (call (.builtin "isinstance") [u,c]) Q E s:=by
 cases ty with
 |non=>cases(show u=Ou from rx);show NA UR I.kIn Nx e (λz=>nomatch z) h
 |bl y=>cases(show u=RJ y from rx);show NA US I.kIn Nx e (λz=>nomatch z) h
 |int i=>let⟨t,q⟩:=(show ∃t,u=QW i t from rx);cases q;show NA Vl I.kIn Nx e (λz=>nomatch z) h
 |str y=>let⟨t,q⟩:=(show ∃t,u=U9 y t from rx);cases q;show NA Vm I.kIn Nx e (λz=>nomatch z) h
 |flt y=>let⟨t,q⟩:=(show ∃t,u=VI y t from rx);cases q;show NA UA I.kIn Nx e (λz=>nomatch z) h
 |@lst a xs ea=>
  cases(show u=Ms a from rx)
  let⟨_,_,n,_,h1⟩:=(show ObjOk X.prog X.w H s.heap a (.lst xs)from I.hok a _ ea);show NA QE I.kIn ⟨_,h1,rfl⟩ e (λz=>nomatch z) h
 |@frz a ob xs ea=>
  cases(show u=Ms a from rx)
  let⟨_,_,_,n,_,h1⟩:=(show ObjOk X.prog X.w H s.heap a (.frz ob (.lst xs))from I.hok a _ ea);show NA QE I.kIn ⟨_,h1,rfl⟩ e (λz=>nomatch z) h
 |@tup a xs ea=>
  cases(show u=Ms a from rx)
  let⟨_,_,p,_⟩:=I.tuple ea;let⟨o,h1,h2,_⟩:=p;show NA UB I.kIn ⟨o,h1,h2⟩ e (λz=>nomatch z) h
 |@dK a kvs ea=>
  cases(show u=Ms a from rx)
  let⟨_,_,vs,_,p⟩:=(show ObjOk X.prog X.w H s.heap a (.dK kvs)from I.hok a _ ea);let⟨o,es,ep,h1,h2,_⟩:=p;show NA QF I.kIn ⟨o,h1,h2.1⟩ e (λz=>nomatch z) h
 |@dT a kvs ea=>
  cases(show u=Ms a from rx)
  let⟨_,_,xs,_,o,es,ep,h1,h2,_⟩:=(show ObjOk X.prog X.w H s.heap a (.dT kvs)from I.hok a _ ea);show NA QF I.kIn ⟨o,h1,h2.1⟩ e (λz=>nomatch z) h
 |@ins a C dx fs ea cl ha hn htk hm=>
  cases(show u=Ms a from rx)
  let⟨mA,O,_⟩:=Bt I.hok ea;let⟨od,J,_⟩:=O.look;show NA (PySem.W.kitx_own (cl.get _) cl.hd ha hn htk hm) I.kIn J e (λz=>nomatch z) h
end
end
variable{ps:List Str}
section
structure Room(k:Nat)(A:Mq):Prop where
 hd:A.handled=Y
 dp:A.depth+3*k+5<recursionLimit
 un:A.units+16*k+200<NW
def Room.deeper{k:Nat}(r:Room (k+1) A)(env:Env):Room k (A.deeper env):=⟨r.hd,by let:=r.dp;change A.depth+1+3*k+5<_;lia,by let:=r.un;change A.units+3+16*k+200<_;lia⟩
def Room.depth{k:Nat}(r:Room k A):A.depth<recursionLimit:=by let:=r.dp;lia
def Room.units{k:Nat}(r:Room k A):A.units+64<NW:=by let:=r.un;lia
abbrev DR:TA:=λ_ H Q=>Q [] H
abbrev AT(ta:TE)(tr:TA):TA:=λσ H Q=>ta σ H λx H1=>tr σ H1 λxs H2=>Q (x::xs) H2
section
variable{X:Cx}{e:Expr}{es:List Expr}{te:TE}{t:TA}{pos:Pos}
def jS:PA X [] DR:=λ_ _ _ _ H Q I h=>UT ⟨[],H,I,.nil,h⟩
def db(q:PE X e te)(hr:PA X es t)(hs:LV (e::es) X.env=(WY,eval e X.env)::LV es X.env:=by rfl):PA X (e::es) (AT te t):=by intro pos pins s σ H Q I h;rw[hs];change LD _ _ (spliced ((WY,eval e X.env)::Po pos (LV es X.env))) _ _ s;calc RQ (thn (q pins s σ H _ I h) λu s1 j=>?_);let⟨x,H1,z,B,F⟩:=j;show thn (hr pos pins s1 σ H1 _ z F) λus s2 j=>(by let⟨xs,H2,G,J,L⟩:=j;show⟨x::xs,H2,G,.cons B J,L⟩)
abbrev GB(t:TA):TE:=λσ H Q=>t σ H λxs H1=>xs.length<=Ls/\∀p,H1 p=Y->Q (.ref p) (upd H1 p (.tup xs))
abbrev GC(t:TA):TE:=λσ H Q=>t σ H λxs H1=>xs.length<=Ls/\∀p,H1 p=Y->Q (.ref p) (upd H1 p (.lst xs))
def vY{B}(h:PA X es t):PE X (.Tuple es B pos) (GB t):=by
 intro pins s σ H Q I hq;refine wpAny_Tuple_spliced (thn (h pos pins s σ H _ I hq) λus s1 ⟨xs,H1,j,r,z,q⟩=>⟨by rw[<-r.length];show z,?_⟩)
 let hf:H1 s1.heap.objs.size=Y:=j.hok.fresh (Lz _);calc⟨.ref s1.heap.objs.size,upd H1 s1.heap.objs.size (.tup xs),j.laid (t':=s1.toks) (λb u e=>h7 _ e) (Lz _) ?_,rfl,q _ hf⟩;show⟨z,us,r,⟨_,Lu _ rfl,rfl,_,rfl⟩⟩
def DS(h:PA X es t):PE X (.List es pos) (GC t):=by
 intro pins s σ H Q I hq;refine wpAny_List_spliced (thn (h pos pins s σ H _ I hq) λus s1 ⟨xs,H1,j,r,z,q⟩=>⟨by rw[<-r.length];show z,?_⟩)
 let hf:H1 s1.heap.objs.size=Y:=j.hok.fresh (Lz _);calc⟨.ref s1.heap.objs.size,upd H1 s1.heap.objs.size (.lst xs),j.laid (t':=s1.toks) (λb u e=>h7 _ e) (Lz _) ?_,rfl,q _ hf⟩;show⟨z,us,0,r,Lu _ rfl⟩
end
noncomputable abbrev Sp:=List V->Hp->VK->XK->Prop
noncomputable abbrev CXT:=List Env->Hp->tv->XK->gV->tv->Prop
structure tZ(P:LR)(w:Mn)(K:Frag)(mg:Str->Option gV)(base:Heap)(A:Mq)(outer:List Env)(s:tv)(H:Hp):Prop where
 frames:A.frames=S outer
 mod:Mod K mg base
 bs:∀b o,base.get? b=S o->s.heap.get? b=S o/\H b=Y
 bsz:base.objs.size<=s.heap.objs.size
 funs:s.heap.FunFrames base outer
 frf:∀b∈frs outer,H b=Y
 hok:HOk P w H s.heap
 bare:Sn s.gens
abbrev CE(outer:List Env)(P:LR)(w:Mn)(H:Hp)(s:tv)(Q:VK)(u:gV)(s':tv):Prop:=∃v H',s'.os=s.os/\Sn s'.gens/\Un (frs outer) [] H H' s.heap s'.heap/\HOk P w H' s'.heap/\RelV v u/\Q v H'
abbrev CR(CX:CXT)(outer:List Env)(P:LR)(w:Mn)(H:Hp)(s:tv)(Q:VK)(E:XK)(r:Vn)(s':tv):Prop:=
 match r with
 |.ok (.ret u)=>CE outer P w H s Q u s'
 |.ok _=>False
 |.error e=>CX outer H s E e s'
structure eB(P:LR)(w:Mn)(K:Frag)(mg:Str->Option gV)(base:Heap)(CX:CXT)(k:Nat)(f:WZ)(fd:PX)(ps:List Str)(sp:Sp):Prop where
 len:∀vs H Q E,sp vs H Q E->vs.length=ps.length
 run:∀(A:Mq) (outer:List Env) (s:tv) (H:Hp) (args:Args) (us:List gV) (vs:List V) (Q:VK) (E:XK),Room k A->tZ P w K mg base A outer s H->UU s fd args (ps.zip us)->Vals vs us->sp vs H Q E->
  Q6 (model P w) A (.call (.ref f) args) (CR CX outer P w H s Q E) s
section
variable{X:Cx}{pins:List (WZ×Obj)}{σ:St}{H:Hp}{s s':tv}
def Inv.env0(I:Inv X pins σ H s):tZ X.prog X.w X.K X.mg X.base X.A X.stack s H:=⟨I.ok.frames,I.ok.mod,I.bs,MR I.ok.bsz I.sz,I.stack,I.stkFree,I.hok,I.bare⟩
def Inv.after{Q:VK}(I:Inv X pins σ H s)(h:CE X.stack X.prog X.w H s Q u s'):EP X pins σ Q u s':=by let⟨v,H',os,bare,un,hok,r,q⟩:=h;let⟨j,g,d,t,os'⟩:=s';obtain rfl:os'=s.os:=os;show⟨v,H',I.call (h':=j) (g':=g) (d':=d) (t':=t) (ch:=[]) un hok bare (λb z=>absurd z (_)),r,q⟩
end
abbrev AU(sp:Sp)(dvs:List V)(E:XK)(t:TA):TE:=λσ H Q=>t σ H λvs H1=>sp (vs++dvs) H1 Q E
abbrev Binds(K:Frag)(fd:PX)(ps:List Str)(ds:List gV):Prop:=∀(s:tv) (us:List gV),K.In s.heap->(us++ds).length=ps.length->UU s fd ⟨us,[]⟩ (ps.zip (us++ds))
def Binds.all{fd:PX}(h:∀us:List gV,us.length=ps.length->bindArgs fd ⟨us,[]⟩=pure (ps.zip us)):Binds K fd ps []:=λs us _ j=>by rw[MN]at j⊢;show .of_eq (h us j)
abbrev jT(CX:CXT)(X:Cx)(E:XK):Prop:=∀(pins:List (WZ×Obj)) (σ:St) (H:Hp) (s:tv) (e:gV) (s':tv),Inv X pins σ H s->CX X.stack H s E e s'->X.xe e s'
section
variable{X:Cx}{CX:CXT}{k:Nat}{f C:WZ}{fd:PX}{ps:List Str}{sp:Sp}{dvs:List V}{ds:List gV}{E:XK}{x m:Str}{p pos apos:Pos}{e o:Expr}{es:List Expr}{ta:TE}{t:TA}
def vZ{Q:VK}{vs:List V}(F:eB X.prog X.w X.K X.mg X.base CX k f fd ps sp)(hr:Room k X.A)(z:Binds X.K fd ps ds)(hd:Vals dvs ds)(hx:jT CX X E)(I:Inv X pins σ H s)(r:Vals vs us)(h:sp (vs++dvs) H Q E):LD (model X.prog X.w) X.A (call (.ref f) us) (EP X pins σ Q) X.xe s:=by
 let q:Vals (vs++dvs) (us++ds):=r.append hd;let B:(us++ds).length=ps.length:=by rw[<-q.length];show F.len _ _ _ _ h
 refine W7 (QG (F.run X.A X.stack s H ⟨us,[]⟩ (us++ds) (vs++dvs) Q E hr I.env0 (z s us I.kIn B) q h) λr s' j=>?_)
 cases r with
 |error e=>show hx pins σ H s e s' I j
 |ok fl=>
  cases fl with
  |ret u=>show I.after j
  |next=>show False.elim j
  |brk=>show False.elim j
  |cont=>show False.elim j
def Bu(F:eB X.prog X.w X.K X.mg X.base CX k f fd ps sp)(hr:Room k X.A)(G:Gl X x)(hm:X.mg x=S (.ref f))(J:PY X.K (.ref f)=WX)(L:Binds X.K fd ps ds)(hd:Vals dvs ds)(hx:jT CX X E)(O:PA X (e::es) t)(j:(x==("__debug__":Str))=WY:=by decide)(he:LV (e::es) X.env=(WY,eval e X.env)::LV es X.env:=by rfl)(z:(Po pos (LV es X.env)).any (·.1)=WY:=by rfl):
 PE X (.Call (.Name x p) (e::es) [] pos) (AU sp dvs E t):=by
 intro pins s σ H Q I h;calc Pp (sf I G hm ?_ j);calc PySem.W.callWith_K (h₀:=X.base) I.ok.mod.kin J (thn (O pos pins s σ H _ I h) λus s1 ⟨vs,H1,B,r,q⟩=>⟨B.kIn,?_⟩) he z;show vZ F hr L hd hx B r q
def yR(F:eB X.prog X.w X.K X.mg X.base CX k f fd ps sp)(hr:Room k X.A)(q:Gl X x)(hm:X.mg x=S (.ref f))(z:PY X.K (.ref f)=WX)(B:Binds X.K fd ps ds)(hd:Vals dvs ds)(hx:jT CX X E)(j:(x==("__debug__":Str))=WY:=by decide):PE X (.Call (.Name x p) [] [] pos) (AU sp dvs E DR):=by intro pins s σ H Q I h;calc Pp (sf I q hm ?_ j);show PySem.W.callWith_K0 I.kIn z (vZ (us:=[]) F hr B hd hx I .nil h)
end
structure ie(N P:List Str)(sc:Scope):Prop where
 kind:sc.kind=.function
 co:sc.isCoroutine=WY
 gen:sc.isGenerator=WY
 nd:N.Nodup
 pre:N.take P.length=P
 par:∀x∈P,sc.names.lookup x=S .local∨sc.names.lookup x=S .cell
 nofree:∀y∈sc.names,y.2≠.free
def mv{NJ:Str->Option Ph}{x:Str}:∀{binds:List (Str×gV)} {m:Str->Option gV},(∀v,(x,v)∉binds)->W8 NJ binds m x=m x
 |[],_,_=>rfl
 |(n,v)::r,m,h=>by
  unfold W8;rw[mv λw hw=>h w (Mf _ hw)]
  split
  ·let:x≠n:=by rintro rfl;show h v Nk
   simp[this]
  ·rfl
def mC{NJ:Str->Option Ph}{x:Str}:∀{binds:List (Str×gV)} {m:Str->Option gV},(∀v,(x,v)∉binds)->W9 NJ binds m x=m x
 |[],_,_=>rfl
 |(n,v)::r,m,h=>by
  unfold W9;rw[mC λw hw=>h w (Mf _ hw)]
  split
  ·rfl
  ·let:x≠n:=by rintro rfl;show h v Nk
   simp[this]
def mD{NJ:Str->Option Ph}{x:Str}{v:gV}:∀{P:List Str} {vs:List gV} {i:Nat} {m:Str->Option gV},P.Nodup->P[i]?=S x->vs[i]?=S v->NJ x=S .local->
 W8 NJ (P.zip vs) m x=S v
 |[],_,_,_,_,h,_,_=>by simp at h
 |_::_,[],_,_,_,_,h,_=>by simp at h
 |p::P,w::vs,0,m,nd,h1,h2,j=>by simp at h1 h2;subst h1;subst h2;change W8 NJ ((p,w)::P.zip vs) m p=_;unfold W8;rw[mv λv q=>(Ov.mp nd).1 (To q).1,if_pos j];simp
 |p::P,w::vs,i+1,m,nd,h1,h2,j=>by change W8 NJ ((p,w)::P.zip vs) m x=_;unfold W8;show mD (i:=i) (Ov.mp nd).2 (by simpa using h1) (by simpa using h2) j
def mF{NJ:Str->Option Ph}{x:Str}{v:gV}:∀{P:List Str} {vs:List gV} {i:Nat} {m:Str->Option gV},P.Nodup->P[i]?=S x->vs[i]?=S v->NJ x≠S .local->
 W9 NJ (P.zip vs) m x=S v
 |[],_,_,_,_,h,_,_=>by simp at h
 |_::_,[],_,_,_,_,h,_=>by simp at h
 |p::P,w::vs,0,m,nd,h1,h2,j=>by simp at h1 h2;subst h1;subst h2;change W9 NJ ((p,w)::P.zip vs) m p=_;unfold W9;rw[mC λv q=>(Ov.mp nd).1 (To q).1,if_neg j];simp
 |p::P,w::vs,i+1,m,nd,h1,h2,j=>by change W9 NJ ((p,w)::P.zip vs) m x=_;unfold W9;show mF (i:=i) (Ov.mp nd).2 (by simpa using h1) (by simpa using h2) j
abbrev dq(N:List Str)(vs:List V):St:=vs.map S++LQ (N.length-vs.length) Y
abbrev jd(CX:CXT)(P:LR)(w:Mn)(K:Frag)(mg:Str->Option gV)(base:Heap)(N:List Str)(qual:Str)(scope:Scope)(f:WZ)(cd:gV)(A:Mq)(outer:List Env)(s:tv)(H:Hp)(E:XK):Cx where
 prog:=P
 w:=w
 K:=K
 mg:=mg
 base:=base
 A:=A.deeper (TK qual scope s.heap.objs.size f cd)
 N:=N
 s₀:=s
 H₀:=H
 env:=TK qual scope s.heap.objs.size f cd
 outer:=outer
 stack:=TK qual scope s.heap.objs.size f cd::outer
 ex:=[]
 calm:=WX
 fn:=λ_=>WX
 pn:=[]
 xe:=λe s'=>LD (model P w) (A.deeper (TK qual scope s.heap.objs.size f cd)) (leaving (TK qual scope s.heap.objs.size f cd) e) (λ_ s''=>CX outer H s E e s'') (λe' s''=>CX outer H s E e' s'') s'
def oO{sc:Scope}{n:Nat}(h:sc.names.lookup x=S .cell):∃c,(Oo n sc.names []).lookup x=S c:=by let q:=QH sc.names n [] (.inl h);show P4.mp q
def w6{CX:CXT}{mg:Str->Option gV}{base:Heap}{qual:Str}{scope:Scope}{f:WZ}{cd:gV}{outer:List Env}{s1:tv}{E:XK}{vs:List V}(F2:ie N ps scope)(hd:A.handled=Y)(e0:tZ P w K mg base A outer s H)(O:vs.length=ps.length)(r:Vals vs us)(x:InCallC s s.heap.objs.size (W8 (TK qual scope s.heap.objs.size f cd).kindOf (ps.zip us) λ_=>Y) (Oo (s.heap.objs.size+1) scope.names []) (W9 (TK qual scope s.heap.objs.size f cd).kindOf (ps.zip us) λ_=>Y) s1):
 Inv (jd CX P w K mg base N qual scope f cd A outer s H E) [] (dq N vs) H s1:=by
 let J:ps.length<=N.length:=by let:=congrArg OE F2.pre;rw[LS]at this;lia
 let⟨h1,tk,rfl,F⟩:=x.done;let noA:∀b:WZ,b∉(jd CX P w K mg base N qual scope f cd A outer s H E).ex:=λb z=>absurd (show b∈([]:List WZ)from z) (_)
 refine⟨⟨e0.mod,F2.kind,rfl,rfl,Lz _,λy z c h1 h2=>?_,λy j=>?_,λy c _ h=>?_,λ_=>hd,Around.frames_deeper e0.frames,.inr ⟨rfl,rfl⟩,λb z=>absurd z (noA b),e0.bs,e0.bsz,λb _ _=>noA b,λb z=>absurd z (noA b),e0.funs,e0.frf⟩,
  rfl,e0.bare,Un.kept F,⟨_,x.toInCall.ns,λi y v h1 h2 U=>?_⟩,λy c h=>⟨_,x.cell y c h⟩,e0.hok.fresh (Lz _),λy c h=>?_,λp B=>absurd (show p∈([]:List (WZ×Obj))from B) (_),e0.hok.kept F,?_⟩
 ·show name_of_addr x.apart (NL h1) (NL h2)
 ·let j:scope.names.lookup y=S .cell∨scope.names.lookup y=S .free:=j
  rcases j with j|j
  ·show oO j
  ·show absurd rfl (F2.nofree _ (NL j))
 ·show Q5 (x.above y c (NL h))
 ·let hi:i<vs.length:=by
   unfold dq at h2
   by_cases hi:i<vs.length
   ·show hi
   ·rw[Lo (by simpa using hi)]at h2
    rw[SJ]at h2
    split at h2<;>cases h2
  let L:vs[i]?=S v:=by
   unfold dq at h2;rw[LC (by simpa using hi),Ly]at h2
   cases e:vs[i]? with
   |none=>rw[e]at h2;cases h2
   |some a=>rw[e]at h2;cases h2;rfl
  let⟨u,G,rv⟩:=r.get L;let B:ps[i]?=S y:=by rw[<-F2.pre,Qe ∅];show h1
  let ndP:ps.Nodup:=by rw[<-F2.pre];show F2.nd.sublist (List.take_sublist _ _)
  refine⟨u,rv,?_⟩
  rcases F2.par y (LJ B)with k|k
  ·show .inl ⟨k,mD ndP B G k⟩
  ·let⟨c,e⟩:=oO (n:=s.heap.objs.size+1) k;calc .inr ⟨.inl k,c,e,?_⟩;let q:=x.cell y c e;rw[mF ndP B G (by change scope.names.lookup y≠_;rw[k];decide)]at q
   show q
 ·show e0.hok.fresh (Q5 (x.above y c (NL h)))
 ·unfold dq;change _=N.length;rw[I7,s9,List.length_replicate];lia
def Fp {CX:CXT}{mg:Str->Option gV}{base:Heap}{k:Nat}{f:WZ}{name qual:Str}{params:Arguments}{scope:Scope}{dV kV doc pm cdv ct oc:gV}{an od:Option WZ}{osl:Array (Option gV)}{sp:Sp}(lk:K.lookup f=S ⟨oc,od,.func (Pq name qual params body scope dV kV doc pm an cdv ct),osl⟩)(F:RT K cdv qual=WX)(F2:ie N ps scope)(len:∀vs H Q E,sp vs H Q E->vs.length=ps.length)(j:∀(A:Mq) (outer:List Env) (s:tv) (H:Hp) (vs:List V) (Q:VK) (E:XK),Room k (A.deeper (TK qual scope s.heap.objs.size f cdv))->sp vs H Q E->
   ∃t,PSs (jd CX P w K mg base N qual scope f cdv A outer s H E) body t/\t {nx:=λ_ H'=>Q .non H',rt:=Q} (dq N vs) H):
 eB P w K mg base CX (k+1) f (Pq name qual params body scope dV kV doc pm an cdv ct) ps sp:=by
 calc⟨len,λA outer s H args us vs Q E hr e0 G r B=>?_⟩;let L:=len _ _ _ _ B;let KX:K.In s.heap:=e0.mod.kin.keeps λb o e=>(e0.bs b o e).1;let lim:s.heap.NoLimit:=e0.mod.nolimit.keeps λb o e=>(e0.bs b o e).1;let z:∀y∈ps.zip us,scope.names.lookup y.1=S .local∨(scope.names.lookup y.1=S .cell/\((Oo (s.heap.objs.size+1) scope.names []).lookup y.1).isSome=WX):=λ⟨n,v⟩ hy=>by
  rcases F2.par n (To hy).1 with q|q
  ·show .inl q
  ·show .inr ⟨q,QH _ _ _ (.inl q)⟩
 calc codeAny_call_function hr.depth (KX _ _ lk) rfl F2.co F2.gen rfl (PySem.W.codeRec_of KX F) (G _ _ _ _ ?_);calc wpAny_newFunctionEnv_cells F2.kind z λenv he s1 x=>?_;subst he;calc⟨lim.keeps x.toInCall.keep,codeAny_func ?_⟩;let⟨t,ht,O⟩:=j A outer s H vs Q E (hr.deeper _) B;let I:Inv (jd CX P w K mg base N qual scope f cdv A outer s H E) [] (dq N vs) H s1:=w6 F2 hr.hd e0 L r x;calc NH (ht [] s1 (dq N vs) H _ I O) (λfl s' hs=>?_) λe s' hs=>hs;let fin:∀{σ':St} {H':Hp} {v:V} {u:gV},Inv (jd CX P w K mg base N qual scope f cdv A outer s H E) [] σ' H' s'->RelV v u->Q v H'->CE outer P w H s Q u s':=λ{σ' H' v u} J rv q=>⟨v,H',J.os,J.bare,J.base,J.hok,rv,q⟩
 cases fl with
 |ret u=>let⟨v,σ',H',J,rv,q⟩:=hs;show fin J rv q
 |next=>let⟨σ',H',J,q⟩:=hs;show fin (v:=V.non) (u:=Ou) J rfl q
 |brk=>let⟨_,_,_,q⟩:=hs;show False.elim q
 |cont=>let⟨_,_,_,q⟩:=hs;show False.elim q
end
section
section
variable{X:Cx}{x:Str}{p pos:Pos}{e:Expr}{es:List Expr}{t:TA}{id T:String}{r:List V->Hp->VK->Prop}
abbrev tCB(r:List V->Hp->VK->Prop)(t:TA):TE:=λσ H Q=>t σ H λvs H1=>r vs H1 Q
def bK(z:CallR X (.builtin id) r)(B:Gl X x)(hm:X.mg x=Y)(F:OA x=S (.builtin id))(G:PA X (e::es) t)(J:x≠"__name__":=by decide)(j:(x==("__debug__":Str))=WY:=by decide)(he:LV (e::es) X.env=(WY,eval e X.env)::LV es X.env:=by rfl)(q:(Po pos (LV es X.env)).any (·.1)=WY:=by rfl):PE X (.Call (.Name x p) (e::es) [] pos) (tCB r t):=by intro pins s σ H Q I h;calc Pp (dv I B hm F ?_ J j);show PyProof.Rows.callWith_builtin1 (thn (G pos pins s σ H _ I h) λus s1 L=>(by let⟨vs,H1,O,U,F3⟩:=L;show z pins s1 σ H1 vs us Q O U F3)) he q
def gD(z:CallR X (.type T) r)(B:Gl X x)(hm:X.mg x=Y)(F:OA x=S (.type T))(G:PA X (e::es) t)(J:x≠"__name__":=by decide)(j:(x==("__debug__":Str))=WY:=by decide)(he:LV (e::es) X.env=(WY,eval e X.env)::LV es X.env:=by rfl)(q:(Po pos (LV es X.env)).any (·.1)=WY:=by rfl):PE X (.Call (.Name x p) (e::es) [] pos) (tCB r t):=by intro pins s σ H Q I h;calc Pp (dv I B hm F ?_ J j);show O1 (thn (G pos pins s σ H _ I h) λus s1 L=>(by let⟨vs,H1,O,U,F3⟩:=L;show z pins s1 σ H1 vs us Q O U F3)) he q
end
end
end L2
namespace HT
open PySem PyProof.Rows
abbrev lexLt:List Int->List Int->Bool
 |[],[]=>WY
 |[],_::_=>WX
 |_::_,[]=>WY
 |x::xs,y::ys=>if x=y then lexLt xs ys else decide (x<y)
def lexLt_cons(x y:Int)(xs ys:List Int):lexLt (x::xs) (y::ys)=if x=y then lexLt xs ys else decide (x<y):=rfl
def nI:lexLt [] []=WY:=rfl
def kW(y:Int)(ys:List Int):lexLt [] (y::ys)=WX:=rfl
def kX(x:Int)(xs:List Int):lexLt (x::xs) []=WY:=rfl
def yS(A:Mq)(s:tv)(a:Int)(t:Tok)(c:Int)(u:Tok):∃e,Wa A s (.int a t) (.int c u) e/\(e=WX↔a=c):=⟨(a==c),UC a t c u,by simp⟩
def yT(A:Mq)(s:tv)(a:Int)(t:Tok)(c:Int)(u:Tok)(prog:LR)(w:Mn)(E Q:gV->tv->Prop)(h:Q (.bool (decide (a<c))) s):
 LD (model prog w) A (Ri .Lt (.int a t) (.int c u)) Q E s:=
 (PyProof.Rows.lt_int h:LD (model prog w) A (Mu .Lt (.int a t) (.int c u)) Q E s)
section
open PySem.SeqAt
open PySem.AutoSeq1 (wpAny_loadPart')
open PySem.MeetsSeq PySem.MeetsSeq2 PySem.MeetsSeq3
def nJ(l b:WZ)(items j:Array gV)(n n2:Nat)(dd Z:Option WZ)(sl Ja:Array (Option gV))(ns ms:List Int)(hi:Qq items.toList ns)(hj:Qq j.toList ms):
 Meets (O7.«tuple.__lt__» ⟨[.ref l,.ref b],[]⟩)
  (fun _ R s=>s.heap.get? l=S {cls:=.type "tuple",dict:=dd,data:=.seq items n,slots:=sl}/\s.heap.get? b=S {cls:=.type "tuple",dict:=Z,data:=.seq j n2,slots:=Ja} /\
    R (.ok (.ret (.bool (lexLt ns ms)))) s):=
 .of_wp λprog w A R s h=>by
  let⟨F3,g,d,tk,os⟩:=s;let⟨hl,hb,h⟩:=h;let f2:=AutoSeq1.sub_tuple_tuple;let z1:items.size=ns.length:=by rw[<-hi.length];simp
  let z2:j.size=ms.length:=by rw[<-hj.length];simp
  wp_walk using Ow hl,Ow hb,QY _ (λrest b s'=>b.1=Y/\s'=⟨F3,g,d,tk,os⟩/\∃(vs ws:List gV) (ns' ms':List Int),rest=vs.zip ws /\
   Qq vs ns'/\Qq ws ms'/\ns'.length+j.size=ms'.length+items.size/\R (.ok (.ret (.bool (lexLt ns' ms')))) ⟨F3,g,d,tk,os⟩) _
  case turn=>
   rintro⟨y,x⟩ rest b s' ⟨G,rfl,vs,ws,ns',ms',hz,J,z,hlen,B⟩
   cases J with
   |nil=>rw[List.zip_nil_left]at hz;cases hz
   |cons a t O=>
    cases z with
    |nil=>rw[List.zip_nil_right]at hz;cases hz
    |cons c u U=>
     rw[RU]at hz
     injection hz with hyx L
     injection hyx with hy hx
     subst hy hx;rw[lexLt_cons]at B;simp only[My]at hlen;let⟨e,he,F⟩:=yS A.in1 ⟨F3,g,d,tk,os⟩ a t c u;refine b3 (he prog w _ _ ?_)
     cases e with
     |true=>
      rw[if_pos (F.mp rfl)]at B
      wp_walk
      show⟨rfl,rfl,_,_,_,_,L,O,U,∅,B⟩
     |false=>
      rw[if_neg (λq=>absurd (F.mpr q) Lq)]at B;let Jb:=yT A.in1 ⟨F3,g,d,tk,os⟩ a t c u prog w
      wp_walk using Jb
      show⟨_,rfl,by simpa using B⟩
  case fin=>
   rintro⟨b1,b2⟩ s' ⟨G,rfl,vs,ws,ns',ms',hz,J,z,hlen,B⟩;simp only at G;subst G;let hv:lexLt ns' ms'=decide (items.size<j.size):=by
    cases J with
    |nil=>
     cases z with
     |nil=>simp only[Nm]at hlen;rw[nI];show(decide_eq_false ∅).symm
     |cons c u hw=>simp only[Nm,My]at hlen;rw[kW];show(decide_eq_true ∅).symm
    |cons a t hv=>
     cases z with
     |nil=>simp only[Nm,My]at hlen;rw[kX];show(decide_eq_false ∅).symm
     |cons c u hw=>
      rw[RU]at hz
      cases hz
   rw[hv]at B
   wp_walk
   show⟨_,rfl,by simpa[Pc]using B⟩
  case h=>show⟨rfl,rfl,items.toList,j.toList,ns,ms,rfl,hi,hj,∅,h⟩
end
section
variable{prog:LR}{w:Mn}{A:Mq}{E:gV->tv->Prop}{s:tv}
def lt_tupInts{l b:WZ}{items j:Array gV}{ns ms:List Int}{Q:gV->tv->Prop}(O:VJ s.heap l items)(U:VJ s.heap b j)(hi:Qq items.toList ns)(F3:Qq j.toList ms)(Z:A.units<NW)(h:Q (.bool (lexLt ns ms)) s):LD (model prog w) A (Mu .Lt (.ref l) (.ref b)) Q E s:=by
 let⟨⟨cls,dd,data,sl⟩,ho,J,n,hd⟩:=id O;let⟨⟨L,B,data2,G⟩,q,z,n2,hd2⟩:=id U;simp only at J hd z hd2;subst J hd z hd2;show richCompare_meets_room (op:=.Lt) ⟨_,ho,rfl⟩ ⟨_,q,rfl⟩ PySem.F.slot_tuple_lt PySem.F.entry_tuple_lt (PySem.F.args_tuple_lt_2 _ _) (nJ l b items j n n2 dd B sl G ns ms hi F3)
  ⟨ho,q,show RJ (lexLt ns ms)≠TL/\Q (.bool (lexLt ns ms)) s from⟨(λx=>nomatch x),h⟩⟩ Z
def cat_tup{t b:WZ}{vs ws:List gV}{Q:gV->tv->Prop}(ht:VJ s.heap t vs.toArray)(U:VJ s.heap b ws.toArray)(G:vs≠[])(h1:ws=[]->Q (.ref t) s)(h2:ws≠[]->Q (.ref s.heap.objs.size) {s with heap:=s.heap.push {cls:=.type "tuple",data:=.seq (vs++ws).toArray}})(hsz:vs.length+ws.length<=Ls):LD (model prog w) A (NQ .Add (.ref t) (.ref b)) Q E s:=by
 let⟨⟨cls,dd,data,sl⟩,ho,J,n,hd⟩:=id ht;let⟨⟨L,q,data2,z⟩,j,B,O,hd2⟩:=id U;simp only at J hd B hd2;subst J hd B hd2;let e:vs.toArray++ws.toArray=(vs++ws).toArray:=by simp
 by_cases hw:ws=[]
 ·show UW ⟨_,ho,rfl⟩ ⟨_,j,rfl⟩ SK Ul QI Qz (Qf _ _)
   (tuple_addW1 t b vs.toArray ws.toArray n O dd q sl z (by simpa using G) (by simp[hw])) ⟨ho,j,h1 hw⟩
 ·refine UW ⟨_,ho,rfl⟩ ⟨_,j,rfl⟩ SK Ul QI Qz (Qf _ _)
   (tuple_addW2 t b vs.toArray ws.toArray n O dd q sl z (by simpa using G) (by simpa using hw) (by rw[LA,LA];show hsz)) ⟨ho,j,?_⟩
  rw[e];show h2 hw
abbrev sIx(n d:Nat):Option Int->Nat
 |none=>d
 |some v=>if v<0 then(v+(n:Int)).toNat else min v.toNat n
def sIx_none(n d:Nat):sIx n d Y=d:=rfl
def sIx_nat(n d k:Nat):sIx n d (S (k:Int))=min k n:=by
 change(if(k:Int)<0 then((k:Int)+(n:Int)).toNat else min (k:Int).toNat n)=min k n
 rw[if_neg ∅,LU]
def DT(n d:Nat)(hd:d<=n)(o:Option Int):sIx n d o<=n:=by
 cases o with
 |none=>show hd
 |some v=>
  change(if v<0 then(v+(n:Int)).toNat else min v.toNat n)<=n
  by_cases hv:v<0
  ·rw[if_pos hv];lia
  ·rw[if_neg hv];show Nat.min_le_right _ _
def so(v:Int)(n d:Nat):(if v<0 then max (v+(n:Int)) 0 else min v (n:Int))=((sIx n d (S v):Nat):Int):=by
 change(if v<0 then max (v+(n:Int)) 0 else min v (n:Int))=(((if v<0 then(v+(n:Int)).toNat else min v.toNat n):Nat):Int)
 by_cases hv:v<0
 ·simp only[if_pos hv];lia
 ·simp only[if_neg hv];lia
def u4(lo hi:Option Int)(n:Nat):Q9 lo hi 1 (n:Int)=(((sIx n 0 lo:Nat):Int),((sIx n n hi:Nat):Int)):=by
 let h1:¬((1:Int)<0):=∅
 unfold Q9;simp only[h1,if_false];refine Prod.ext ?_ ?_
 ·cases lo with
  |none=>rfl
  |some v=>show so v n 0
 ·cases hi with
  |none=>rfl
  |some v=>show so v n n
def u5(i j:Nat):OP (i:Int) (j:Int) 1=j-i:=by
 unfold OP;let h1:(1:Int) > 0:=∅
 simp only[h1,if_true,Int.ediv_one]
 split<;>lia
def jU{v:gV}{o:Option Int}{Q:Option Int->tv->Prop}(p:T8 v o)(h:Q o s):LD (model prog w) A (Builtin.Slice.slicePartIndex v) Q E s:=by
 cases p with
 |none=>show slicePart_none h
 |int i t=>show slicePart_int h
def eC{sl:WZ}{vl vu:gV}{lo hi:Option Int}{n:Nat}{Q:Int×Int×Nat->tv->Prop}(hs:s.heap.IsSliceOf sl vl vu .none)(pl:T8 vl lo)(pu:T8 vu hi)(h:Q (((sIx n 0 lo:Nat):Int),1,sIx n n hi-sIx n 0 lo) s):LD (model prog w) A (RV (.ref sl) (pure (n:Int))) Q E s:=by
 let⟨os,j,z,q⟩:=id hs;unfold RV Builtin.Slice.sliceFields;calc b3 (b3 (MB j q (x:=vl) rfl (b3 (MB j q (x:=vu) rfl (b3 (MB j q (x:=.none) rfl (D2 ?_)))))));calc b3 (slicePart_none ?_);change LD _ _ (if((1:Int)==0)=WX then _ else _) _ _ s
 rw[if_neg (·)]
 calc b3 (jU pl (b3 (jU pu (b3 (D2 ?_)))));change LD _ _ (match Q9 lo hi 1 (n:Int)with|(lo,hi)=>pure (lo,(1:Int),OP lo hi 1)) _ _ s
 rw[u4 lo hi n];change LD _ _ (pure (((sIx n 0 lo:Nat):Int),(1:Int),OP ((sIx n 0 lo:Nat):Int) ((sIx n n hi:Nat):Int) 1)) _ _ s;rw[u5];show D2 h
def yU(xs:Array gV)(i k:Nat):((LO k).filterMap λ(m:Nat)=>xs[((i:Int)+(m:Int)*1).toNat]?).toArray=((xs.toList.drop i).take k).toArray:=by
 let e:(λ(m:Nat)=>xs[((i:Int)+(m:Int)*1).toNat]?)=λm=>xs[i+m]?:=by
  funext m
  let:((i:Int)+(m:Int)*1).toNat=i+m:=∅
  rw[this]
 rw[e];let:=pick_run xs i k;rw[UD]at this;let e2:((λx=>xs[x]?)∘λx=>i+x)=λm=>xs[i+m]?:=rfl;rw[e2]at this;rw[this]
def getItem_tuple_cut{t sl:WZ}{items:Array gV}{vl vu:gV}{lo hi:Option Int}{Q:gV->tv->Prop}(ht:VJ s.heap t items)(hs:s.heap.IsSliceOf sl vl vu .none)(pl:T8 vl lo)(pu:T8 vu hi)(hw:¬(sIx items.size 0 lo=0/\sIx items.size items.size hi=items.size))(h:Q (.ref s.heap.objs.size) {s with heap:=s.heap.push {cls:=.type "tuple",data:=.seq ((items.toList.drop (sIx items.size 0 lo)).take (sIx items.size items.size hi-sIx items.size 0 lo)).toArray}})(hsz:items.size<=Ls):LD (model prog w) A (Sr (.ref t) (.ref sl)) Q E s:=by
 let j:sizeOk (.seq ((items.toList.drop (sIx items.size 0 lo)).take (sIx items.size items.size hi-sIx items.size 0 lo)).toArray):=by change((items.toList.drop (sIx items.size 0 lo)).take (sIx items.size items.size hi-sIx items.size 0 lo)).toArray.size<=Ls;rw[LA,LS,NX,LX];lia
 let L:sIx items.size items.size hi<=items.size:=DT _ _ (Lz _) hi;let⟨os,z,B,J⟩:=id hs;let F:s.TypeIs (.ref sl) "slice":=⟨os,z,B⟩;unfold Sr
 try with_reducible refine Np ?_
 first|refine b3 (D2 ?_)|skip
 refine b3 (UX ht.typeIs (·) ?_)
 refine b3 (Mo (name:=MU "__getitem__") ht.typeIs Od
  (Mc Od ht.typeIs Ud ?_ (UE _ _)))
 change LD _ _ (PZ (.ref t)>>=_) _ _ s;calc b3 (tupleItemsOf_ ht ?_);calc b3 (Ry F ?_);rw[if_pos (·)]
 calc b3 (eC hs pl pu ?_);let G:¬((((sIx items.size 0 lo:Nat):Int)==0&&(1:Int)==1&&(sIx items.size items.size hi-sIx items.size 0 lo)==items.size)=WX):=by intro q;rw[D0,D0]at q;let O:((sIx items.size 0 lo:Nat):Int)=0:=OR q.1.1;let U:sIx items.size items.size hi-sIx items.size 0 lo=items.size:=OR q.2;show hw ⟨∅,∅⟩
 change LD _ _ (if(((sIx items.size 0 lo:Nat):Int)==0&&(1:Int)==1&&(sIx items.size items.size hi-sIx items.size 0 lo)==items.size)=WX then _ else _) _ _ s
 rw[if_neg G,yU]
 first
  |show b3 (m:=P5 _) (N8 (D2 ⟨_,rfl,D2 h⟩) j)
  |show b3 (m:=P5 _) (N8 (b3 (D2 (D2 ⟨_,rfl,D2 h⟩))) j)
  |show b3 (b3 (m:=P5 _) (N8 (D2 (D2 ⟨_,rfl,D2 h⟩)) j))
  |show b3 (b3 (m:=P5 _) (N8 (D2 ⟨_,rfl,D2 h⟩) j))
end
end HT
namespace L2
open PySem PySem.Spec PyProof.Rows
section
noncomputable abbrev TO:=St->Hp->(Option Int->Hp->Prop)->Prop
abbrev PO(X:Cx)(e:Option Expr)(t:TO):Prop:=
 ∀(pins:List (WZ×Obj)) (s:tv) (σ:St) (H:Hp) (Q:Option Int->Hp->Prop),Inv X pins σ H s->t σ H Q->
  LD (model X.prog X.w) X.A (evalPart e X.env) (λu s'=>∃o H',Inv X pins σ H' s'/\T8 u o/\Q o H') X.xe s
abbrev Bv:TO:=λ_ H Q=>Q Y H
abbrev Fq(t:TE):TO:=λσ H Q=>t σ H λx H1=>∃i,x=.int i/\Q (S i) H1
def u6{ns:List Int}:∀{us:List gV},Vals (ns.map V.int) us->Qq us ns:=by
 induction ns with
 |nil=>intro us r;rw[Pt]at r;cases r;show .nil
 |cons n ns ih=>
  intro us r;rw[LL]at r
  cases r with
  |cons j q=>let⟨t,e⟩:=j;subst e;show .cons n t (ih q)
section
variable{X:Cx}{e:Expr}{te:TE}{lo hi:Option Expr}{tl th:TO}{pos p2:Pos}
def Bw:PO X Y Bv:=by intro pins s σ H Q I h;rw[Um];show D2 ⟨Y,H,I,.none,h⟩
def By(h:PE X e te):PO X (S e) (Fq te):=by intro pins s σ H Q I hw;rw[evalPart_some];calc thn (h pins s σ H _ I hw) λu s1 j=>?_;let⟨x,H1,z,B,F⟩:=j;let⟨i,rfl,q⟩:=F;let⟨t,rfl⟩:=B;show⟨S i,H1,z,.int i t,q⟩
abbrev SlR(X:Cx)(r:V->Option Int->Option Int->Hp->VK->Prop):Prop:=
 ∀(pins:List (WZ×Obj)) (s:tv) (σ:St) (H:Hp) (x:V) (v vl vu:gV) (lo hi:Option Int) (sl:WZ) (Q:VK),Inv X pins σ H s->RelV x v->s.heap.IsSliceOf sl vl vu .none->T8 vl lo->T8 vu hi->r x lo hi H Q->
  ∃T id,typeLookup (.type T) "__getitem__"=pure (S (.builtin id))/\s.TypeIs v T/\LD (model X.prog X.w) X.A (Sr v (.ref sl)) (EP X pins σ Q) X.xe s
def SlR.or{r r':V->Option Int->Option Int->Hp->VK->Prop}(h:SlR X r)(h':SlR X r'):SlR X (λx lo hi H Q=>r x lo hi H Q∨r' x lo hi H Q):=by
 intro pins s σ H x v vl vu lo hi sl Q I rx hs pl pu q
 rcases q with q|q
 ·show h pins s σ H x v vl vu lo hi sl Q I rx hs pl pu q
 ·show h' pins s σ H x v vl vu lo hi sl Q I rx hs pl pu q
abbrev tSl(r:V->Option Int->Option Int->Hp->VK->Prop)(te:TE)(tl th:TO):TE:=λσ H Q=>te σ H λx H1=>tl σ H1 λl H2=>th σ H2 λu H3=>r x l u H3 Q
def yV{r:V->Option Int->Option Int->Hp->VK->Prop}(hr:SlR X r)(he:PE X e te)(B:PO X lo tl)(F:PO X hi th):PE X (.Subscript e (.Slice lo hi Y p2) pos) (tSl r te tl th):=by
 intro pins s σ H Q I h;calc Wb (thn (he pins s σ H _ I h) λv s1 j=>?_);let⟨x,H1,G,J,L⟩:=j;calc wpAny_Slice (thn (B pins s1 σ H1 _ G L) λvl s2 ⟨l,H2,O,pl,U⟩=>thn (F pins s2 σ H2 _ O U) λvu s3 j=>?_);let⟨u,z,F3,pu,Z⟩:=j;rw[Um];calc D2 ?_;let I4:Inv X pins σ z {s3 with heap:=s3.heap.push {cls:=.type "slice",data:=.fields #[vl,vu,.none]}}:=F3.kept (t':=s3.toks) λb ob q=>h7 _ q
 let⟨T,id,hT,ht,hg⟩:=hr pins {s3 with heap:=s3.heap.push {cls:=.type "slice",data:=.fields #[vl,vu,.none]}} σ z x v vl vu l u s3.heap.objs.size Q I4 J (UG ..) pl pu Z
 change LD (model X.prog X.w) X.A (Uo e (.Slice lo hi Y p2) v (.ref s3.heap.objs.size)) (EP X pins σ Q) X.xe {s3 with heap:=s3.heap.push {cls:=.type "slice",data:=.fields #[vl,vu,.none]}}
 show Wc (ops:=[.ref s3.heap.objs.size,v]) ht hT hg (by with_unfolding_all rfl)
abbrev gE(xs:List V)(lo hi:Option Int):List V:=(xs.drop (HT.sIx xs.length 0 lo)).take (HT.sIx xs.length xs.length hi-HT.sIx xs.length 0 lo)
def iY(xs:List V)(lo hi:Option Int):(gE xs lo hi).length<=xs.length:=by unfold gE;rw[LS,NX];lia
abbrev GD(K:Frag):V->Option Int->Option Int->Hp->VK->Prop:=λx lo hi H Q=>∃a xs,x=.ref a/\SqT K H a xs /\
 ¬(HT.sIx xs.length 0 lo=0/\HT.sIx xs.length xs.length hi=xs.length)/\∀p,H p=Y->Q (.ref p) (upd H p (.tup (gE xs lo hi)))
def sl_tup:SlR X (GD X.K):=by
 intro pins s σ H x v vl vu lo hi sl Q I rx hs pl pu h;let⟨a,xs,rfl,hx,hw,q⟩:=h
 cases rx
 let⟨its,r,ht,hz⟩:=I.tuple hx;let hlen:its.toArray.size=xs.length:=by rw[LA];show r.length.symm
 calc⟨"tuple",_,PyProof.Rows.slot_tuple_getitem.lookup,ht.typeIs,?_⟩;refine HT.getItem_tuple_cut ht hs pl pu (by rw[hlen];show hw) ?_ (by rw[hlen];show hz)
 rw[hlen];calc⟨.ref s.heap.objs.size,_,I.laid (t':=s.toks) (o:=.tup (gE xs lo hi)) (λb ob q=>h7 _ q) (Lz _) ?_,rfl,q _ (I.hok.fresh (Lz _))⟩;show⟨MR (iY xs lo hi) hz,_,(r.drop (HT.sIx xs.length 0 lo)).take (HT.sIx xs.length xs.length hi-HT.sIx xs.length 0 lo),QX _ _⟩
abbrev AV(K:Frag):R2:=λx y H Q=>∃a b xs ys,x=.ref a/\y=.ref b/\SqT K H a xs/\SqT K H b ys/\xs≠[]/\xs.length+ys.length<=Ls /\
 (ys=[]->Q (.ref a) H)/\(ys≠[]->∀p,H p=Y->Q (.ref p) (upd H p (.tup (xs++ys))))
def Vals.nil_iff{xs:List V}{us:List gV}(r:Vals xs us):us=[]↔xs=[]:=by
 cases r with
 |nil=>simp
 |cons _ _=>simp
def op_catT:OpR X (NQ .Add) (AV X.K):=by
 intro pins s σ H x y v u Q I rx ry h;let⟨a,b,xs,ys,rfl,rfl,G,J,hx,hz,L,O⟩:=h
 cases rx
 cases ry
 let⟨its,B,U,_⟩:=I.tuple G;let⟨F,j,p2,_⟩:=I.tuple J;refine HT.cat_tup U p2 (λz=>hx (B.nil_iff.mp z)) (λz=>⟨.ref a,H,I,rfl,L (j.nil_iff.mp z)⟩) (λz=>?_) (by rw[<-B.length,<-j.length];show hz)
 calc⟨.ref s.heap.objs.size,_,I.laid (t':=s.toks) (o:=.tup (xs++ys)) (λb ob q=>h7 _ q) (Lz _) ?_,rfl,O (λw=>z (j.nil_iff.mpr w)) _ (I.hok.fresh (Lz _))⟩;show⟨by rw[I7];show hz,_,B.append j,QX _ _⟩
end
end
variable{n:Nat}{s:tv}{its:List gV}{x:V}
section
abbrev ixN(n:Nat)(i:Int):Option Nat:=if 0<=i then(if i<n then S i.toNat else Y)else if -(n:Int)<=i then S (i+n).toNat else Y
abbrev atI{α:Type}(xs:List α)(i:Int):Option α:=(ixN xs.length i).bind λj=>xs[j]?
def kY{i:Int}{j:Nat}(h:ixN n i=S j):seqIndex? i n=S j/\j<n /\ -(n:Int)<=i/\i<n:=by
 unfold ixN at h
 by_cases h0:0<=i
 ·rw[if_pos h0]at h
  by_cases h1:i<n
  ·rw[if_pos h1]at h;let e:i.toNat=j:=Nw.inj h;show⟨by rw[VL h0 h1,e],∅,∅,h1⟩
  ·rw[if_neg h1]at h;cases h
 ·rw[if_neg h0]at h
  by_cases h1:-(n:Int)<=i
  ·rw[if_pos h1]at h;let e:(i+n).toNat=j:=Nw.inj h;show⟨by rw[UY ∅ h1,e],∅,h1,∅⟩
  ·rw[if_neg h1]at h;cases h
def sr{α:Type}{xs:List α}{i:Int}{v:α}(h:atI xs i=S v):∃j,seqIndex? i xs.length=S j/\xs[j]?=S v/\j<xs.length /\ -(xs.length:Int)<=i/\i<xs.length:=by
 unfold atI at h
 cases e:ixN xs.length i with
 |none=>rw[e]at h;cases h
 |some j=>rw[e]at h;let⟨h1,h2,q,z⟩:=kY e;show⟨j,h1,h,h2,q,z⟩
abbrev kZ(b:Expr):Prop:=∀o i,subscripted b WY o i=operate [o,i] (Sr o i)
abbrev IxR(X:Cx)(r:R2):Prop:=
 ∀(value slice:Expr) (pins:List (WZ×Obj)) (s:tv) (σ:St) (H:Hp) (x y:V) (v u:gV) (Q:VK),Inv X pins σ H s->RelV x v->RelV y u->r x y H Q->
  subscripted slice WY v u=operate [v,u] (Sr v u)->LD (model X.prog X.w) X.A (Uo value slice v u) (EP X pins σ Q) X.xe s
abbrev MtR(X:Cx)(id:String)(r:V->List V->Hp->VK->Prop):Prop:=
 ∀(pins:List (WZ×Obj)) (s:tv) (σ:St) (H:Hp) (x:V) (xs:List V) (v:gV) (us:List gV) (Q:VK),Inv X pins σ H s->RelV x v->Vals xs us->r x xs H Q->
  LD (model X.prog X.w) X.A (call (.builtin id) (v::us)) (EP X pins σ Q) X.xe s
section
variable{X:Cx}{a b:Expr}{ta tb:TE}{pos:Pos}
def IxR.or{r r':R2}(h:IxR X r)(h':IxR X r'):IxR X (λx y H Q=>r x y H Q∨r' x y H Q):=by
 intro value slice pins s σ H x y v u Q I rx ry q hs
 rcases q with q|q
 ·show h value slice pins s σ H x y v u Q I rx ry q hs
 ·show h' value slice pins s σ H x y v u Q I rx ry q hs
def Fr{r:R2}(hr:IxR X r)(j:PE X a ta)(z:PE X b tb)(hs:kZ b):PE X (.Subscript a b pos) (tOp r ta tb):=by intro pins s σ H Q I h;show Wb (yK j z I h λv u s2 x y H2 B rx ry q=>hr a b pins s2 σ H2 x y v u Q B rx ry q (hs _ _))
abbrev GE(K:Frag):R2:=λx y H Q=>∃p xs i v,x=.ref p/\y=.int i/\SqL K H p xs/\atI xs i=S v/\Q v H
abbrev GF(K:Frag):R2:=λx y H Q=>∃p xs i v,x=.ref p/\y=.int i/\SqT K H p xs/\atI xs i=S v/\Q v H
def ix_list:IxR X (GE X.K):=by
 intro value slice pins s σ H x y v u Q I rx ry h hs;let⟨p,xs,i,z,rfl,rfl,F,he,q⟩:=h
 cases rx
 let⟨t,rfl⟩:=ry;let⟨its,r,pl,hz⟩:=I.list F;let⟨j,h1,h2,O,G,J⟩:=sr he;let⟨w,ew,rw'⟩:=r.get h2;let L:=r.length;let U:=gC;let fin:EP X pins σ Q w s:=⟨z,H,I,rw',q⟩
 by_cases h0:0<=i
 ·let B:i.toNat=j:=by
   rw[VL h0 J]at h1;show Nw.inj h1
  show item_listR pl.isList h0 ∅ (by rw[B];simpa using ew) fin hs
 ·let B:(i+(its.toArray.size:Int)).toNat=j:=by
   rw[UY ∅ G]at h1
   rw[LA,<-L];show Nw.inj h1
  show T9 (x:=w) pl.isList.typeIs slot_list_getitem.lookup
   (wpAny_getItem_list_neg (Q:=λr s'=>r=w/\EP X pins σ Q r s') pl.isList ∅ (by rw[LA]<;>lia) ∅ (by rw[B];simpa using ew) ⟨rfl,fin⟩) hs
def ix_tup:IxR X (GF X.K):=by
 intro value slice pins s σ H x y v u Q I rx ry h hs;let⟨p,xs,i,z,rfl,rfl,B,he,q⟩:=h
 cases rx
 let⟨t,rfl⟩:=ry;let⟨its,r,pl,hz⟩:=I.tuple B;let⟨j,h1,h2,G,J,L⟩:=sr he;let⟨w,ew,rw'⟩:=r.get h2;let F:=r.length;let O:=gC;let fin:EP X pins σ Q w s:=⟨z,H,I,rw',q⟩;show T9 (x:=w) pl.typeIs slot_tuple_getitem.lookup
  (getItem_tuple (j:=j) (Q:=λr s'=>r=w/\EP X pins σ Q r s') pl ∅ ∅ (by rw[LA,<-F];show h1) (by simpa using ew) ⟨rfl,fin⟩) hs
def u7(its:List gV)(n j:Nat)(u:gV):OJ (·.setIfInBounds j u) {cls:=.type "list",data:=.seq its.toArray n}={cls:=.type "list",data:=.seq (its.set j u).toArray n}:=by simp[OJ]
def Inv.lst{pins:List (WZ×Obj)}{σ:St}{H:Hp}{s:tv}{p:WZ}{xs:List V}(I:Inv X pins σ H s)(h:H p=S (.lst xs)):
 ∃(its:List gV) (n:Nat),Vals xs its/\s.heap.get? p=S {cls:=.type "list",data:=.seq its.toArray n}/\xs.length<=Ls:=by
 let⟨z,its,n,r,e⟩:=I.hok p _ h;show⟨its,n,r,e,z⟩
def Inv.lstUpd{pins:List (WZ×Obj)}{σ:St}{H:Hp}{p:WZ}{xs ys:List V}{its':List gV}{n':Nat}{f:Obj->Obj}(I:Inv X pins σ H s)(h:H p=S (.lst xs))(ho:s.heap.get? p=S {cls:=.type "list",data:=.seq its.toArray n})(hf:f {cls:=.type "list",data:=.seq its.toArray n}={cls:=.type "list",data:=.seq its'.toArray n'})(r:Vals ys its')(hz:ys.length<=Ls)(t:Nat):
 Inv X pins σ (upd H p (.lst ys)) {s with heap:=s.heap.update p f,toks:=t}:=by
 let e:(s.heap.update p f).get? p=S {cls:=.type "list",data:=.seq its'.toArray n'}:=by rw[ON f ho (by rw[hf]<;>rfl),hf]
 refine I.write (x:=p) (e:=p) (by rw[h];trivial) (.inl rfl) (λb u j q=>(NB _ _ (Ne.symm j)).trans q) ⟨_,e⟩ ?_
 show⟨hz,its',n',r,e⟩
abbrev AW:V->V->V->Hp->(Hp->Prop)->Prop:=λo i v H Q=>∃p xs k j,o=.ref p/\i=.int k/\H p=S (.lst xs)/\ixN xs.length k=S j/\Q (upd H p (.lst (xs.set j v)))
def oP:PSet X AW:=by
 intro pins s σ H o i v ov iv u Q I ro ri rv h;let⟨p,xs,k,j,rfl,rfl,F,L,q⟩:=h
 cases ro
 let⟨t,rfl⟩:=ri;let⟨its,n,r,ho,hz⟩:=I.lst F;let⟨h1,h2,G,J⟩:=kY L;let z:=r.length;let O:=gC;let I':Inv X pins σ (upd H p (.lst (xs.set j v))) {s with heap:=s.heap.update p (OJ (·.setIfInBounds j u))}:=I.lstUpd F ho (u7 its n j u) (r.set rv j) (by rw[Ro];show hz) s.toks
 by_cases h0:0<=k
 ·let B:k.toNat=j:=by
   rw[VL h0 J]at h1;show Nw.inj h1
  show PySem.W.ki_setAt ho h0 ∅ (by rw[LA,<-z];show J) (by rw[B];show⟨_,I',q⟩)
 ·let B:(k+(its.toArray.size:Int)).toNat=j:=by
   rw[UY ∅ G]at h1
   rw[LA,<-z];show Nw.inj h1
  show PySem.W.ki_setBack ho ∅ (by rw[LA,<-z];show G) ∅ (by rw[B];show⟨_,I',q⟩)
def oQ(lo hi:Option Int)(n:Nat):(Oc lo hi Y n).1=((HT.sIx n 0 lo:Nat):Int)/\(Oc lo hi Y n).2.1=((HT.sIx n n hi:Nat):Int)/\(Oc lo hi Y n).2.2=1:=by
 refine⟨?_,?_,rfl⟩
 ·cases lo with
  |none=>simp[Oc,HT.sIx]
  |some i=>
   simp only[Oc,HT.sIx,Vo,show(1:Int) > 0 by decide,if_true]
   by_cases h:i<0
   ·simp only[h,if_true]<;>lia
   ·simp only[h,if_false]<;>lia
 ·cases hi with
  |none=>simp[Oc,HT.sIx]
  |some i=>
   simp only[Oc,HT.sIx,Vo,show(1:Int) > 0 by decide,if_true]
   by_cases h:i<0
   ·simp only[h,if_true]<;>lia
   ·simp only[h,if_false]<;>lia
def nK(its:List gV)(lo hi:Option Int):Vp its.toArray lo hi Y=((its.drop (HT.sIx its.length 0 lo)).take (HT.sIx its.length its.length hi-HT.sIx its.length 0 lo)).toArray:=by let⟨h1,h2,j⟩:=oQ lo hi its.toArray.size;unfold Vp;rw[h1,h2,j];simp only[sliceRange_one,pick_run,LA]<;>rfl
abbrev GG(K:Frag):V->Option Int->Option Int->Hp->VK->Prop:=λx lo hi H Q=>∃a xs,x=.ref a/\SqL K H a xs/\∀p,H p=Y->Q (.ref p) (upd H p (.lst (gE xs lo hi)))
def sl_list:SlR X (GG X.K):=by
 intro pins s σ H x v vl vu lo hi sl Q I rx hs pl pu h;let⟨a,xs,rfl,hx,q⟩:=h
 cases rx
 let⟨its,r,ht,hz⟩:=I.list hx;let hlen:=r.length;calc⟨"list",_,slot_list_getitem.lookup,ht.isList.typeIs,?_⟩;refine Sy ht.isList hs pl pu .none (_) ?_ (by rw[LA]<;>lia)
 rw[nK,<-hlen];calc⟨.ref s.heap.objs.size,_,I.laid (t':=s.toks) (o:=.lst (gE xs lo hi)) (λb ob q=>h7 _ q) (Lz _) ?_,rfl,q _ (I.hok.fresh (Lz _))⟩;show⟨MR (iY xs lo hi) hz,_,0,(r.drop (HT.sIx xs.length 0 lo)).take (HT.sIx xs.length xs.length hi-HT.sIx xs.length 0 lo),Lu _ rfl⟩
abbrev dM:V->Bool
 |.non=>WX
 |.bl _=>WX
 |.int _=>WX
 |.str _=>WX
 |_=>WY
abbrev eqV:V->V->Bool
 |.non,.non=>WX
 |.bl a,.bl b=>a==b
 |.bl a,.int b=>(if a then 1 else 0)==b
 |.int a,.bl b=>a==(if b then 1 else 0)
 |.int a,.int b=>a==b
 |.str a,.str b=>a==b
 |_,_=>WY
def DU{A:Mq}{y:V}{u v:gV}(ry:RelV y u)(rx:RelV x v)(fy:dM y=WX)(fx:dM x=WX):Wa A s u v (eqV y x):=by
 cases y with
 |non=>
  cases ry
  cases x with
  |non=>cases rx;show SeqAt.EqAt.same _
  |bl b=>cases rx;show SeqAt.EqAt.none_bool b
  |int b=>let⟨t,rfl⟩:=rx;show SeqAt.EqAt.none_int b t
  |str b=>let⟨t,rfl⟩:=rx;show SeqAt.EqAt.none_str b t
  |_=>show absurd (show WY=WX from fx) Lq
 |bl a=>
  cases ry
  cases x with
  |non=>cases rx;show SeqAt.EqAt.bool_none a
  |bl b=>cases rx;show SeqAt.EqAt.bool_bool a b
  |int b=>let⟨t,rfl⟩:=rx;show SeqAt.EqAt.bool_int a b t
  |str b=>let⟨t,rfl⟩:=rx;show SeqAt.EqAt.bool_str a b t
  |_=>show absurd (show WY=WX from fx) Lq
 |int a=>
  let⟨t',rfl⟩:=ry
  cases x with
  |non=>cases rx;show SeqAt.EqAt.int_none a t'
  |bl b=>cases rx;show SeqAt.EqAt.int_bool a t' b
  |int b=>let⟨t,rfl⟩:=rx;show UC a t' b t
  |str b=>let⟨t,rfl⟩:=rx;show Ux a t' b t
  |_=>show absurd (show WY=WX from fx) Lq
 |str a=>
  let⟨t',rfl⟩:=ry
  cases x with
  |non=>cases rx;show SeqAt.EqAt.str_none a t'
  |bl b=>cases rx;show SeqAt.EqAt.str_bool a t' b
  |int b=>let⟨t,rfl⟩:=rx;show Uy a t' b t
  |str b=>let⟨t,rfl⟩:=rx;show SeqAt.EqAt.str_str a t' b t
  |_=>show absurd (show WY=WX from fx) Lq
 |_=>show absurd (show WY=WX from fy) Lq
abbrev eqU(x:V)(u:gV):Bool:=match u with
 |.none=>eqV .non x
 |.bool b=>eqV (.bl b) x
 |.int i _=>eqV (.int i) x
 |.str z _=>eqV (.str z) x
 |_=>WY
def w8{y:V}{u:gV}(r:RelV y u)(f:dM y=WX):eqU x u=eqV y x:=by
 cases y with
 |non=>cases r;rfl
 |bl b=>cases r;rfl
 |int i=>let⟨t,rfl⟩:=r;rfl
 |str z=>let⟨t,rfl⟩:=r;rfl
 |_=>show absurd (show WY=WX from f) Lq
def lc{x:V}:∀{xs:List V} {us:List gV},Vals xs us->xs.all dM=WX->us.any (eqU x)=xs.any λy=>eqV y x
 |_,_,.nil,_=>rfl
 |y::xs,u::us,.cons r t,f=>by rw[NR,D0]at f;rw[O6,O6,w8 r f.1,lc t f.2]
def je{A:Mq}{s:tv}{x:V}{v:gV}(rx:RelV x v)(fx:dM x=WX):∀{xs:List V} {us:List gV},Vals xs us->xs.all dM=WX->∀u∈us,Wa A s u v (eqU x u)
 |_,_,.nil,_=>λu j=>by cases j
 |y::xs,u::us,.cons r t,f=>fun u' j=>by
  rw[NR,D0]at f
  rcases Lw.mp j with rfl|j
  ·rw[w8 r f.1];show DU r rx f.1 fx
  ·show je rx fx t f.2 u' j
abbrev inV(x:V)(xs:List V):Bool:=xs.any λy=>eqV y x
abbrev rIn(K:Frag)(neg:Bool):R2:=λx y H Q=>∃p xs,y=.ref p/\(SqL K H p xs∨SqT K H p xs)/\dM x=WX/\xs.all dM=WX/\Q (.bl (if neg then !inV x xs else inV x xs)) H
def oR:OpR X (Mu .NotIn) (rIn X.K WX):=by
 intro pins s σ H x y v u Q I rx ry h;let⟨p,xs,rfl,j,fx,fs,q⟩:=h
 cases ry
 rcases j with j|j
 ·let⟨its,r,pl,hz⟩:=I.list j;refine SeqAt.notIn_listAt (eqU x) pl.isList (λw hw=>je rx fx r fs w (by simpa using hw)) ⟨.bl _,H,I,rfl,?_⟩
  rw[show its.toArray.any (eqU x)=its.any (eqU x) by simp,lc r fs]
  show q
 ·let⟨its,r,pl,hz⟩:=I.tuple j;refine SeqAt.notIn_tupleAt (eqU x) pl (λw hw=>je rx fx r fs w (by simpa using hw)) ⟨.bl _,H,I,rfl,?_⟩
  rw[show its.toArray.any (eqU x)=its.any (eqU x) by simp,lc r fs]
  show q
def oS:CallR X (.type "list") (λxs H Q=>∃p ys,xs=[.ref p]/\(SqL X.K H p ys∨SqT X.K H p ys)/\∀l,H l=Y->Q (.ref l) (upd H l (.lst ys))):=by
 intro pins s σ H xs us Q I r h;let⟨p,ys,rfl,j,q⟩:=h;let⟨u,rfl,rx⟩:=cO r
 cases rx
 let fin:∀(its:List gV),Vals ys its->ys.length<=Ls->∀(h':Heap) (c':Nat),(∀b o',s.heap.get? b=S o'->h'.get? b=S o')->
  h'.get? s.heap.objs.size=S {cls:=.type "list",dict:=Y,data:=.seq its.toArray c',slots:=#[]}->EP X pins σ Q (.ref s.heap.objs.size) {s with heap:=h'}:=λits r' hz h' c' kp e=>
  ⟨.ref s.heap.objs.size,_,I.laid (t':=s.toks) kp (Lz _) (show ObjOk X.prog X.w _ h' _ (.lst ys)from⟨hz,its,c',r',e⟩),rfl,q _ (I.hok.fresh (Lz _))⟩
 rcases j with j|j
 ·let⟨its,r',pl,hz⟩:=I.list j;let hlen:=r'.length;let⟨o,ho,z,n,hd⟩:=pl.isList;show call_list_seq p (.inl rfl) ho z hd (λh' c' kp e=>fin its r' hz h' c' kp e) (by simp only[LA]<;>lia)
 ·let⟨its,r',pl,hz⟩:=I.tuple j;let hlen:=r'.length;let⟨o,ho,z,n,hd⟩:=pl;show call_list_seq p (.inr rfl) ho z hd (λh' c' kp e=>fin its r' hz h' c' kp e) (by simp only[LA]<;>lia)
def nM:CallR X (.type "tuple") (λxs H Q=>∃p ys,xs=[.ref p]/\((SqL X.K H p ys/\∀l,H l=Y->Q (.ref l) (upd H l (.tup ys)))∨(SqT X.K H p ys/\Q (.ref p) H))):=by
 intro pins s σ H xs us Q I r h;let⟨p,ys,rfl,h⟩:=h;let⟨u,rfl,rx⟩:=cO r
 cases rx
 rcases h with⟨j,q⟩|⟨j,q⟩
 ·let⟨its,r',pl,hz⟩:=I.list j;let hlen:=r'.length;refine call_tuple_list pl.isList (λh' kp=>?_) (by simp only[LA]<;>lia)
  let z:Inv X pins σ H {s with heap:=h'}:=I.kept (t':=s.toks) kp
  let B:Inv X pins σ (upd H h'.objs.size (.tup ys)) {s with heap:=h'.push {cls:=.type "tuple",data:=.seq its.toArray}}:=z.laid (t':=s.toks) (λb o e=>h7 _ e) (Lz _) (show ObjOk X.prog X.w _ _ _ (.tup ys)from⟨hz,its,r',QX _ _⟩)
  show⟨.ref h'.objs.size,_,B,rfl,q _ (z.hok.fresh (Lz _))⟩
 ·let⟨its,r',pl,hz⟩:=I.tuple j;show call_tuple_same pl ⟨.ref p,H,I,rfl,q⟩
abbrev tyV(K:Frag)(T:String)(x:V)(H:Hp):Prop:=match x with
 |.str _=>T="str"
 |.int _=>T="int"
 |.ref p=>(T="list"/\∃xs,SqL K H p xs)∨(T="tuple"/\∃o,K.lookup p=S o/\o.cls=.type "tuple"/\o.dict=Y) ∨
  (T="dict"/\((∃kvs,H p=S (.dK kvs))∨∃kvs,H p=S (.dT kvs)))∨(T="set"/\∃F2 n,H p=S (.set F2 n))
 |_=>False
def DV{pins:List (WZ×Obj)}{σ:St}{H:Hp}{T:String}{v:gV}(I:Inv X pins σ H s)(r:RelV x v)(ty:tyV X.K T x H):
 s.TypeIs v T/\∀a,v=.ref a->∃ob,s.heap.get? a=S ob/\ob.dict=Y:=by
 cases x with
 |str z=>
  let⟨t,rfl⟩:=r
  cases(show T="str" from ty)
  show⟨typeIs_str s z t,λ_ e=>nomatch e⟩
 |int i=>
  let⟨t,rfl⟩:=r
  cases(show T="int" from ty)
  show⟨Ta s i t,λ_ e=>nomatch e⟩
 |ref p=>
  cases r
  rcases ty with⟨rfl,xs,q⟩|⟨rfl,o,j,B,hd⟩|⟨rfl,j⟩|⟨rfl,F2,n,j⟩
  ·let⟨its,_,pl,_⟩:=I.list q;refine⟨pl.isList.typeIs,λa e=>?_⟩
   cases e
   let⟨o,n,e,c,hd,_⟩:=pl;show⟨o,e,hd⟩
  ·refine⟨⟨o,I.kIn p o j,B⟩,λa e=>?_⟩
   cases e
   show⟨o,I.kIn _ o j,hd⟩
  ·let z:∃o,s.heap.get? p=S o/\o.ExactDict:=by
    rcases j with⟨kvs,j⟩|⟨kvs,j⟩
    ·let⟨_,_,_,_,o,_,_,e,ex,_⟩:=I.hok p _ j;show⟨o,e,ex⟩
    ·let⟨_,_,_,_,o,_,_,e,ex,_⟩:=I.hok p _ j;show⟨o,e,ex⟩
   let⟨o,e,ex⟩:=z;refine⟨⟨o,e,ex.1⟩,λa e2=>?_⟩
   cases e2
   show⟨o,e,ex.2.1⟩
  ·let⟨o,_,_,_,e,ex,_⟩:=I.hok p _ j;refine⟨⟨o,e,ex.1⟩,λa e2=>?_⟩
   cases e2
   show⟨o,e,ex.2.1⟩
 |_=>show False.elim ty
abbrev tBM(K:Frag)(T:String)(r:V->List V->Hp->VK->Prop)(to:TE)(t:TA):TE:=λσ H Q=>to σ H λx H1=>tyV K T x H1/\t σ H1 λxs H2=>r x xs H2 Q
variable{o e:Expr}{es:List Expr}{to:TE}{t:TA}{name:Str}{apos cpos:Pos}{T id:String}{r:V->List V->Hp->VK->Prop}
def AX (pa:PlainAttrs T)(slot:Slot T name id)(F:typeOf (.builtin id)=pure (.type "method_descriptor"))(hm:MtR X id r)(ho:PE X o to)(U:PA X (e::es) t)(q:Sz o name X.env (eval o X.env)=eval o X.env:=by rfl)(B:((Po cpos (LV (e::es) X.env)).all (fun x=>!x.1)&&(Wd cpos (TM [] X.env)).all (fun x=>x.1.isSome)
   && decide ((e::es).length+([]:List Rz).length+(if([]:List Rz).isEmpty then 0 else 1)<30))=WX:=by rfl)(z:(apos.endLine==cpos.line)=WX:=by rfl)(hs:LV (e::es) X.env=(WY,eval e X.env)::LV es X.env:=by rfl)(j:(Po cpos (LV es X.env)).any (·.1)=WY:=by rfl):
 PE X (.Call (.Attribute o name apos) (e::es) [] cpos) (tBM X.K T r to t):=by
 intro pins s σ H Q I h;calc wpAny_Call_method_late q B z rfl (thn (ho pins s σ H _ I h) λv s1 G=>?_);let⟨x,H1,J,L,ty,F3⟩:=G;let⟨h1,h2⟩:=DV J L ty;calc⟨T,id,pa,slot,F,h1,h2,?_⟩;let O:=U cpos pins s1 σ H1 _ J F3;rw[hs]at O⊢;refine QJ (by change(WY || (Po cpos (LV es X.env)).any (·.1))=WY;rw[j]<;>rfl) (TN ?_)
 show thn O λus s2 G=>(by let⟨vs,H2,Z,r2,q2⟩:=G;show hm pins s2 σ H2 x vs v us Q Z L r2 q2)
end
end
section
abbrev MtM(X:Cx)(id:String)(r:V->List V->Hp->VK->Prop):Prop:=
 ∀(pins:List (WZ×Obj)) (s:tv) (σ:St) (H:Hp) (x:V) (xs:List V) (v:gV) (us:List gV) (Q:VK),Inv X pins σ H s->RelV x v->Vals xs us->r x xs H Q->
  LD (model X.prog X.w) X.A (call (.builtin id) (v::us)) (EP X pins σ Q) X.xe s
def Vals.one:∀{x:V} {us:List gV},Vals [x] us->∃u,us=[u]/\RelV x u
 |_,_,.cons r .nil=>⟨_,rfl,r⟩
def Vals.rep{xs:List V}{us:List gV}(h:Vals xs us):∀k:Nat,Vals (LQ k xs).flatten (LQ k us).flatten
 |0=>.nil
 |k+1=>by rw[Nf,Nf,N9,N9];show Vals.append h (Vals.rep h k)
def gF(its:List gV):∀(k:Nat) (acc:List gV),
 QZ (λj q=>j++q) acc.toArray (LQ k its.toArray)=(acc++(LQ k its).flatten).toArray
 |0,acc=>by simp
 |k+1,acc=>by
  let e:acc.toArray++its.toArray=(acc++its).toArray:=by simp
  let e2:(acc++its)++(LQ k its).flatten=acc++(LQ (k+1) its).flatten:=by rw[Nf,N9,LH]
  rw[<-e2,<-gF its k (acc++its),<-e,Nf,Tp]
section
variable{X:Cx}{pins:List (WZ×Obj)}{σ:St}{H:Hp}{s:tv}{l b:WZ}{xs ys zs:List V}
def Inv.lset{its':List gV}{f:Array gV->Array gV}{t':Nat}(I:Inv X pins σ H s)(j:H l=S (.lst xs))(e:s.heap.get? l=S {cls:=.type "list",data:=.seq its.toArray n})(hf:f its.toArray=its'.toArray)(z:Vals ys its')(hz:ys.length<=Ls):
 Inv X pins σ (upd H l (.lst ys)) {s with heap:=s.heap.update l (OJ f),toks:=t'}:=by
 let q:=PySem.IsL.update e f;rw[hf]at q;refine I.write (x:=l) (e:=l) (by rw[j];show trivial) (.inl rfl) (λb' u B F=>(NB s.heap (OJ f) (Ne.symm B)).trans F) ⟨_,q⟩ ?_
 show⟨hz,its',_,z,q⟩
def Inv.lnew{t':Nat}(I:Inv X pins σ H s)(j:Vals ys its)(hz:ys.length<=Ls):
 Inv X pins σ (upd H s.heap.objs.size (.lst ys)) {s with heap:=s.heap.push {cls:=.type "list",data:=.seq its.toArray},toks:=t'}:=
 I.laid (λ_ _ q=>h7 _ q) (Lz _) ⟨hz,its,0,j,Lu _ rfl⟩
def Inv.fresh(I:Inv X pins σ H s):H s.heap.objs.size=Y:=I.hok.fresh (Lz _)
def Inv.lstM(I:Inv X pins σ H s)(j:H l=S (.lst xs)):xs.length<=Ls/\∃(its:List gV) (n:Nat),Vals xs its/\xs.length=its.length/\s.heap.get? l=S {cls:=.type "list",data:=.seq its.toArray n}:=by let⟨z,its,n,r,e⟩:=I.hok l _ j;show⟨z,its,n,r,r.length,e⟩
def yW(h:n<=Ls):Qg n=WY:=by unfold Qg;show decide_eq_false ∅
end
section
variable{X:Cx}
abbrev su:V->List V->Hp->VK->Prop:=λx vs H Q=>∃l xs y,x=.ref l/\vs=[y]/\H l=S (.lst xs)/\xs.length<Ls/\Q .non (upd H l (.lst (xs++[y])))
def mG:MtM X "list.append" su:=by
 intro pins s σ H x vs v us Q I rx rv h;let⟨l,xs,y,rfl,rfl,j,hz,q⟩:=h
 cases rx
 let⟨u,rfl,ru⟩:=rv.one;let⟨z,its,n,r,B,e⟩:=I.lstM j;refine RW F.slot_list_append ⟨_,e,rfl⟩ F.entry_list_append (F.args_list_append_2 _ _) (PySem.list_append l its.toArray n u (by rw[LA];lia)) ⟨e,?_⟩
 refine⟨.non,_,I.lset (its':=its++[u]) j e (_) (r.append (.cons ru .nil)) ?_,rfl,q⟩
 rw[I7,LY];lia
abbrev GH:R2:=λx y H Q=>∃l b xs zs,x=.ref l/\y=.ref b/\H l=S (.lst xs)/\H b=S (.lst zs)/\xs.length+zs.length<=Ls/\∀p,H p=Y->Q (.ref p) (upd H p (.lst (xs++zs)))
def op_cat:OpR X (NQ .Add) GH:=by
 intro pins s σ H x y v u Q I rx ry h;let⟨l,b,xs,zs,rfl,rfl,B,F,hz,q⟩:=h
 cases rx
 cases ry
 let⟨z,its,n,r,L,e⟩:=I.lstM B;let⟨O,j,U,G,J,e2⟩:=I.lstM F;refine PySem.P.add_list e e2 ?_ (by rw[LA,LA];lia)
 let ea:its.toArray++j.toArray=(its++j).toArray:=by simp
 rw[ea];show⟨.ref _,_,I.lnew (t':=s.toks) (r.append G) (by rw[I7];lia),rfl,q _ I.fresh⟩
abbrev GI:R2:=λx y H Q=>∃l k xs,x=.ref l/\y=.int k/\H l=S (.lst xs) /\ -(2^63)<=k/\k<2^63/\xs.length*k.toNat<=Ls /\
 ∀p,H p=Y->Q (.ref p) (upd H p (.lst (LQ k.toNat xs).flatten))
def sx{α:Type}(xs:List α)(k:Nat):(LQ k xs).flatten.length=k*xs.length:=by
 induction k with
 |zero=>simp
 |succ k ih=>rw[Nf,N9,I7,ih,QK,Nat.add_comm]
def op_rep:OpR X (NQ .Mult) GI:=by
 intro pins s σ H x y v u Q I rx ry h;let⟨l,k,xs,rfl,rfl,F3,h1,h2,hz,q⟩:=h
 cases rx
 let⟨t,rfl⟩:=ry;let⟨z,its,n,r,Z,e⟩:=I.lstM F3;let hlen:its.toArray.size*k.toNat<=Ls:=by rw[LA,<-Z];show hz
 let B:¬its.toArray.size*k.toNat > (2^63-1) / 8:=by
  let:(Ls:Nat)<=(2^63-1) / 8:=by decide
  lia
 let G:¬(!Builtin.List.listFitsIndex k)=WX:=by rw[fitsIndex_both h1 h2];show Lq
 let j:¬Qg (its.toArray.size*k.toNat)=WX:=by rw[yW hlen];show Lq
 let J:QZ (λL O=>L++O) #[] (LQ (if its.toArray.isEmpty=WX then 0 else k.toNat) its.toArray)=(LQ k.toNat its).flatten.toArray:=by
  let f0:∀m:Nat,QZ (λL O=>L++O) #[] (LQ m its.toArray)=(LQ m its).flatten.toArray:=λm=>by let:=gF its m [];rw[Tq]at this;show this
  rw[f0]
  cases its with
  |nil=>simp
  |cons a r'=>rw[if_neg (_)]
 refine Sf (T:="list") (U:="int") (·) ⟨_,e,rfl⟩ (λs'=>Ta s' k t) noFill_list_mul VX Rp repeat_list F.slot_int_index.lookup
  (RW Rp (Ta s k t) Vq (UZ _ _) (int___rmul___int_list k t l its.toArray n)
    ⟨e,rfl,⟨_,e,rfl⟩,RW F.slot_list_mul ⟨_,e,rfl⟩ F.entry_list_mul (F.args_list_mul_2 _ _) (AutoListH.list___mul___list_int_3 l its.toArray n k t G B j) ⟨e,?_⟩⟩)
 rw[J];show⟨.ref _,_,I.lnew (t':=s.toks) (r.rep k.toNat) (by rw[sx,V0];show hz),rfl,q _ I.fresh⟩
end
end
end L2
namespace Att
open PySem PySem.W PySem.Calls PyProof.Rows
def jV{P:Params}{h:Heap}:∀(ns:List Int) (vs:List gV),WellAll P h vs (ns.map WData.int)->Qq vs ns:=by
 intro ns
 induction ns with
 |nil=>
  intro vs w;rw[Pt]at w
  cases w
  show .nil
 |cons n ns ih=>
  intro vs w;rw[LL]at w
  cases w with
  |cons a b=>
   cases a
   show .cons _ _ (ih _ b)
def w9{l:OpenLaw}{n:Nat}(O:l.most=S n){P:Params}{h:Heap}{args:List WData}{vals:List gV}(j:l.row.toRowW.claim.pre args=WX)(G:WellAll P h vals args):
 ∃a vs ns,vals=[Ms a]/\args=[WData.list (ns.map WData.int)]/\h.get? a=S {cls:=.type "list",data:=.seq vs.toArray}/\Qq vs ns/\ns.length<=n:=by
 let J:WShape.hasAll [] args [.list .int]=WX:=(pre_splitW j).1;let L:l.pre.holds [] {args:=args}=WX:=(pre_splitW j).2;let⟨d,r,rfl,h1,h2⟩:=hasAllW_cons J;obtain rfl:=hasAllW_nil h2;let⟨xs,rfl,U⟩:=hasW_list h1;let⟨ns,rfl⟩:=items_int U;let hlen:ns.length<=n:=by
  unfold OpenLaw.pre at L;let B:(WTm.not (.lt (.lit (.int (n:Int))) (.len (.arg 0)))).holds [] {args:=[.list (ns.map .int)]}=WX:=by let B:=(holds_andW L).1;rw[O]at B;show B
  let F:=condW_of B (w_not (w_lt w_lit (w_len_list (w_arg rfl))));rw[s9]at F;calc Nat.le_of_not_lt λq=>?_;let q':(n:Int)<((ns.length:Nat):Int):=∅
  first
   |(rw[decide_eq_true q']at F;show absurd F (·))
   |(simp at F;lia)
 cases G with
 |cons F3 Z=>
  cases Z
  cases F3 with
  |list ho z=>show⟨_,_,ns,rfl,rfl,ho,jV ns _ z,hlen⟩
def wa(l:OpenLaw)(args:List WData):l.row.toRowW.claim.post args (.bool WX) args=WX:=
 postW_of (r:=l.row.toRowW) (X:=(WX==WX))
  (show WShape.has [] (.bool WX) .bool=WX by first|rfl|decide|simp[WShape.has,WShape.arms,WShape.armsAll])
  (show(WTm.eq .res (.lit (.bool WX))).value [] {args:=args,res:=S (.bool WX),after:=args}=S (.bool (WX==WX))from w_eq_bool (w_res rfl) w_lit) rfl
def attach_call {l:OpenLaw}{n:Nat}{q:LR}{loose:List Str}{XP:(Str->Option gV)->Heap->Prop}{YP:Mn->Heap->Prop}{d:DefRec}(Z:l.most=S n)(B:d.params.defaults=[])(call:∀(w:Mn) (s₀ s₁:tv) (mg mb:Str->Option gV) (fa:WZ) (o:Obj) (pm cd doc:gV) (a:WZ) (vs:List gV) (ns:List Int),
   Ground q loose [] XP w s₀ mg mb s₁.heap->YP w s₁.heap->
   s₁.heap.get? fa=S o->o.data=.func (docDef d.name d.params d.body d.scope pm cd doc)->s₁.heap.CodeRec cd d.name->mg d.name=S (.ref fa)->
   s₁.heap.get? a=S {cls:=.type "list",data:=.seq vs.toArray}->Qq vs ns->ns.length<=n->s₁.gens=#[]->
   Q6 (model l.prog w) Ua (.call (.ref fa) ⟨[.ref a],[]⟩) (λr s'=>r=.ok (.ret (.bool WX))/\OldK s₁.heap s'.heap/\s'.os=s₁.os/\Sn s'.gens) s₁):
 WalkO q loose XP YP l.row.toRowW d [] (λf vs=>We f vs):=by
 intro w s₀ s₁ mg mb G F3 fa o pm cd doc dV kV ho hd F O J hg args vals as j U Ja L Jb;obtain rfl:dV=.none:=Dflts.none O B;obtain rfl:kV=.none:=Dflts.noKw O;let⟨a,vs,ns,rfl,rfl,z,hints,hlen⟩:=w9 Z j L;calc enter_call (QG (call w s₀ s₁ mg mb fa o pm cd doc a vs ns G F3 ho (fd_plain hd) F J z hints hlen hg) λr s' hq=>?_);let⟨rfl,h2,h3,h4⟩:=hq;show⟨.inl ⟨.bool WX,.bool WX,[],rfl,λ_=>rfl,.bool WX,wa l _,λ_=>⟨Ss,λ_ hm=>(nomatch hm)⟩⟩,h2,h3,h4⟩
section
variable{prog:LR}{w:Mn}{A:Mq}{E:gV->tv->Prop}{s:tv}{K:Frag}
abbrev HV(h:Heap)(L d:WZ):List (WZ×Obj):=(LO h.objs.size).filterMap λa=>if a=L∨a=d then Y else(h.get? a).map λo=>(a,o)
end
end Att
namespace L2
open PySem PySem.Spec PyProof.Rows
variable{fd:PX}{x:Str}
section
def mH:∀{vs:List gV} {ns:List Int},Qq vs ns->Vals (ns.map V.int) vs
 |_,_,.nil=>.nil
 |_,_,.cons n t h=>.cons ⟨t,rfl⟩ (mH h)
abbrev u8(H:Hp):Prop:=∀b,H b=Y∨∃o xs,H b=S (.frz o (.lst xs))
def yX{P:LR}{w:Mn}{K:Frag}{mg mb:Str->Option gV}{CX:CXT}{k:Nat}{fa a:WZ}{sp:Sp}{s₁:tv}{vs:List gV}{ns:List Int}(KX:K.In s₁.heap)(G:s₁.heap.Ns Nq mg)(j:s₁.heap.Ns W4 mb)(F3:∀x:Str,x≠"__name__"->mb x=OA x)(J:s₁.heap.NoLimit)(hg:s₁.gens=#[])(U:s₁.heap.get? a=S {cls:=.type "list",data:=.seq vs.toArray})(hi:Qq vs ns)(hl:ns.length<=Ls)(hr:Room k Ua)(F:∀base:Heap,K.In base->base.Ns Nq mg->eB P w K mg base CX k fa fd [x] sp)(B:∀(s:tv) (u:gV),UU s fd ⟨[u],[]⟩ [(x,u)])(Z:∀H:Hp,u8 H->SqL K H a (ns.map V.int)->sp [.ref a] H (λv _=>v=.bl WX) λ_ _ _=>False)(Ja:∀H e s',CX [] H s₁ (λ_ _ _=>False) e s'->False):
 Q6 (model P w) Ua (.call (.ref fa) ⟨[.ref a],[]⟩) (λr s'=>r=.ok (.ret (.bool WX))/\OldK s₁.heap s'.heap/\s'.os=s₁.os/\Sn s'.gens) s₁:=by
 let rv:=mH hi;let lenV:=hi.length;let core:∀H:Hp,u8 H->SqL K H a (ns.map V.int)->HOk P w H s₁.heap->(∀b,H b≠Y->b=a)->(H a≠Y->K.lookup a=Y)->
  Q6 (model P w) Ua (.call (.ref fa) ⟨[.ref a],[]⟩) (λr s'=>r=.ok (.ret (.bool WX))/\OldK s₁.heap s'.heap/\s'.os=s₁.os/\Sn s'.gens) s₁:=by
  intro H hO hS hok hA hK;let base_of:∀{b:WZ} {o:Obj},s₁.heap.get? b=S o->H b=Y->(fN s₁.heap H).get? b=S o:=λe n=>yF e n;let noA:∀{b:WZ} {o:Obj} {es:Array NY} {ep:Nat},s₁.heap.get? b=S o->o.data=.dict es ep->H b=Y:=λ{b o es ep} e d=>by
   cases q:H b with
   |none=>rfl
   |some u=>
    let e':b=a:=hA b (by rw[q];simp)
    subst e';rw[U]at e;cases e;let d':Rj vs.toArray _=Data.dict es ep:=d
    cases d'
  let nsK:∀{b:WZ} {m:Str->Option gV},s₁.heap.Ns b m->(fN s₁.heap H).Ns b m:=λ{b m} g9=>(by let⟨o,es,ep,e,d,r⟩:=g9;show⟨o,es,ep,base_of e (noA e d),d,r⟩)
  let L:K.In (fN s₁.heap H):=λb o e=>base_of (KX b o e) (by
   cases q:H b with
   |none=>rfl
   |some u=>
    let e':b=a:=hA b (by rw[q];simp)
    subst e';rw[hK (by rw[q];simp)]at e;cases e)
  let hM:Mod K mg (fN s₁.heap H):=⟨L,nsK G,⟨mb,nsK j,F3⟩,let⟨mc,h1,h2⟩:=J; ⟨mc,nsK h1,h2⟩⟩;let e0:tZ P w K mg (fN s₁.heap H) Ua [] s₁ H:=⟨rfl,hM,λb o e=>Bl e,Nat.le_of_eq (vK _ _),trivial,λb j=>absurd (show b∈([]:List WZ)from j) (_),hok,.of_eq hg⟩
  refine QG ((F _ L (nsK G)).run Ua [] s₁ H ⟨[.ref a],[]⟩ [.ref a] [.ref a] _ _ hr e0 (B s₁ (.ref a)) (.cons rfl .nil) (Z H hO hS)) λr s' h=>?_
  cases r with
  |error e=>show(Ja H e s' h).elim
  |ok fl=>
   cases fl with
   |next=>show False.elim h
   |brk=>show False.elim h
   |cont=>show False.elim h
   |ret u=>
    let⟨v,H',os,bare,un,O,r',q⟩:=h;let q':v=.bl WX:=q;subst q';obtain rfl:u=RJ WX:=r';refine⟨rfl,OldK.of_keep λb o e=>?_,os,bare⟩
    cases q:H b with
    |none=>show un.keep b o e q (by intro z;show absurd (show b∈([]:List WZ)from z) (_)) (_)
    |some u=>
     rcases hO b with z|⟨ob,xs,z⟩
     ·rw[q]at z;cases z
     ·let z2:=un.frzs b ob _ z;let⟨e1,_⟩:=hok b _ z;let⟨e2,_⟩:=O b _ z2;rw[e]at e1;cases e1;show e2
 cases hk:K.lookup a with
 |some o=>
  let e:=KX a o hk;rw[U]at e
  cases e
  refine core (λ_=>Y) (λ_=>.inl rfl) (.inr ⟨_,vs.toArray,_,hk,rfl,rfl,rfl,by rw[LA,lenV];show hl,by simpa using rv⟩) (λb u z=>by let z':(Y:Option HO)=S u:=z;cases z') (λb z=>absurd rfl z) λz=>absurd rfl z
 |none=>
  refine core (λb=>if b=a then S (.frz {cls:=.type "list",data:=.seq vs.toArray} (.lst (ns.map V.int)))else Y) (λb=>?_) (.inl (.inr ⟨{cls:=.type "list",data:=.seq vs.toArray},if_pos rfl⟩)) (λb u z=>?_) (λb z=>?_) λ_=>hk
  ·by_cases j:b=a
   ·show .inr ⟨_,_,if_pos j⟩
   ·show .inl (if_neg j)
  ·by_cases j:b=a
   ·let z':=(if_pos j).symm.trans z
    cases z'
    subst j;show⟨U,by rw[s9];show hl,vs,_,rv,U⟩
   ·let z':=(if_neg j).symm.trans z
    cases z'
  ·by_cases j:b=a
   ·show j
   ·show absurd (if_neg j) z
end
section
def walk_of {l:Tr}{n k:Nat}{q:LR}{loose:List Str}{XP:(Str->Option gV)->Heap->Prop}{YP:Mn->Heap->Prop}{d:DefRec}{K:Params->Frag}{CX:Mn->CXT}{sp:Mn->Sp}(U:l.most=S n)(z:n<=Ls)(B:d.params.defaults=[])(hr:Room k Ua)(Z:∀(w:Mn) (h:Heap),YP w h->(K w.params).In h)(F:∀(w:Mn) (mg:Str->Option gV) (fa:WZ) (h:Heap),(K w.params).In h->h.Ns Nq mg->mg d.name=S (.ref fa)->
   ∃fd:PX,(∀(s:tv) (u:gV),UU s fd ⟨[u],[]⟩ [(x,u)]) /\
    ∀base:Heap,(K w.params).In base->base.Ns Nq mg->eB l.prog w (K w.params) mg base (CX w) k fa fd [x] (sp w))(J:∀(w:Mn) (H:Hp) (a:WZ) (ns:List Int),ns.length<=n->u8 H->SqL (K w.params) H a (ns.map V.int)->sp w [.ref a] H (λv _=>v=.bl WX) λ_ _ _=>False)(L:∀(w:Mn) (H:Hp) (s:tv) (e:gV) (s':tv),CX w [] H s (λ_ _ _=>False) e s'->False):
 PySem.W.WalkO q loose XP YP l.row.toRowW d [] (λf vs=>We f vs):=by
 calc Att.attach_call U B λw s₀ s₁ mg mb fa o pm cd doc a vs ns G F3 ho hd Ja O j hints hlen hg=>?_;let KX:=Z w _ F3;let⟨fd,hb,hF⟩:=F w mg fa _ KX G.T.g O;show yX KX G.T.g G.T.b G.T.builtins G.T.nolimit hg j hints (MR hlen z) hr hF hb (λH hO hS=>J w H a ns hlen hO hS) λH e s'=>L w H s₁ e s'
end
variable{qual:Str}{st:Stmt}{f:WZ}
section
abbrev dW(s:Stmt):Arguments:=match s with
 |.FunctionDef _ a _ _ _ _ _ _ _ _=>a
 |_=>{posonlyargs:=[],args:=[],vararg:=Y,kwonlyargs:=[],kw_defaults:=[],kwarg:=Y,defaults:=[]}
abbrev cj(s:Stmt):List Stmt:=match s with
 |.FunctionDef _ _ b _ _ _ _ _ _ _=>b
 |_=>[]
abbrev aF(s:Stmt):Scope:=match s with
 |.FunctionDef _ _ _ _ _ _ sc _ _ _=>sc
 |_=>{kind:=.function,names:=[],isGenerator:=WY,isCoroutine:=WY}
noncomputable abbrev CX0:CXT:=λ_ _ _ _ _ _=>False
noncomputable abbrev E0:XK:=λ_ _ _=>False
def AY{X:Cx}:jT CX0 X E0:=λ_ _ _ _ _ _ _ h=>h.elim
structure Fun(K:Frag)(x qual:Str)(st:Stmt)(f:WZ)(fd:PX):Prop where
 ex:∃(oc:gV) (od:Option WZ) (kV doc pm:gV) (an:Option WZ) (cdv ct:gV) (osl:Array (Option gV)),
  fd=Pq x qual (dW st) (cj st) (aF st) .none kV doc pm an cdv ct/\K.lookup f=S ⟨oc,od,.func fd,osl⟩/\RT K cdv qual=WX
 kp:PY K (.ref f)=WX
section
variable{P:LR}{w:Mn}{K:Frag}{mg:Str->Option gV}{base:Heap}
def Fun.ok {N ps:List Str}{k:Nat}{sp:Sp}(F:Fun K x qual st f fd)(F2:ie N ps (aF st))(len:∀vs H Q E,sp vs H Q E->vs.length=ps.length)(j:∀(cdv:gV) (A:Mq) (outer:List Env) (s:tv) (H:Hp) (vs:List V) (Q:VK) (E:XK),Room k (A.deeper (TK qual (aF st) s.heap.objs.size f cdv))->sp vs H Q E->
   ∃t,PSs (jd CX0 P w K mg base N qual (aF st) f cdv A outer s H E).nox (cj st) t/\t {nx:=λ_ H'=>Q .non H',rt:=Q} (dq N vs) H):eB P w K mg base CX0 (k+1) f fd ps sp:=by
 let⟨oc,od,kV,doc,pm,an,cdv,ct,osl,rfl,lk,z⟩:=F.ex;calc Fp lk z F2 len λA outer s H vs Q E hr B=>?_;let⟨t,h,q⟩:=j cdv A outer s H vs Q E hr B;show⟨t,h.nox,q⟩
def Fun.binds{ps:List Str}(F:Fun K x qual st f fd)(h:∀(kV doc pm:gV) (an:Option WZ) (cdv ct:gV) (us:List gV),us.length=ps.length->bindArgs (Pq x qual (dW st) (cj st) (aF st) .none kV doc pm an cdv ct) ⟨us,[]⟩=pure (ps.zip us)):Binds K fd ps []:=by let⟨oc,od,kV,doc,pm,an,cdv,ct,osl,rfl,lk,j⟩:=F.ex;show .all (h kV doc pm an cdv ct)
def ah{oc:gV}{od an:Option WZ}{osl:Array (Option gV)}{kV doc pm cdv ct:gV}(l:K.lookup f=S ⟨oc,od,.func (Pq x qual (dW st) (cj st) (aF st) .none kV doc pm an cdv ct),osl⟩)(c:RT K cdv qual=WX)(k:PY K (.ref f)=WX):Fun K x qual st f (Pq x qual (dW st) (cj st) (aF st) .none kV doc pm an cdv ct):=⟨⟨oc,od,kV,doc,pm,an,cdv,ct,osl,rfl,l,c⟩,k⟩
end
end
end L2
namespace HT
open PySem PySem.Spec PyProof.Rows
section
variable{prog:LR}{w:Mn}{A:Mq}{E:gV->tv->Prop}{s:tv}
def getItem_tuple_whole{t sl:WZ}{items:Array gV}{vl vu:gV}{lo hi:Option Int}{Q:gV->tv->Prop}(ht:VJ s.heap t items)(hs:s.heap.IsSliceOf sl vl vu .none)(pl:T8 vl lo)(pu:T8 vu hi)(hw:sIx items.size 0 lo=0/\sIx items.size items.size hi=items.size)(h:Q (.ref t) s):LD (model prog w) A (Sr (.ref t) (.ref sl)) Q E s:=by
 let⟨os,j,q,F⟩:=id hs;let z:s.TypeIs (.ref sl) "slice":=⟨os,j,q⟩;unfold Sr
 try with_reducible refine Np ?_
 first|refine b3 (D2 ?_)|skip
 refine b3 (UX ht.typeIs (·) ?_)
 refine b3 (Mo (name:=MU "__getitem__") ht.typeIs Od
  (Mc Od ht.typeIs Ud ?_ (UE _ _)))
 change LD _ _ (PZ (.ref t)>>=_) _ _ s;calc b3 (tupleItemsOf_ ht ?_);calc b3 (Ry z ?_);rw[if_pos (·)]
 calc b3 (eC hs pl pu ?_);let B:(((sIx items.size 0 lo:Nat):Int)==0&&(1:Int)==1&&(sIx items.size items.size hi-sIx items.size 0 lo)==items.size)=WX:=by rw[hw.1,hw.2];simp
 change LD _ _ (if(((sIx items.size 0 lo:Nat):Int)==0&&(1:Int)==1&&(sIx items.size items.size hi-sIx items.size 0 lo)==items.size)=WX then _ else _) _ _ s
 rw[if_pos B];calc b3 (m:=RX (.ref t)) ?_;unfold RX;calc b3 (Ry ht.typeIs (D2 ?_));change LD _ _ (if WX=WX then _ else _) _ _ s
 rw[if_pos rfl];show b3 (NI (D2 ⟨_,rfl,D2 h⟩))
end
end HT
namespace L2
open PySem PySem.Spec PyProof.Rows
section
section
variable{X:Cx}
abbrev GJ(K:Frag):V->Option Int->Option Int->Hp->VK->Prop:=λx lo hi H Q=>∃a xs,x=.ref a/\SqT K H a xs/\(HT.sIx xs.length 0 lo=0/\HT.sIx xs.length xs.length hi=xs.length)/\Q x H
def yY:SlR X (GJ X.K):=by
 intro pins s σ H x v vl vu lo hi sl Q I rx hs pl pu h;let⟨a,xs,rfl,hx,hw,q⟩:=h
 cases rx
 let⟨its,r,ht,hz⟩:=I.tuple hx;let hlen:=r.length;calc⟨"tuple",_,slot_tuple_getitem.lookup,ht.typeIs,?_⟩;calc HT.getItem_tuple_whole ht hs pl pu (by rw[LA,<-hlen];show hw) ⟨.ref a,H,I,rfl,q⟩
end
end
variable{u:gV}{y:V}{P:LR}{w:Mn}{H H':Hp}{kvs:List (List Key×V)}{xs:List (List Key×WZ×gV)}{b a:WZ}{h':Heap}{t':Nat}{X:Cx}{pins:List (WZ×Obj)}{σ:St}{s:tv}
section
section
variable{κ:Type}[DecidableEq κ]
abbrev bY(kvs:List (κ×V))(k:κ):Option V:=(kvs.find? λkv=>decide (kv.1=k)).map (·.2)
abbrev cu(kvs:List (κ×V))(k:κ)(v:V):List (κ×V):=if(kvs.any λkv=>decide (kv.1=k))=WX then kvs.map (λkv=>if kv.1=k then(kv.1,v)else kv)else kvs++[(k,v)]
def fO{p:κ×V}{r:List (κ×V)}{k:κ}(e:p.1=k):bY (p::r) k=S p.2:=by simp[bY,NT,e]
def fP{p:κ×V}{r:List (κ×V)}{k:κ}(e:¬p.1=k):bY (p::r) k=bY r k:=by simp[bY,NT,e]
def oT(k:κ):∀kvs:List (κ×V),(kvs.any λkv=>decide (kv.1=k))=(bY kvs k).isSome
 |[]=>rfl
 |p::r=>by
  rw[O6]
  by_cases e:p.1=k
  ·simp only[fO e,decide_eq_true e,Bool.true_or,UH]
  ·rw[fP e,decide_eq_false e,Rc];show oT k r
def iZ(kvs:List (κ×V))(k:κ)(v:V):(cu kvs k v).length<=kvs.length+1:=by
 unfold cu
 split
 ·rw[s9];lia
 ·rw[I7,My,Nm];lia
def RelO.isSome_eq{o:Option V}{u:Option gV}(r:RelO o u):o.isSome=u.isSome:=by
 cases o with
 | none=>cases u with
   |none=>rfl
   |some _=>show(show False from r).elim
 | some _=>cases u with
   |none=>show(show False from r).elim
   |some _=>rfl
def KV.val{kvs:List (κ×V)}{vs:List (κ×gV)}(r:KV kvs vs)(k:κ):RelO (bY kvs k) (Ub vs k):=by
 unfold KV at r
 induction r with
 |nil=>show Nx
 |@cons p q ps qs h t ih=>
  let⟨h1,h2⟩:=h
  by_cases e:p.1=k
  ·let e':q.1=k:=h1.symm.trans e;let b:Ub (q::qs) k=S q.2:=by simp[Ub,NT,e']
   rw[fO e,b];show h2
  ·let e':¬q.1=k:=λz=>e (h1.trans z);let b:Ub (q::qs) k=Ub qs k:=by simp[Ub,NT,e']
   rw[fP e,b];show ih
def KV.any{kvs:List (κ×V)}{vs:List (κ×gV)}(r:KV kvs vs)(k:κ):(kvs.any λkv=>decide (kv.1=k))=vs.any λkv=>decide (kv.1=k):=by
 unfold KV at r
 induction r with
 |nil=>rfl
 |cons h t ih=>rw[O6,O6,ih,h.1]
def KV.repl{kvs:List (κ×V)}{vs:List (κ×gV)}(r:KV kvs vs)(k:κ)(ry:RelV y u):
 KV (kvs.map λkv=>if kv.1=k then(kv.1,y)else kv) (vs.map λkv=>if kv.1=k then(kv.1,u)else kv):=by
 unfold KV at r⊢
 induction r with
 |nil=>show .nil
 |@cons p q ps qs h t ih=>
  rw[LL,LL];calc .cons ?_ ih;let⟨h1,h2⟩:=h
  by_cases e:p.1=k
  ·rw[if_pos e,if_pos (h1.symm.trans e)];show⟨h1,ry⟩
  ·rw[if_neg e,if_neg (λz=>e (h1.trans z))];show⟨h1,h2⟩
def KV.put{kvs:List (κ×V)}{vs:List (κ×gV)}(r:KV kvs vs)(k:κ)(ry:RelV y u):KV (cu kvs k y) (stored vs k u):=by
 unfold cu stored;rw[r.any k]
 by_cases e:(vs.any λkv=>decide (kv.1=k))=WX
 ·rw[if_pos e,if_pos e];show r.repl k ry
 ·rw[if_neg e,if_neg e];show Paired.snoc r ⟨rfl,ry⟩
def KV.length{kvs:List (κ×V)}{vs:List (κ×gV)}(r:KV kvs vs):kvs.length=vs.length:=OD r
end
def u9{k:Key}(r:RelV (kV k) u):(b4 P w).is k u=WX:=by
 cases k with
 |inl i=>let⟨t,e⟩:=(show ∃t,u=QW i t from r);subst e;show rq P w i t
 |inr x=>let⟨t,e⟩:=(show ∃t,u=U9 x t from r);subst e;show rA P w x t
def mJ{P:LR}{w:Mn}:∀{ks:List Key} {us:List gV},Vals (ks.map kV) us->ItemsAre (b4 P w) ks us
 |[],_,r=>by rw[Pt]at r;cases r;show .nil
 |k::ks,_,r=>by
  rw[LL]at r
  cases r with
  |cons h t=>show .cons (u9 h) (mJ t)
noncomputable abbrev KT(H:Hp):List (List Key×V)->List (List Key×WZ×gV)->Prop:=N6 λp q=>p.1=q.1/\H q.2.1=S (.tup (p.1.map kV))/\RelV p.2 q.2.2
def KT.val(r:KT H kvs xs)(k:List Key):RelO (bY kvs k) ((Qh xs k).map (·.2)):=by
 induction r with
 |nil=>show Nx
 |@cons p q ps qs h t ih=>
  let⟨h1,_,h2⟩:=h
  by_cases e:p.1=k
  ·let e':q.1=k:=h1.symm.trans e;let b:Qh (q::qs) k=S q.2:=by simp[Qh,NT,e']
   rw[fO e,b];show h2
  ·let e':¬q.1=k:=λz=>e (h1.trans z);let b:Qh (q::qs) k=Qh qs k:=by simp[Qh,NT,e']
   rw[fP e,b];show ih
def KT.repl(r:KT H kvs xs)(k:List Key)(ry:RelV y u):
 KT H (kvs.map λkv=>if kv.1=k then(kv.1,y)else kv) (xs.map (putAt k u)):=by
 induction r with
 |nil=>show .nil
 |@cons p q ps qs h t ih=>
  rw[LL,LL];calc .cons ?_ ih;let⟨h1,h2,j⟩:=h;unfold putAt
  by_cases e:p.1=k
  ·rw[if_pos e,if_pos (h1.symm.trans e)];show⟨h1,h2,ry⟩
  ·rw[if_neg e,if_neg (λz=>e (h1.trans z))];show⟨h1,h2,j⟩
def KT.put(r:KT H kvs xs)(k:List Key)(j:H b=S (.tup (k.map kV)))(ry:RelV y u):
 KT H (cu kvs k y) (Q7 xs k b u):=by
 let e:(kvs.any λkv=>decide (kv.1=k))=(Qh xs k).isSome:=by rw[oT,(r.val k).isSome_eq,Option.isSome_map]
 unfold cu Q7;rw[e]
 by_cases q:(Qh xs k).isSome=WX
 ·rw[if_pos q,if_pos q];show r.repl k ry
 ·rw[if_neg q,if_neg q];show Paired.snoc r ⟨rfl,j,ry⟩
def KT.keeps(r:KT H kvs xs)(ht:∀b ys,H b=S (.tup ys)->H' b=S (.tup ys)):KT H' kvs xs:=WD r λ_ _ z=>⟨z.1,ht _ _ z.2.1,z.2.2⟩
section
variable{P:LR}{w:Mn}{H:Hp}{h:Heap}{a:WZ}
def AZ{u:HO}(ok:HOk P w H h)(e:Rd H a u):ObjOk P w H h a u:=e.ok ok
def ua{kvs:List (Key×V)}(ok:HOk P w H h)(e:Rd H a (.dK kvs)):kvs.length<=Ls/\(a==Nr)=WY/\∃vs,KV kvs vs/\h.DictOf (b4 P w) a vs:=show ObjOk P w H h a (.dK kvs)from AZ ok e
def Fs{kvs:List (Key×V)}(ok:HOk P w H h)(e:H a=S (.dK kvs)):kvs.length<=Ls/\(a==Nr)=WY/\∃vs,KV kvs vs/\h.DictOf (b4 P w) a vs:=ua ok (.inl e)
def oU{ks:List Key}(ok:HOk P w H h)(e:H a=S (.tup (ks.map kV))):(SH (b4 P w)).is h ks a:=by let⟨_,its,r,o,h1,h2,n,j⟩:=(show ObjOk P w H h a (.tup (ks.map kV))from ok a _ e);show⟨o,its.toArray,n,h1,h2,j,by simpa using mJ r⟩
def ub(ok:HOk P w H h)(e:Rd H a (.dT kvs)):kvs.length<=Ls/\(a==Nr)=WY /\
 ∃xs,KT H kvs xs/\h.DictOfH (SH (b4 P w)) a xs:=by
 let⟨z,y,xs,r,o,es,ep,h1,h2,j,B,F⟩:=(show ObjOk P w H h a (.dT kvs)from AZ ok e);calc⟨z,y,xs,r,o,es,ep,h1,h2,j,B,λx hx=>?_,F⟩;let all:∀{l:List (List Key×V)} {m:List (List Key×WZ×gV)},KT H l m->∀x∈m,(SH (b4 P w)).is h x.1 x.2.1:=by
  intro l m q
  induction q with
  |nil=>intro x hx;show nomatch hx
  |@cons p q ps qs hq t ih=>
   intro x hx
   rcases Lw.mp hx with e|hx
   ·subst e;show oU ok (by rw[<-hq.1];show hq.2.1)
   ·show ih x hx
 show all r x hx
def Ft(ok:HOk P w H h)(e:H a=S (.dT kvs)):kvs.length<=Ls/\(a==Nr)=WY /\
 ∃xs,KT H kvs xs/\h.DictOfH (SH (b4 P w)) a xs:=ub ok (.inl e)
end
abbrev DGet(H:Hp)(a:WZ)(y:V)(r:Option V):Prop:=(∃kvs k,Rd H a (.dK kvs)/\y=kV k/\r=bY kvs k)∨∃kvs k b,Rd H a (.dT kvs)/\y=.ref b/\H b=S (.tup (k.map kV))/\r=bY kvs k
abbrev DPut(H:Hp)(a:WZ)(y v:V)(H':Hp):Prop:=
 (∃kvs k,H a=S (.dK kvs)/\y=kV k/\kvs.length<Ls/\H'=upd H a (.dK (cu kvs k v))) ∨
 ∃kvs k b,H a=S (.dT kvs)/\y=.ref b/\H b=S (.tup (k.map kV))/\kvs.length<Ls/\H'=upd H a (.dT (cu kvs k v))
def DGet.k{kvs:List (Key×V)}{k:Key}(e:H a=S (.dK kvs)):DGet H a (kV k) (bY kvs k):=.inl ⟨kvs,k,.inl e,rfl,rfl⟩
def DPut.k{kvs:List (Key×V)}{k:Key}{v:V}(e:H a=S (.dK kvs))(j:kvs.length<Ls):DPut H a (kV k) v (upd H a (.dK (cu kvs k v))):=.inl ⟨kvs,k,e,rfl,j,rfl⟩
def DPut.t{k:List Key}{v:V}(e:H a=S (.dT kvs))(eb:H b=S (.tup (k.map kV)))(j:kvs.length<Ls):DPut H a (.ref b) v (upd H a (.dT (cu kvs k v))):=.inr ⟨kvs,k,b,e,rfl,eb,j,rfl⟩
section
variable{X:Cx}{pins:List (WZ×Obj)}{σ:St}{H:Hp}{s:tv}{a:WZ}{y v:V}{u r:gV}{o:Option V}{A:Mq}{E:gV->tv->Prop}
def Inv.big(I:Inv X pins σ H s):Nr<s.heap.objs.size:=by let h:Nq<s.heap.objs.size:=(I.mod.glob.keeps I.bk).lt;show Nat.lt_trans (·) h
def wb{Q:gV->tv->Prop}(q:A.units+1<NW)(I:Inv X pins σ H s)(g:DGet H a y (S v))(ry:RelV y u)(h:∀w' s',Inv X pins σ H s'->RelV v w'->Q w' s'):
 LD (model X.prog X.w) A (Sr (.ref a) u) Q E s:=by
 rcases g with⟨kvs,k,e,ey,l⟩|⟨kvs,k,b,e,ey,eb,l⟩
 ·subst ey;let⟨z,hd,vs,rel,dd⟩:=ua I.hok e;let⟨w',hw,rw'⟩:=WN (v:=v) (o:=Ub vs k) (by rw[l];show rel.val k)
  show wpAny_getItem_of (u9 ry) dd.mapOf hw (h w' _ (I.tok _) rw')
 ·subst ey
  cases(show u=Ms b from ry)
  let⟨z,hd,xs,rel,dd⟩:=ub I.hok e;let⟨w',hw,rw'⟩:=WN (v:=v) (o:=(Qh xs k).map (·.2)) (by rw[l];show rel.val k)
  let⟨p,B,j⟩:=O8.mp hw;calc UI (UJ q) (oU I.hok eb) dd B ?_;rw[j];show h w' _ (I.tok _) rw'
def fj{ob:HO}(I:Inv X pins σ H s)(mu:Mut (H a))(hs:Nt a s.heap h')(he:∃q,h'.get? a=S q)(new:ObjOk X.prog X.w (upd H a ob) h' a ob):
 Inv X pins σ (upd H a ob) {s with heap:=h',toks:=t'}:=
 I.write (x:=a) (e:=a) mu (.inl rfl) (λb q j z=>(hs.2 b j).trans z) he new
def DW{kvs:List (Key×V)}{vs:List (Key×gV)}(z:kvs.length<=Ls)(hd:(a==Nr)=WY)(rel:KV kvs vs)(dd:h'.DictOf (b4 P w) a vs):ObjOk P w H' h' a (.dK kvs):=⟨z,hd,vs,rel,dd⟩
def wc{Q:Unit->tv->Prop}(F:A.units+1<NW)(I:Inv X pins σ H s)(g:DPut H a y v H')(ry:RelV y u)(rv:RelV v r)(h:∀s',Inv X pins σ H' s'->Q () s'):
 LD (model X.prog X.w) A (T7 (.ref a) u r) Q E s:=by
 rcases g with⟨kvs,k,e,ey,l,eH⟩|⟨kvs,k,b,e,ey,eb,l,eH⟩
 ·subst ey eH;let⟨z,hd,vs,rel,dd⟩:=Fs I.hok e;let hz:vs.length<=Ls:=by rw[<-rel.length];show z
  let B:(cu kvs k v).length<=Ls:=by let:=iZ kvs k v;lia
  calc wpAny_setItem_pairs (hsz:=hz) (u9 ry) dd λh' dd' hs=>h _ ?_;let he:∃q,h'.get? a=S q:=let⟨q,_,_,j,_⟩:=dd'; ⟨q,j⟩;show fj I (by rw[e];show Nx) hs he (DW B hd (rel.put k rv) dd')
 ·subst ey eH
  cases(show u=Ms b from ry)
  let⟨z,hd,xs,rel,dd⟩:=Ft I.hok e;let hz:xs.length<=Ls:=by rw[<-OD rel];show z
  let B:(cu kvs k v).length<=Ls:=by let:=iZ kvs k v;lia
  calc UK (hsz:=hz) (UJ F) (oU I.hok eb) dd λh' dd' hs=>h _ ?_;let⟨q,es,ep,j,h2,G,J,_,L⟩:=dd';refine fj I (by rw[e];show Nx) hs ⟨q,j⟩ ⟨B,hd,_,(rel.put k eb rv).keeps λc ys ec=>?_,q,es,ep,j,h2,G,J,L⟩
  rw[av (F9 ec e (λz=>nomatch z))];show ec
end
def yZ(h:Heap)(j:Nr<h.objs.size):ObjOk P w H (h.push {cls:=.type "dict",data:=.dict #[]}) h.objs.size (.dK []):=⟨NM _,beq_eq_false_iff_ne.mpr (Ne.symm (Mh j)),[],.nil,Heap.DictOf.new h⟩
def z9(h:Heap)(j:Nr<h.objs.size):ObjOk P w H (h.push {cls:=.type "dict",data:=.dict #[]}) h.objs.size (.dT []):=⟨NM _,beq_eq_false_iff_ne.mpr (Ne.symm (Mh j)),[],.nil,_,#[],0,Lu _ rfl,⟨rfl,rfl,rfl⟩,rfl,rfl,RY⟩
abbrev DX:TE:=λ_ H Q=>∀p,H p=Y->Q (.ref p) (upd H p (.dK []))
abbrev DY:TE:=λ_ H Q=>∀p,H p=Y->Q (.ref p) (upd H p (.dT []))
section
variable{X:Cx}{pos:Pos}
def za:PE X (.Dict [] [] pos) DX:=λpins s σ H Q I h=>SM ⟨.ref s.heap.objs.size,_,I.laid (a:=s.heap.objs.size) (o:=.dK []) (t':=s.toks) (λ_ _ q=>h7 _ q) (Lz _) (yZ s.heap I.big),rfl,h _ (I.hok.fresh (Lz _))⟩
def zb:PE X (.Dict [] [] pos) DY:=λpins s σ H Q I h=>SM ⟨.ref s.heap.objs.size,_,I.laid (a:=s.heap.objs.size) (o:=.dT []) (t':=s.toks) (λ_ _ q=>h7 _ q) (Lz _) (z9 s.heap I.big),rfl,h _ (I.hok.fresh (Lz _))⟩
end
structure M2(X:Cx)(o:Expr)(m:Str)(apos:Pos)(e f:Expr)(cpos:Pos):Prop where
 base:Sz o m X.env (eval o X.env)=eval o X.env
 few:((Po cpos (LV [e,f] X.env)).all (λx=>!x.1)&&(Wd cpos (TM [] X.env)).all (λx=>x.1.isSome)
  && decide (([e,f]:List Expr).length+([]:List Rz).length+(if([]:List Rz).isEmpty then 0 else 1)<30))=WX
 line:(apos.endLine==cpos.line)=WX
 trees:Po cpos (LV [e,f] X.env)=[(WY,eval e X.env),(WY,eval f X.env)]
abbrev IsD(H:Hp)(a:WZ):Prop:=(∃kvs,Rd H a (.dK kvs))∨∃kvs,Rd H a (.dT kvs)
def wd(I:Inv X pins σ H s)(d:IsD H a):
 s.TypeIs (.ref a) "dict"/\(∀b,Ms a=.ref b->∃ob,s.heap.get? b=S ob/\ob.dict=Y)/\(a==Nr)=WY:=by
 rcases d with⟨kvs,e⟩|⟨kvs,e⟩
 ·let⟨_,hd,vs,_,dd⟩:=ua I.hok e;refine⟨dd.typeIs,λb q=>?_,hd⟩
  cases q
  let⟨ob,_,_,h1,h2,_⟩:=dd;show⟨ob,h1,h2.2.1⟩
 ·let⟨_,hd,xs,_,dd⟩:=ub I.hok e;refine⟨dd.typeIs,λb q=>?_,hd⟩
  cases q
  let⟨ob,_,_,h1,h2,_⟩:=dd;show⟨ob,h1,h2.2.1⟩
end
variable{ifs:List Expr}{elt target iter:Expr}{gens:List MZ}{scope:Scope}{pos pos':Pos}{d:Nat}{acc:gV}{g:TG}{A:Mq}
section
abbrev bj(elt:Expr)(gens:List MZ)(scope:Scope)(pos:Pos)(d:Nat)(acc:gV)(env:Env)(k:Sem Fin):Sem Fin:=
 match gens[d+1]? with
 |some g'=>eval g'.iter env>>=fun x=>QC g'.iter.pos>>=fun _=>Om g'.iter env x>>=fun x=>holding [x] (Sx x)>>=fun it'=>runOwn (.compStart (.ListComp elt gens scope pos) (d+1) it' acc env) env>>=λ_=>k
 |none=>(eval elt env>>=λx=>call (.builtin "list.append") [acc,x]>>=λ_=>pure ())>>=λ_=>k
abbrev bu(ifs:List Expr)(env:Env):Sem Bool:=forIn ifs WX λc r=>if r=WX then do let ok <-isTrue c env (eval c env);pure (Px ok)else pure (Px r)
def oV(elt target iter:Expr)(ifs:List Expr)(gens:List MZ)(scope:Scope)(pos:Pos)(d:Nat)(it acc:gV)(env:Env)(hd:gens[d]?=S ⟨target,iter,ifs,0⟩)(j:∀g',gens[d+1]?=S g'->g'.is_async=0):
 compTurn (.ListComp elt gens scope pos) d it acc env=(QC iter.pos>>=λ_=>OO it>>=λr=>match r with
  |none=>pure (.done .next)
  |some v=>Rm target it v>>=fun _=>assign target env v>>=fun _=>bu ifs env>>=fun ok=>(if ok=WX then bj elt gens scope pos d acc env (again (.compLoop (.ListComp elt gens scope pos) d it acc env))else again (.compLoop (.ListComp elt gens scope pos) d it acc env))):=by
 unfold compTurn;simp only[hd];unfold bj bu
 cases hn:gens[d+1]? with
 |none=>rfl
 |some g'=>let⟨t',i',f',a'⟩:=g';let e:a'=0:=j _ hn;subst e;rfl
noncomputable abbrev TC:=St->Hp->(St->Hp->Prop)->Prop
abbrev cP(J:It)(g:TG)(tb:TC)(N:St->Hp->Prop)(σ:St)(H:Hp):Prop:=
 ∃W:Nat->Nat->St->Hp->Prop,(∃m,W 0 m σ H)/\∀i m σ H,W i m σ H->
  (J.stop i H/\N σ H)∨(J.go i H/\∃N':St->Hp->Prop,(∀σ' H',N' σ' H'->∃m',m'<m/\W (i+1) m' σ' H')/\∀x H',J.yld i H x H'->g x σ H' λσ2 H2=>tb σ2 H2 N')
abbrev PB(X:Cx)(F:Sem Fin->Sem Fin)(t:TC):Prop:=
 ∀(pins:List (WZ×Obj)) (s:tv) (σ:St) (H:Hp) (N:St->Hp->Prop) (k:Sem Fin) (Q:Fin->tv->Prop) (E:gV->tv->Prop),Inv X pins σ H s->t σ H N->
  (∀s' σ' H',Inv X pins σ' H' s'->N σ' H'->LD (model X.prog X.w) X.A k Q E s')->LD (model X.prog X.w) X.A (F k) Q E s
section
variable{X:Cx}
def nox{α:Type}{m:Sem α}{Q:α->tv->Prop}{E:gV->tv->Prop}(hx:∀e s,X.xe e s->False)(h:LD (model X.prog X.w) X.A m Q X.xe s):LD (model X.prog X.w) X.A m Q E s:=NH h (λ_ _ q=>q) λe s' q=>(hx e s' q).elim
abbrev jW(ts:List TT)(tb:TC):TC:=match ts with
 |[]=>tb
 |t::r=>λσ H N=>t σ H λb H1=>if b=WX then jW r tb σ H1 N else N σ H1
def jX{env:Env}{M:QB}{A:Mq}{Q:Bool->tv->Prop}{E:gV->tv->Prop}{s:tv}(h:Q WY s):∀ifs:List Expr,
 LD M A (forIn ifs WY λc r=>if r=WX then do let ok <-isTrue c env (eval c env);pure (Px ok)else pure (Px r)) Q E s
 |[]=>D2 h
 |c::r=>by rw[Py];simp only[Ml,if_false];show b3 (D2 (jX h r))
def oW(hx:∀e s,X.xe e s->False){tb:TC}{N:St->Hp->Prop}:∀{ifs:List Expr} {ts:List TT},N6 (λc t=>PT X c t) ifs ts->
 ∀(pins:List (WZ×Obj)) (s:tv) (σ:St) (H:Hp) (E:gV->tv->Prop),Inv X pins σ H s->jW ts tb σ H N->
 LD (model X.prog X.w) X.A (bu ifs X.env) (λok s'=>∃H',Inv X pins σ H' s'/\if ok=WX then tb σ H' N else N σ H') E s
 |_,_,.nil=>λpins s σ H E I h=>D2 ⟨H,I,by rw[if_pos rfl];show h⟩
 |c::ifs,_,.cons (b:=t) z hr=>by
  intro pins s σ H E I h;let ih:=oW hx hr (tb:=tb) (N:=N) pins;unfold bu at ih⊢;rw[Py];simp only[if_true];calc b3 (b3 (nox hx (thn (z pins s σ H _ I h) λb s1 B=>?_)));let⟨H1,q,j⟩:=B;refine D2 ?_
  cases b with
  |false=>rw[if_neg Lq]at j;show jX ⟨H1,q,by rw[if_neg Lq];show j⟩ ifs
  |true=>rw[if_pos rfl]at j;show ih s1 σ H1 E q j
def zc(hx:∀e s,X.xe e s->False){F:Sem Fin->Sem Fin}{tb:TC}(z:PB X F tb){ts:List TT}(B:N6 (λc t=>PT X c t) ifs ts):
 PB X (λk=>bu ifs X.env>>=λok=>if ok=WX then F k else k) (jW ts tb):=by
 intro pins s σ H N k Q E I h hk;calc b3 (thn (oW hx B pins s σ H E I h) λok s1 G=>?_);let⟨H1,q,j⟩:=G
 cases ok with
 |false=>rw[if_neg Lq]at j⊢;show hk s1 σ H1 q j
 |true=>rw[if_pos rfl]at j⊢;show z pins s1 σ H1 N k Q E q j hk
abbrev B0(p:WZ)(te:TE):TC:=λσ H N=>te σ H λx H1=>∃xs,H1 p=S (.lst xs)/\xs.length<Ls/\N σ (upd H1 p (.lst (xs++[x])))
def lf(hx:∀e s,X.xe e s->False){p:WZ}{te:TE}(he:PE X elt te)(hd:gens[d+1]?=Y):
 PB X (bj elt gens scope pos d (.ref p) X.env) (B0 p te):=by
 intro pins s σ H N k Q E I h q;unfold bj;rw[hd];calc b3 (b3 (nox hx (thn (he pins s σ H _ I h) λu s1 j=>?_)));let⟨x,H1,z,B,xs,e1,l1,F⟩:=j;calc b3 (nox hx (thn (mG (X:=X) pins s1 σ H1 (.ref p) [x] (.ref p) [u] (λ_ H2=>N σ H2) z rfl (.cons B .nil) ⟨p,xs,x,rfl,rfl,e1,l1,F⟩) λv s2 j=>?_));let⟨_,H2,G,_,J⟩:=j;show D2 (q s2 σ H2 G J)
def mK(hx:∀e s,X.xe e s->False)(F3:X.calm=WX)(hd:gens[d]?=S ⟨target,iter,ifs,0⟩)(ha:∀g',gens[d+1]?=S g'->g'.is_async=0)(hg:PG X target g){tb:TC}(j:PB X (λk=>bu ifs X.env>>=λok=>if ok=WX then bj elt gens scope pos d acc X.env k else k) tb){N:St->Hp->Prop}{it:WZ}{fp:List WZ}{tn:Nat->Heap->Prop}{J:It}(I:Inv X pins σ H s)(T:gB X.prog X.w X.K target J fp it tn)(t0:tn 0 s.heap)(f2:∀b∈fp,cN X pins H b)(h:cP J g tb N σ H):
 Q6 (model X.prog X.w) X.A (.compLoop (.ListComp elt gens scope pos) d (.ref it) acc X.env) (λr s'=>match r with|.ok _=>∃σ' H',Inv X pins σ' H' s'/\N σ' H'|.error _=>False) s:=by
 let⟨W,⟨m0,w0⟩,turn⟩:=h;let stat:∀{H':Hp},(∀b∈fp,H' b=Y)->∀b∈fp,cN X pins H' b:=λhn b j=>⟨hn b j,(f2 b j).2⟩;calc codeAny_loop rfl (λn s'=>∃i σ' H',Inv X pins σ' H' s'/\tn i s'.heap/\(∀b∈fp,H' b=Y)/\W i n σ' H') ?_ m0 ⟨0,σ,H,I,t0,λb j=>(f2 b j).1,w0⟩;rintro n s3 ⟨i,σ3,G,Z,B,F,w3⟩;change LD _ _ ((compTurn (.ListComp elt gens scope pos) d (.ref it) acc X.env).onRaise (λx=>do noteFrame x X.env;theTreesLotGoes x)) _ _ s3
 calc wpAny_noted ?_;rw[oV elt target iter ifs gens scope pos d (.ref it) acc X.env hd ha];calc b3 (PJ (b3 ?_));change LD (model X.prog X.w) X.A _ _ _ s3
 rcases turn i n σ3 G w3 with⟨stop,qn⟩|⟨go,N',hN,step⟩
 ·calc thn (T.done X rfl rfl rfl F3 i pins s3 σ3 G _ Z (stat F) B stop) λr s4 q=>?_;let⟨hr,I4⟩:=q;subst hr;show D2 ⟨σ3,G,I4,qn⟩
 ·calc thn (T.item X rfl rfl rfl F3 i pins s3 σ3 G _ Z (stat F) B go) λr s4 q=>?_;let⟨u,hr,h4⟩:=q;subst hr;calc b3 (thn h4 λ_ s5 q=>?_);let⟨x,H5,I5,r5,y5,z,L⟩:=q;let O:=I5.pinned (stat L) (T.obj _ _ z);calc b3 (nox hx (thn (hg _ s5 σ3 H5 x u _ O r5 (step x H5 y5)) λ_ s6 q=>?_));let⟨σ6,H6,I6,q6⟩:=q;calc j _ s6 σ6 H6 N' (again (.compLoop (.ListComp elt gens scope pos) d (.ref it) acc X.env)) _ _ I6 q6 λs7 σ7 H7 U n7=>?_;let⟨m',hm,w7⟩:=hN σ7 H7 n7;calc D2 ⟨rfl,m',hm,i+1,σ7,H7,U.unpinned,T.keep _ _ _ z λb j o e=>(U.pin (b,o) (LP _ (LP _ (dL j e)))).1,λb j=>?_,w7⟩;let⟨o,e,dd⟩:=T.obj _ _ z b j;show(U.pin (b,o) (LP _ (LP _ (dL j e)))).2.1
def jY {it:gV}{env:Env}{prog:LR}{R:Vn->tv->Prop}(hd:gens[d]?=S ⟨target,iter,ifs,0⟩)(h0:Q6 (model prog w) A (.compLoop (.ListComp elt gens scope pos) d it acc env) R s)(h:LD (model prog w) A (Sx it) (fun it' s'=>Q6 (model prog w) A (.compLoop (.ListComp elt gens scope pos) d it' acc env) R s')
   (notedBy (model prog w) A env λx s'=>R (.error x) s') s):
 Q6 (model prog w) A (.compStart (.ListComp elt gens scope pos) d it acc env) R s:=by
 calc codeAny_of_tree ?_;change LD _ _ ((compStart (.ListComp elt gens scope pos) d it acc env).onRaise (λx=>do noteFrame x env;QC theWindowsPlace)) _ _ s
 calc wpAny_notedAt ?_;unfold compStart;let j:(clausesOf (.ListComp elt gens scope pos))[d]?=S ⟨target,iter,ifs,0⟩:=hd;rw[j];change LD _ _ (ask>>=_) _ _ s;refine b3 (wpAny_askSetting (wpAny_ite ?_))
 split
 ·first
   |show b3 (D2 (D2 (R0 rfl h0)))
   |show D2 (R0 rfl h0)
 ·first
   |show b3 (NI (b3 (PJ (b3 (NH h (λit' s' h'=>D2 (R0 rfl h')) λ_ _ x=>x)))))
   |(calc b3 (NI ?_);change LD _ _ (QC iter.pos>>=_) _ _ s;show b3 (PJ (b3 (NH h (λit' s' h'=>D2 (R0 rfl h')) λ_ _ x=>x))))
def mM(hx:∀e s,X.xe e s->False)(q:X.calm=WX)(hd:gens[d+1]?=S ⟨target,iter,ifs,0⟩)(z:∀g',gens[d+1+1]?=S g'->g'.is_async=0){wi:TI}(hi:PI X target iter wi)(B:PG X target g){tb:TC}(F:PB X (λk=>bu ifs X.env>>=λok=>if ok=WX then bj elt gens scope pos (d+1) acc X.env k else k) tb)(hs:∀x,Om iter X.env x=pure x):
 PB X (bj elt gens scope pos d acc X.env) (λσ H N=>wi σ H λJ H1=>cP J g tb N σ H1):=by
 intro pins s σ H N k Q E I h hk;unfold bj;rw[hd];calc b3 (nox hx (thn (hi pins s σ H _ I h) λv s1 h1=>?_));calc b3 (PJ (b3 (Q0 (hs v) ?_)));calc b3 (Np (nox hx (thn h1 λitv s2 h2=>?_)));let⟨it,fp,tn,J,H2,e,G,T,j,f2,hw⟩:=h2;subst e;let loop:=mK (acc:=acc) hx q hd z B F G T j f2 hw;refine b3 (wpAny_runOwn (QG (jY (R:=λr s'=>match r with|.ok _=>∃σ' H',Inv X pins σ' H' s'/\N σ' H'|.error _=>False) hd loop (T.self _ 0 _ _ _ j loop)) λr s3 hr=>?_))
 cases r with
 |error e=>show hr.elim
 |ok f=>let⟨σ3,L,O,U⟩:=hr;show hk s3 σ3 L O U
abbrev b7(cells:List (Str×WZ)):List (Str×Ph)->List (Str×WZ)->List (Str×WZ)
 |[],acc=>acc
 |(n,k)::r,acc=>if k==.free then(match cells.lookup n with|some c=>b7 cells r ((n,c)::acc)|none=>b7 cells r acc)else b7 cells r acc
def j3{env:Env}:∀(names:List (Str×Ph)) (acc:List (Str×WZ)),(∀x∈names,x.2=.free->(env.cells.lookup x.1).isSome=WX)->
 (forIn names acc λ(x:Str×Ph) (r:List (Str×WZ))=>(match x with|(name,kind)=>if(kind==Mr)=WX then do let c <-cellOf env name;pure (Px ((name,c)::r))else pure (Px r):Sem (ForInStep (List (Str×WZ)))))=(pure (b7 env.cells names acc):Sem (List (Str×WZ)))
 |[],acc,_=>rfl
 |(n,k)::r,acc,h=>by
  rw[Py];let ih:=λacc'=>j3 r acc' λx hx=>h x (Mf _ hx);unfold b7
  by_cases hk:(k==Mr)=WX
  ·let⟨c,q⟩:=P4.mp (h (n,k) Nk (beq_iff_eq.mp hk));let j:env.cells.lookup n=S c:=q;let e1:cellOf env n=pure c:=by unfold cellOf;rw[j]
   simp only[hk,if_true,e1,j,pure_bind];show ih _
  ·simp only[hk,if_false,pure_bind];show ih _
def jZ{env:Env}(h:∀x∈scope.names,x.2=.free->(env.cells.lookup x.1).isSome=WX):closureFor scope env=pure (b7 env.cells scope.names []):=by unfold closureFor;let e:=j3 (env:=env) scope.names [] h;simp only[bind_pure];show e
def dN{cells:List (Str×WZ)}{y:Str}{c:WZ}:∀{names:List (Str×Ph)} {acc:List (Str×WZ)},(y,c)∈b7 cells names acc->(y,c)∈acc∨(cells.lookup y=S c/\(y,Mr)∈names)
 |[],acc,h=>.inl h
 |(n,k)::r,acc,h=>by
  unfold b7 at h
  by_cases hk:(k==Mr)=WX
  ·rw[if_pos hk]at h;let B:k=.free:=beq_iff_eq.mp hk;subst B
   cases F:cells.lookup n with
   |none=>
    rw[F]at h
    rcases dN h with z|⟨j,q⟩
    ·show .inl z
    ·show .inr ⟨j,Mf _ q⟩
   |some c'=>
    rw[F]at h
    rcases dN h with z|⟨j,q⟩
    ·rcases Lw.mp z with e|z
     ·cases e
      show .inr ⟨F,Nk⟩
     ·show .inl z
    ·show .inr ⟨j,Mf _ q⟩
  ·rw[if_neg hk]at h
   rcases dN h with z|⟨j,q⟩
   ·show .inl z
   ·show .inr ⟨j,Mf _ q⟩
def dO{cells:List (Str×WZ)}{y:Str}{c:WZ}(j:cells.lookup y=S c):∀{names:List (Str×Ph)} {acc:List (Str×WZ)},((y,c)∈acc∨(y,Mr)∈names)->(y,c)∈b7 cells names acc
 |[],acc,h=>by
  rcases h with h|h
  ·show h
  ·simp at h
 |(n,k)::r,acc,h=>by
  unfold b7
  by_cases hk:(k==Mr)=WX
  ·rw[if_pos hk];let q:k=.free:=beq_iff_eq.mp hk;subst q
   cases hl:cells.lookup n with
   |none=>
    refine dO j ?_
    rcases h with h|h
    ·show .inl h
    ·rcases Lw.mp h with e|h
     ·cases e;rw[hl]at j;cases j
     ·show .inr h
   |some c'=>
    refine dO j ?_
    rcases h with h|h
    ·show .inl (Mf _ h)
    ·rcases Lw.mp h with e|h
     ·cases e;rw[hl]at j;cases j;show .inl Nk
     ·show .inr h
  ·rw[if_neg hk];refine dO j ?_
   rcases h with h|h
   ·show .inl h
   ·rcases Lw.mp h with e|h
    ·cases e;show absurd rfl hk
    ·show .inr h
def dG:∀(names:List (Str×Ph)) (n:Nat) (acc acc':List (Str×WZ)),Oo n names (acc++acc')=Oo n names acc++acc'
 |[],_,_,_=>rfl
 |(x,k)::r,n,acc,acc'=>by
  unfold Oo
  by_cases j:(k==Oh)=WX
  ·rw[if_pos j,if_pos j];show dG r (n+1) ((x,n)::acc) acc'
  ·rw[if_neg j,if_neg j];show dG r n acc acc'
def dH:∀{names:List (Str×Ph)} {n:Nat} {acc:List (Str×WZ)} {y:Str} {c:WZ},(y,c)∈Oo n names acc->(y,c)∈acc∨(n<=c/\(y,Oh)∈names)
 |[],_,_,_,_,h=>.inl h
 |(x,k)::r,n,acc,y,c,h=>by
  unfold Oo at h
  by_cases hk:(k==Oh)=WX
  ·rw[if_pos hk]at h;let j:k=.cell:=beq_iff_eq.mp hk;subst j
   rcases dH h with z|⟨q,B⟩
   ·rcases Lw.mp z with e|z
    ·cases e;show .inr ⟨Lz _,Nk⟩
    ·show .inl z
   ·show .inr ⟨Nat.le_of_succ_le q,Mf _ B⟩
  ·rw[if_neg hk]at h
   rcases dH h with z|⟨q,B⟩
   ·show .inl z
   ·show .inr ⟨q,Mf _ B⟩
structure bm(sc osc:Scope)(oN N':List Str)(fr:List (Option Nat)):Prop where
 kind:sc.kind=.function
 nd:(sc.names.map (·.1)).Nodup
 ndN:N'.Nodup
 free:∀x∈sc.names,x.2=.free->osc.names.lookup x.1=S .cell∨osc.names.lookup x.1=S .free
 len:fr.length=N'.length
 fr:∀(i j:Nat) (x:Str),N'[i]?=S x->fr[i]?=S (S j)->oN[j]?=S x/\(x,Mr)∈sc.names
abbrev inh(fr:List (Option Nat))(σ:St):St:=fr.map λo=>o.bind λj=>(σ[j]?).join
abbrev bn(X:Cx)(sc:Scope)(L:WZ):Env:={scope:=relabel sc X.env,locals:=L,globals:=X.env.globals,cells:=Oo (L+1) sc.names (b7 X.env.cells sc.names []),qual:=X.env.qual,func:=Y,code:=X.env.code,frame:=X.env.frame,builtins:=X.env.builtins}
abbrev aO(X:Cx)(sc:Scope)(N':List Str)(s:tv)(H:Hp)(fp:List WZ):Cx:={X with N:=N',s₀:=s,H₀:=H,env:=bn X sc s.heap.objs.size,outer:=X.stack,stack:=X.stack,ex:=fp,fn:=λx=>sc.names.lookup x==S .cell,pn:=[],xe:=λ_ _=>False}
def b5:∀{l:List (Str×Ph)} {x:Str} {k:Ph},(l.map (·.1)).Nodup->(x,k)∈l->l.lookup x=S k
 |(y,k')::r,x,k,nd,h=>by
  let nd':(y::r.map (·.1)).Nodup:=nd;let⟨q,z⟩:=Ov.mp nd';rw[OF]
  rcases Lw.mp h with e|hm
  ·cases e;simp
  ·let j:(x==y)=WY:=by
    calc beq_eq_false_iff_ne.mpr λe=>?_;subst e;show q (LI.mpr ⟨(x,k),hm,rfl⟩)
   rw[j];show b5 z hm
def cQ{env:Env}:∀{names:List (Str×Ph)} {x:Str},
 (names.map fun (n,k)=>if(k==Mr&&env.scope.kind==.function&&env.kindOf n==S .cell)then(n,Oh)else(n,k)).lookup x =
   (names.lookup x).map λk=>if(k==Mr&&env.scope.kind==.function&&env.kindOf x==S .cell)then Oh else k
 |[],_=>rfl
 |(n,k)::r,x=>by
  let ih:=cQ (env:=env) (names:=r) (x:=x);change List.lookup x ((if(k==Mr&&env.scope.kind==.function&&env.kindOf n==S .cell)=WX then(n,Oh)else(n,k))::_)=_
  rw[OF (a:=x) (b:=k)]
  by_cases hx:x=n
  ·subst hx;simp only[beq_self_eq_true];change _=S (if(k==Mr&&env.scope.kind==.function&&env.kindOf x==S .cell)=WX then Oh else k)
   by_cases j:(k==Mr&&env.scope.kind==.function&&env.kindOf x==S .cell)=WX
   ·rw[if_pos j,if_pos j,OF];simp only[beq_self_eq_true]
   ·rw[if_neg j,if_neg j,OF];simp only[beq_self_eq_true]
  ·let q:(x==n)=WY:=beq_eq_false_iff_ne.mpr hx;rw[q]
   by_cases j:(k==Mr&&env.scope.kind==.function&&env.kindOf n==S .cell)=WX
   ·rw[if_pos j,OF,q];show ih
   ·rw[if_neg j,OF,q];show ih
section
variable{pins:List (WZ×Obj)}{σ:St}{H:Hp}{s:tv}{sc:Scope}{N':List Str}{fr:List (Option Nat)}{fp:List WZ}
def gG(I:Inv X pins σ H s)(B:bm sc X.env.scope X.N N' fr):∀x∈sc.names,x.2=.free->(X.env.cells.lookup x.1).isSome=WX:=λx hx e=>by let⟨c,j⟩:=I.ok.has x.1 (B.free x hx e);rw[j];rfl
def we(I:Inv X pins σ H s)(f2:∀b∈fp,cN X pins H b)(Z:∀b∈fp,b<s.heap.objs.size)(B:bm sc X.env.scope X.N N' fr):
 Inv (aO X sc N' s H fp) [] (inh fr σ) H {s with heap:=Vr (s.heap.push {cls:=.type "dict",data:=.dict #[]}) sc.names}:=by
 let G:∀b o,s.heap.get? b=S o->(Vr (s.heap.push {cls:=.type "dict",data:=.dict #[]}) sc.names).get? b=S o:=λb o e=>Ts _ _ b o (h7 _ e);let ok:=cellsFrom_ok sc.names (s.heap.push {cls:=.type "dict",data:=.dict #[]}) (s.heap.objs.size+1) [] ⟨λ_ _ hm=>(nomatch hm),Ss⟩ (by rw[Ny];show Lz _)
 rw[Ny]at ok;let capp:Oo (s.heap.objs.size+1) sc.names (b7 X.env.cells sc.names [])=Oo (s.heap.objs.size+1) sc.names []++b7 X.env.cells sc.names []:=dG sc.names _ [] _;let cof:∀x c,(bn X sc s.heap.objs.size).cells.lookup x=S c->((x,c)∈Oo (s.heap.objs.size+1) sc.names []/\s.heap.objs.size<c)∨(X.env.cells.lookup x=S c/\(x,Mr)∈sc.names):=λx c e=>by
  let m:=NL e;let m':(x,c)∈Oo (s.heap.objs.size+1) sc.names (b7 X.env.cells sc.names []):=m;rw[capp]at m'
  rcases Lv.mp m' with z|z
  ·show .inl ⟨z,(ok.empty x c z).2⟩
  ·rcases dN z with q|q
   ·simp at q
   ·show .inr q
 let cOld:∀x c,X.env.cells.lookup x=S c->c<s.heap.objs.size:=λx c e=>by let⟨v,q⟩:=I.cell x c e;show q.lt
 let kindF:∀x,(x,Mr)∈sc.names->(bn X sc s.heap.objs.size).kindOf x=S .cell∨(bn X sc s.heap.objs.size).kindOf x=S .free:=λx hx=>by
  let e1:sc.names.lookup x=S .free:=b5 B.nd hx;let e2:(bn X sc s.heap.objs.size).kindOf x=_:=cQ (env:=X.env) (names:=sc.names) (x:=x);rw[e1]at e2;rw[e2]
  by_cases J:(Mr==Mr&&X.env.scope.kind==.function&&X.env.kindOf x==S .cell)=WX
  ·show .inl (by simp only[Pz,if_pos J])
  ·show .inr (by simp only[Pz,if_neg J])
 let cellF:∀x c,(x,Mr)∈sc.names->X.env.cells.lookup x=S c->(bn X sc s.heap.objs.size).cells.lookup x=S c:=λx c hx J=>by
  let m:=dO (acc:=[]) J (.inr hx);let m2:(x,c)∈(bn X sc s.heap.objs.size).cells:=by change(x,c)∈Oo (s.heap.objs.size+1) sc.names (b7 X.env.cells sc.names []);rw[capp];show LP _ m
  cases F:(bn X sc s.heap.objs.size).cells.lookup x with
  |none=>
   exfalso
   let:∀{l:List (Str×WZ)},(x,c)∈l->l.lookup x=Y->False:=by
    intro l
    induction l with
    |nil=>intro h;simp at h
    |cons a r ih=>
     intro h e;let⟨y,d⟩:=a;rw[OF]at e
     rcases Lw.mp h with z|z
     ·cases z;simp at e
     ·by_cases hxy:(x==y)=WX
      ·rw[hxy]at e;cases e
      ·simp only[R3]at hxy;rw[hxy]at e;show ih z e
   show this m2 F
  |some c'=>
   rcases cof x c' F with⟨z,_⟩|⟨z,_⟩
   ·rcases dH z with q|⟨_,q⟩
    ·simp at q
    ·let a1:=b5 B.nd hx;let a2:=b5 B.nd q;rw[a1]at a2;cases a2
   ·rw[J]at z;rw[z]
 let kindC:∀x,(bn X sc s.heap.objs.size).kindOf x=S .cell->(x,Oh)∈sc.names∨(x,Mr)∈sc.names:=λx e=>by
  let e2:(bn X sc s.heap.objs.size).kindOf x=_:=cQ (env:=X.env) (names:=sc.names) (x:=x);rw[e2]at e
  cases F:sc.names.lookup x with
  |none=>rw[F]at e;cases e
  |some k=>
   rw[F]at e;let m:=NL F
   cases k with
   |cell=>show .inl m
   |free=>show .inr m
   |«local»=>simp at e
   |globalImplicit=>simp at e
   |globalExplicit=>simp at e
 let kindFr:∀x,(bn X sc s.heap.objs.size).kindOf x=S .free->(x,Mr)∈sc.names:=λx e=>by
  let e2:(bn X sc s.heap.objs.size).kindOf x=_:=cQ (env:=X.env) (names:=sc.names) (x:=x);rw[e2]at e
  cases F:sc.names.lookup x with
  |none=>rw[F]at e;cases e
  |some k=>
   rw[F]at e;let m:=NL F
   cases k with
   |free=>show m
   |cell=>simp at e
   |«local»=>simp at e
   |globalImplicit=>simp at e
   |globalExplicit=>simp at e
 refine⟨⟨I.ok.mod,B.kind,I.ok.glob,I.ok.blt,Lz _,λy z c h1 h2=>?_,λy hy=>?_,λy c hf h=>?_,I.ok.hd,I.ok.frames,.inl rfl,λb O=>⟨?_,λx c e=>?_⟩,λb o e=>I.bs b o e,?_,λb o e O=>?_,λb O=>?_,I.stack,I.stkFree⟩,
  rfl,I.bare,Un.kept G,⟨_,(Heap.Ns.new s.heap (.type "dict")).keeps (Ts _ _),λi x v h1 h2 h3=>?_⟩,λy c h=>?_,I.hok.fresh (Lz _),λy c h=>?_,λp hp=>absurd (show p∈([]:List (WZ×Obj))from hp) (_),I.hok.kept G,?_⟩
 ·rcases cof y c h1 with⟨a1,a2⟩|⟨a1,a2⟩
  ·rcases cof z c h2 with⟨F3,b2⟩|⟨F3,b2⟩
   ·show name_of_addr ok.apart a1 F3
   ·show absurd (cOld z c F3) (Wf.mpr (Q5 a2))
  ·rcases cof z c h2 with⟨F3,b2⟩|⟨F3,b2⟩
   ·show absurd (cOld y c a1) (Wf.mpr (Q5 b2))
   ·show I.ok.inj y z c a1 F3
 ·let Jc:(y,Oh)∈sc.names∨(y,Mr)∈sc.names:=by
   rcases hy with hy|hy
   ·show kindC y hy
   ·show .inr (kindFr y hy)
  rcases Jc with q|q
  ·show P4.mp (QH sc.names _ _ (.inl (b5 B.nd q)))
  ·let⟨c,J⟩:=P4.mp (gG I B _ q rfl);show⟨c,cellF y c q J⟩
 ·let Jd:(sc.names.lookup y==S .cell)=WX:=hf;let Ja:sc.names.lookup y=S .cell:=by simpa using Jd
  rcases cof y c h with⟨_,a2⟩|⟨_,a2⟩
  ·show Q5 a2
  ·rw[b5 B.nd a2]at Ja;cases Ja
 ·show Mh (Z b O)
 ·rcases cof x c e with⟨_,a2⟩|⟨a1,_⟩
  ·show OU (Nat.lt_trans (Z b O) a2)
  ·show(f2 b O).2.2.2.2.1 x c a1
 ·show MR I.ok.bsz I.sz
 ·let⟨f0,f1,f3,f4,f5,f6⟩:=f2 b O
  rcases f4 with z|z
  ·show I.ok.noex b o e z
  ·show absurd (Mk (Mk (LB e) I.ok.bsz) z) (Nb _)
 ·let⟨f0,f1,f3,f4,f5,f6⟩:=f2 b O;showλz=>(Lw.mp (I.stkSub b z)).elim f1 f3
 ·let hi:∃j,fr[i]?=S (S j)/\σ[j]?=S (S v):=by
   unfold inh at h2;rw[Ly]at h2
   cases e:fr[i]? with
   |none=>rw[e]at h2;cases h2
   |some o=>
    rw[e]at h2
    cases o with
    |none=>cases h2
    |some j=>
     calc⟨j,rfl,?_⟩;let L:S ((σ[j]?).join)=S (S v):=h2
     cases e':σ[j]? with
     |none=>rw[e']at L;cases L
     |some w=>rw[e']at L;cases L;rfl
  let⟨j,e1,e2⟩:=hi;let⟨n1,n2⟩:=B.fr i j x h1 e1;let⟨m,hn,F⟩:=I.loc;let hv:Vis X.env.scope x:=.inr (B.free (x,.free) n2 rfl);let⟨u,ru,lk⟩:=F j x v n1 e2 hv;refine⟨u,ru,.inr ⟨kindF x n2,?_⟩⟩
  rcases lk with⟨k1,_⟩|⟨_,c,J,U⟩
  ·let Jb:X.env.scope.names.lookup x=S .local:=k1
   rcases B.free (x,.free) n2 rfl with z|z
   ·rw[Jb]at z;cases z
   ·rw[Jb]at z;cases z
  ·show⟨c,cellF x c n2 J,U.keeps G⟩
 ·rcases cof y c h with⟨a1,a2⟩|⟨a1,a2⟩
  ·show⟨_,(ok.empty y c a1).1⟩
  ·let⟨v,q⟩:=I.cell y c a1;show⟨v,q.keeps G⟩
 ·rcases cof y c h with⟨a1,a2⟩|⟨a1,a2⟩
  ·show I.hok.fresh (Q5 a2)
  ·show I.freeC y c a1
 ·change(inh fr σ).length=N'.length;unfold inh;rw[s9];show B.len
def mN{σ':St}{s':tv}(I:Inv X pins σ H s)(f2:∀b∈fp,cN X pins H b)(J:Inv (aO X sc N' s H fp) [] σ' H' s')(hs:Nt s.heap.objs.size s'.heap h'):
 Inv X pins σ H' {s' with heap:=h'}:=by
 let u:Un (frs X.stack) fp H H' s.heap s'.heap:=J.base;let ne:∀b o,s.heap.get? b=S o->b≠s.heap.objs.size:=λb o e=>Mh (LB e);refine I.call' (s':={s' with heap:=h'}) (ch:=fp) J.os ⟨λb o e n j hx=>?_,λb o e n j hx=>?_,u.free,λb o e hx=>?_,u.tups,u.frzs,u.tbls⟩ (λb v e=>?_) J.bare λb j=>?_
 ·show(hs.2 b (ne b o e)).trans (u.keep b o e n j hx)
 ·let⟨sl,q⟩:=u.slot b o e n j hx;show⟨sl,(hs.2 b (ne b o e)).trans q⟩
 ·let⟨o',q⟩:=u.there b o e hx;show⟨o',(hs.2 b (ne b o e)).trans q⟩
 ·calc(J.hok b v e).stay (λc w F q=>(hs.2 c ?_).trans q) (λ_ q=>q) λ_ _ q=>q;let fr:H' s.heap.objs.size=Y:=J.free
  rcases F with z|z
  ·rw[z];intro B;rw[B,fr]at e;cases e
  ·intro B;rw[B,fr]at z;cases z
 ·let⟨f0,f1,O,f4,G,L⟩:=f2 b j;show⟨f4,f1,G,L⟩
def nN {Q:Env->tv->Prop}{E:gV->tv->Prop}{M:QB}(h:Q {scope:=sc,locals:=s.heap.objs.size,globals:=X.env.globals,cells:=Oo (s.heap.objs.size+1) sc.names (b7 X.env.cells sc.names []),qual:=X.env.qual,func:=Y,code:=X.env.code,frame:=X.env.frame,builtins:=X.env.builtins}
   {s with heap:=Vr (s.heap.push {cls:=.type "dict",data:=.dict #[]}) sc.names}):
 LD M A (TQ sc X.env.globals (b7 X.env.cells sc.names []) [] X.env.qual Y .none (S X.env)) Q E s:=by
 simp only[TQ,UH,if_true];calc b3 (wpAny_alloc ?_);refine b3 (wpAny_layCells _ (λname kind cells=>by cases hkc:kind==Oh<;>simp[hkc]) _ _ _ _ ?_)
 rw[show({s with heap:=s.heap.push {cls:=.type "dict",data:=.dict #[]}}:tv).heap.objs.size=s.heap.objs.size+1 from Ny ..]
 show b3 (D2 (D2 h))
def oZ(hc:X.calm=WX){rest:List MZ}{E:gV->tv->Prop}(hx:∀e s,X.xe e s->False)(B:bm sc X.env.scope X.N N' fr)(ha:∀g',rest[0]?=S g'->g'.is_async=0){wi:TI}(hi:PI X target iter wi){tb:WZ->TC}(hg:∀s H fp,PG (aO X sc N' s H fp) target g)(j:∀s H fp p,PB (aO X sc N' s H fp) (λk=>bu ifs (aO X sc N' s H fp).env>>=λok=>if ok=WX then bj elt (⟨target,iter,ifs,0⟩::rest) sc pos 0 (.ref p) (aO X sc N' s H fp).env k else k) (tb p)){Nn:WZ->St->Hp->Prop}{RR:gV->WZ->Vn->tv->Prop}(I:Inv X pins σ H s)(h:wi σ H λJ H1=>∀p,H1 p=Y->cP J g (tb p) (Nn p) (inh fr σ) (upd H1 p (.lst [])))(hR:∀p fp s3 L s' σ' H' f,Inv X pins σ L s3->(∀b∈fp,cN X pins L b)->Inv (aO X sc N' s3 L fp) [] σ' H' s'->Nn p σ' H'->RR (.ref p) s3.heap.objs.size (.ok f) s'):
 LD (model X.prog X.w) X.A (eval iter X.env) (λx s₁=>LD (model X.prog X.w) X.A (Sx x) (λit s₂=>LD (model X.prog X.w) X.A (newList []) (λacc s₃=>
  LD (model X.prog X.w) X.A (TQ sc X.env.globals (b7 X.env.cells sc.names []) [] X.env.qual Y .none (S X.env)) (λcenv s₄=>Q6 (model X.prog X.w) X.A (.compStart (.ListComp elt (⟨target,iter,ifs,0⟩::rest) sc pos) 0 it acc {cenv with scope:=relabel sc X.env}) (RR acc cenv.locals) s₄) E s₃) E s₂) E s₁) E s:=by
 calc nox hx (thn (hi pins s σ H _ I h) λv s1 h1=>nox hx (thn h1 λitv s2 h2=>?_));let⟨it,fp,tn,J,H2,e,Z,T,q,f2,hw⟩:=h2;subst e;let hf:H2 s2.heap.objs.size=Y:=Z.hok.fresh (Lz _);calc SA ?_;let I3:Inv X pins σ (upd H2 s2.heap.objs.size (.lst [])) {s2 with heap:=s2.heap.push {cls:=.type "list",dict:=Y,data:=.seq ([]:List gV).toArray}}:=Z.laid (t':=s2.toks) (λb u e=>h7 _ e) (Lz _) ⟨NM _,[],0,.nil,Lu _ rfl⟩
 let fneq:∀b∈fp,b≠s2.heap.objs.size:=λb j z=>by let⟨o,e,_⟩:=T.obj _ _ q b j;show absurd (LB e) (by rw[z];show Nb _)
 let O:∀b∈fp,cN X pins (upd H2 s2.heap.objs.size (.lst [])) b:=λb j=>⟨by rw[av (fneq b j)];show(f2 b j).1,(f2 b j).2⟩
 let U:∀b∈fp,b<(s2.heap.push {cls:=.type "list",dict:=Y,data:=.seq ([]:List gV).toArray}).objs.size:=λb j=>by let⟨o,e,_⟩:=T.obj _ _ q b j;rw[Ny];show V1 (LB e)
 let F3:tn 0 (s2.heap.push {cls:=.type "list",dict:=Y,data:=.seq ([]:List gV).toArray}):=T.keep _ _ _ q λb _ o e=>h7 _ e;calc nN ?_;let G:=we (N':=N') I3 O U B;let F:=T.keep _ (h':=Vr (({s2 with heap:=s2.heap.push {cls:=.type "list",dict:=Y,data:=.seq ([]:List gV).toArray}}:tv).heap.push {cls:=.type "dict",data:=.dict #[]}) sc.names) _ F3 λb _ o e=>Ts _ _ b o (h7 _ e)
 let f4:∀b∈fp,cN (aO X sc N' {s2 with heap:=s2.heap.push {cls:=.type "list",dict:=Y,data:=.seq ([]:List gV).toArray}} (upd H2 s2.heap.objs.size (.lst [])) fp) [] (upd H2 s2.heap.objs.size (.lst [])) b:=λb j=>⟨(O b j).1,(G.ok.exf b j).1,G.ok.exfs b j,.inl j,(G.ok.exf b j).2,λp hp=>absurd (show p∈([]:List (WZ×Obj))from hp) (_)⟩
 let loop:=mK (X:=aO X sc N' {s2 with heap:=s2.heap.push {cls:=.type "list",dict:=Y,data:=.seq ([]:List gV).toArray}} (upd H2 s2.heap.objs.size (.lst [])) fp) (λ_ _ z=>z) hc
  (elt:=elt) (pos:=pos) (scope:=sc) (gens:=⟨target,iter,ifs,0⟩::rest) (d:=0) (acc:=.ref s2.heap.objs.size) rfl (λg' e=>ha g' (by simpa using e)) (hg _ _ _) (j _ _ _ _) G T F f4 (hw _ hf)
 refine QG (jY (R:=λr s'=>match r with|.ok _=>∃σ' H',Inv (aO X sc N' {s2 with heap:=s2.heap.push {cls:=.type "list",dict:=Y,data:=.seq ([]:List gV).toArray}} (upd H2 s2.heap.objs.size (.lst [])) fp) [] σ' H' s'/\Nn s2.heap.objs.size σ' H'|.error _=>False)
  (gens:=⟨target,iter,ifs,0⟩::rest) (d:=0) rfl loop (T.self _ 0 _ _ _ F loop)) λr s5 hr=>?_
 cases r with
 |error e=>show hr.elim
 |ok f=>let⟨σ5,H5,I5,n5⟩:=hr;show hR _ fp _ _ s5 σ5 H5 f I3 O I5 n5
abbrev uc(wi:TI)(g:TG)(tb:WZ->TC)(fr:List (Option Nat)):TE:=λσ H Q=>wi σ H λJ H1=>∀p,H1 p=Y->cP J g (tb p) (λ_ H2=>Q (.ref p) H2) (inh fr σ) (upd H1 p (.lst []))
def mQ(B:bm sc X.env.scope X.N N' fr):∀x∈sc.names,x.2=.local->sc.names.lookup x.1=S .local:=λx hx e=>by let⟨n,k⟩:=x;let e':k=.local:=e;subst e';show b5 B.nd hx
def j4(z:X.calm=WX){rest:List MZ}(hx:∀e s,X.xe e s->False)(B:bm sc X.env.scope X.N N' fr)(F:∀g',rest[0]?=S g'->g'.is_async=0){wi:TI}(hi:PI X target iter wi){tb:WZ->TC}(G:∀s H fp,PG (aO X sc N' s H fp) target g)(L:∀s H fp p,PB (aO X sc N' s H fp) (λk=>bu ifs (aO X sc N' s H fp).env>>=λok=>if ok=WX then bj elt (⟨target,iter,ifs,0⟩::rest) sc pos 0 (.ref p) (aO X sc N' s H fp).env k else k) (tb p))(hs:∀x,Om iter X.env x=pure x):
 PE X (.ListComp elt (⟨target,iter,ifs,0⟩::rest) sc pos) (uc wi g tb fr):=by
 intro pins s σ H Q I h;rw[eval_ListComp];calc SD (use:=Y) rfl hs (jZ (gG I B)) B.kind (mQ B) (oZ (Nn:=λp _ H2=>Q (.ref p) H2) (RR:=λacc C=>compPost (model X.prog X.w) X.A X.xe Y (EP X pins σ Q) acc C) z hx B F hi G L I h ?_);intro p fp s3 Z s' σ' H' f O U J q;let⟨m,F3,_⟩:=J.loc;show⟨m,F3,λh' j=>⟨.ref p,H',mN O U J j,rfl,q⟩⟩
set_option tactic.hygienic true
def ka(hc:X.calm=WX){rest:List MZ}{spos:Pos}{x:Str}{i:Nat}(hx:∀e s,X.xe e s->False)(B:bm sc X.env.scope X.N N' fr)(ha:∀g',rest[0]?=S g'->g'.is_async=0){wi:TI}(hi:PI X target iter wi){tb:WZ->TC}(hg:∀s H fp,PG (aO X sc N' s H fp) target g)(F:∀s H fp p,PB (aO X sc N' s H fp) (λk=>bu ifs (aO X sc N' s H fp).env>>=λok=>if ok=WX then bj elt (⟨target,iter,ifs,0⟩::rest) sc pos 0 (.ref p) (aO X sc N' s H fp).env k else k) (tb p))(hs:∀x,Om iter X.env x=pure x)(G:PG X (.Name x pos') (jN i))(L:Qy (.ListComp elt (⟨target,iter,ifs,0⟩::rest) sc pos) (S (.Name x pos')) spos.line X.env=pure WX):
 PS X (.Assign [.Name x pos'] (.ListComp elt (⟨target,iter,ifs,0⟩::rest) sc pos) spos) (tR (uc wi g tb fr) (jN i)):=by
 intro pins s σ H D I h;rw[exec_Assign_Name_used _ _ _ _ L];calc b3 (PJ (b3 ?_));change LD _ X.A (do let _ <-comprehension (.ListComp elt (⟨target,iter,ifs,0⟩::rest) sc pos) sc X.env _ (newList []) WY (eval iter X.env) (S (assign (.Name x pos') X.env))) _ _ s
 refine b3 (NH (SD (use:=S (assign (.Name x pos') X.env)) (Q:=λ_ s'=>SP X pins D .next s') rfl hs (jZ (gG I B)) B.kind (mQ B)
  (oZ (Nn:=λp _ H2=>D.nx (σ.set i (S (.ref p))) H2) (RR:=λacc C=>compPost (model X.prog X.w) X.A X.xe (S (assign (.Name x pos') X.env)) (λ_ s'=>SP X pins D .next s') acc C) hc hx B ha hi hg F I h ?_)) (λ_ s' hq=>D2 (D2 hq)) λ_ _ e=>e)
 intro p fp s3 H3 s' σ' H' f j f3 J q;let⟨m,⟨o,es,ep,ho,hd,hk,hm⟩,_⟩:=J.loc;let I4:Inv X pins σ H' s':=mN (h':=s'.heap) j f3 J ⟨rfl,λ_ _=>rfl⟩;let hL:(aO X sc N' s3 H3 fp).env.locals=s3.heap.objs.size:=rfl;rw[hL]at ho;let O:H' s3.heap.objs.size=Y:=J.free;let neL:s3.heap.objs.size≠X.env.locals:=OU j.lt;let nfs:s3.heap.objs.size∉X.fs:=j.nofs (Lz _);let I5:Inv X (pins++[(s3.heap.objs.size,o)]) σ H' s':=I4.pins_of λpr U=>by
  rcases Lv.mp U with z|z
  ·show I4.pin pr (LP _ z)
  ·let e:pr=(s3.heap.objs.size,o):=by simpa using z
   subst e;show⟨ho,O,neL,nfs,λv z=>by rw[hd]at z;cases z⟩
 change LD _ X.A (assign (.Name x pos') X.env (.ref p)) _ _ _;calc thn (G _ s' σ H' (.ref p) (.ref p) D.nx I5 rfl q) λ_ s6 g9=>?_;let⟨σ6,H6,I6,q6⟩:=g9;let⟨F3,Z,_⟩:=I6.pin (s3.heap.objs.size,o) (LP _ (LP _ (_)))
 calc⟨m,⟨o,es,ep,F3,hd,hk,hm⟩,λh' Ja=>⟨σ6,H6,?_,q6⟩⟩;refine(I6.unpinned).turned (t':=s6.toks) (it:=s3.heap.objs.size) (λb o F e=>(Ja.2 b F).trans e) Z neL (.inr j.sz) (λy c e z=>?_) λpr U z=>?_
 ·let⟨v,q⟩:=j.cell y c e;show absurd q.lt (by rw[z];show Nb _)
 ·show absurd (LB (j.pin pr U).1) (by rw[z];show Nb _)
end
end
end
namespace Zp
set_option tactic.hygienic false
abbrev At(t:Bool)(h:Heap)(i l:WZ)(k:Nat):Prop:=match t with|true=>h.IsTupleIter i l k|false=>h.IsListIter i l k
abbrev Sq(t:Bool)(h:Heap)(l:WZ)(xs:Array gV):Prop:=match t with|true=>h.IsTuple l xs|false=>h.IsList l xs
variable{h:Heap}{i l:WZ}
def At.up{t:Bool}{h':Heap}{k:Nat}(x:At t h i l k)(e:∀o,h.get? i=S o->h'.get? i=S o):At t h' i l k:=by cases t<;>(let⟨o,ho,r⟩:=x;show⟨o,e o ho,r⟩)
variable{xs:Array gV}
def Sq.up{t:Bool}{h':Heap}(x:Sq t h l xs)(e:∀o,h.get? l=S o->h'.get? l=S o):Sq t h' l xs:=by cases t<;>(let⟨o,ho,r⟩:=x;show⟨o,e o ho,r⟩)
def At.lt{t:Bool}{k:Nat}(x:At t h i l k):∃o,h.get? i=S o/\∀v,o.data≠.cell v:=by cases t<;>(let⟨o,ho,j,hd⟩:=x;show⟨o,ho,λv z=>by rw[hd]at z;cases z⟩)
variable{x p r:gV}{z T j a b:WZ}{u:Bool}{ys:Array gV}
section
variable{prog:LR}{w:Mn}{A:Mq}{E:gV->tv->Prop}{s:tv}
open Builtin.SmallTypes in
def ze{k:Nat}{Q:gV->tv->Prop}(hi:s.heap.IsTupleIter i l k)(L:s.heap.IsTuple l xs)(hx:xs[k]?=S x)(q:∀h',h'.IsTupleIter i l (k+1)->Nt i s.heap h'->Q x {s with heap:=h'}):LD (model prog w) A (nextOf (.ref i)) Q E s:=by
 let⟨ob,z,B,j⟩:=id hi;let⟨oq,G,_,nq,J⟩:=L;unfold nextOf;calc b3 (Mo (name:=MU "__next__") hi.typeIs OK (Mc OK hi.typeIs RA ?_ (Rq _)));calc b3 (m:=field (.ref i) 0) (MB z j (x:=.ref l) rfl ?_);calc(if_neg (c:=(Ms l==Ou)=WX) Lq)▸?_;calc b3 (m:=field (.ref i) 1) (MB z j (x:=.int k 0) rfl ?_);calc b3 (m:=SN (.ref l)) (Nh G J ?_);simp only[LU,hx];refine b3 (wpAny_setField z j (_) (D2 ⟨x,rfl,D2 (q _ ⟨_,ON _ z (Obj.isFreed_of_fields (UL j _)),(Obj.cls_mapFields ..).trans B,?_⟩ (Pe ..))⟩))
 rw[UL j];simp[RP]
open Builtin.SmallTypes in
def Bz{k:Nat}{Q:gV->tv->Prop}(J:A.handled=Y)(hi:s.heap.IsTupleIter i l k)(L:s.heap.IsTuple l xs)(hx:xs[k]?=Y)(q:∀h' e,VM i s.heap h'->(∃o,h'.get? e=S o/\o.cls=.type "StopIteration")->E (.ref e) {s with heap:=h'}):LD (model prog w) A (nextOf (.ref i)) Q E s:=by
 let⟨ob,j,O,z⟩:=id hi;let⟨oq,B,_,nq,G⟩:=L;unfold nextOf;calc b3 (Mo (name:=MU "__next__") hi.typeIs OK (Mc OK hi.typeIs RA ?_ (Rq _)));calc b3 (m:=field (.ref i) 0) (MB j z (x:=.ref l) rfl ?_);calc(if_neg (c:=(Ms l==Ou)=WX) Lq)▸?_;calc b3 (m:=field (.ref i) 1) (MB j z (x:=.int k 0) rfl ?_);calc b3 (m:=SN (.ref l)) (Nh B G ?_);simp only[LU,hx];refine b3 (NI (b3 (wpAny_setField j z (_) ?_)))
 calc b3 (m:=Wg (.type "StopIteration") []) ?_;simp only[Wg,Wh];refine b3 (N8 ?_ (by size_fits))
 refine b3 (m:=Q1 _ _) (Q0 (a:=Ou) (by first|rfl|(simp only[Q1];rfl)) (N8 ?_ (by size_fits)))
 simp only[raiseNew];refine b3 (Up ?_)
 first|rw[show A.in1.handled=Y from J]|rw[J]
 show b3 (D2 (VN (q _ _ (((Pe ..).extBut.push _).push _) ⟨_,Lu _ rfl,rfl⟩)))
open Builtin.SmallTypes in
def dX{t:Bool}{k:Nat}{Q:gV->tv->Prop}(hi:At t s.heap i l k)(j:Sq t s.heap l xs)(hx:xs[k]?=S x)(q:∀h',At t h' i l (k+1)->Nt i s.heap h'->Q x {s with heap:=h'}):LD (model prog w) A (nextOf (.ref i)) Q E s:=by
 cases t with
 |true=>show ze hi j hx q
 |false=>show wpAny_nextOf_list_item hi j hx q
open Builtin.SmallTypes in
def nx_end{t:Bool}{k:Nat}{Q:gV->tv->Prop}(j:A.handled=Y)(hi:At t s.heap i l k)(z:Sq t s.heap l xs)(hx:xs[k]?=Y)(q:∀h' e,VM i s.heap h'->(∃o,h'.get? e=S o/\o.cls=.type "StopIteration")->E (.ref e) {s with heap:=h'}):LD (model prog w) A (nextOf (.ref i)) Q E s:=by
 cases t with
 |true=>show Bz j hi z hx q
 |false=>show wpAny_nextOf_list_end j hi z hx q
open Builtin.SmallTypes in
def DZ {O:WZ}{t:Bool}{k:Nat}{y:gV}{Q:gV->tv->Prop}(D:TR z T O i j a b)(hz:Su s.heap z T O .none)(hT:P6 s.heap T (.ref i) (.ref j))(hO:P6 s.heap O p r)(hi:At t s.heap i a k)(hj:At u s.heap j b k)(ha:Sq t s.heap a xs)(hb:Sq u s.heap b ys)(hx:xs[k]?=S x)(hy:ys[k]?=S y)(q:∀h',Su h' z T O (RP s.heap.objs.size)->P6 h' O x y->At t h' i a (k+1)->At u h' j b (k+1)->P6 h' s.heap.objs.size x y->
   (∀c o,c≠z->c≠O->c≠i->c≠j->s.heap.get? c=S o->h'.get? c=S o)->Q (.ref s.heap.objs.size) {s with heap:=h'}):
 LD (model prog w) A (O7.«zip.__next__» ⟨[.ref z],[]⟩) (λfin s'=>∃v,fin=.done (.ret v)/\Q v s') E s:=by
 calc b3 (m:=field (.ref z) 2) (MB hz rfl (x:=.bool WY) rfl ?_);calc b3 (m:=field (.ref z) 3) (MB hz rfl (x:=.ref T) rfl ?_);calc b3 (Nh hT rfl ?_);calc b3 (m:=ownedTupleIsFree (.ref z)) ?_;unfold ownedTupleIsFree;calc b3 (MB hz rfl (x:=.none) rfl (D2 ?_));simp only[if_true];refine b3 (NI (b3 (MB hz rfl (x:=.ref O) rfl (b3 (LZ hz (_) λg1 z1 s1=>?_)))))
 let Z1:Su g1 z T O .ellipsis:=z1;clear z1;calc b3 ?_;simp only[SO,VY,Py,TU];calc b3 (b3 (SE (b3 (m:=nextOf (.ref i)) ?_)));calc dX (hi.up λo e=>s1.extBut _ o D.i1z e) (ha.up λo e=>s1.extBut _ o D.l1z e) hx λg2 L s2=>D2 ?_;let O2:P6 g2 O p r:=s2.extBut _ _ D.TOi1 (s1.extBut _ _ D.TOz hO);calc b3 (Nh O2 rfl (b3 (Rk O2 λg3 o3 s3=>?_)));let O3:P6 g3 O x r:=o3;clear o3;calc b3 (Pk (D2 (b3 (b3 (SE (b3 (m:=nextOf (.ref j)) ?_))))));calc dX (hj.up λo e=>s3.extBut _ o D.TOi2.symm (s2.extBut _ o D.i12.symm (s1.extBut _ o D.i2z e))) (hb.up λo e=>s3.extBut _ o D.l2TO (s2.extBut _ o D.l2i1 (s1.extBut _ o D.l2z e))) hy λg4 U s4=>D2 ?_;let O4:P6 g4 O x r:=s4.extBut _ _ D.TOi2 O3;calc b3 (Nh O4 rfl (b3 (Rk O4 λB o5 s5=>?_)));let O5:P6 B O x y:=o5;clear o5;calc b3 (Pk (D2 (D2 (b3 (Nh O5 rfl (b3 (RZ ?_)))))));let sz:B.objs.size=s.heap.objs.size:=by rw[s5.1,s4.1,s3.1,s2.1,s1.1]
 let k5:∀c o,c≠z->c≠O->c≠i->c≠j->s.heap.get? c=S o->B.get? c=S o:=λc o F G F3 Z e=>s5.extBut _ _ G (s4.extBut _ _ Z (s3.extBut _ _ G (s2.extBut _ _ F3 (s1.extBut _ _ F e))))
 let Z5:Su B z T O .ellipsis:=s5.extBut _ _ D.TOz.symm (s4.extBut _ _ D.i2z.symm (s3.extBut _ _ D.TOz.symm (s2.extBut _ _ D.i1z.symm Z1)));let I5:At t B i a (k+1):=L.up λo e=>s5.extBut _ o D.TOi1.symm (s4.extBut _ o D.i12 (s3.extBut _ o D.TOi1.symm e));let J5:At u B j b (k+1):=U.up λo e=>s5.extBut _ o D.TOi2.symm e;let zl:z<B.objs.size:=LB Z5;calc b3 (m:=ownedTupleHandOut (.ref z) (.ref B.objs.size)) ?_;unfold ownedTupleHandOut;refine b3 (LZ (h7 _ Z5) (_) λg7 z7 s7=>?_)
 let Z7:Su g7 z T O (RP B.objs.size):=z7;clear z7;refine LZ Z7 (_) λJ z8 s8=>?_
 let Z8:Su J z T O (RP B.objs.size):=z8;clear z8;let up:∀c o,c≠z->B.get? c=S o->J.get? c=S o:=λc o F e=>s8.extBut _ _ F (s7.extBut _ _ F (h7 _ e));let P8:P6 J B.objs.size x y:=s8.extBut _ _ (OU zl) (s7.extBut _ _ (OU zl) (Lu _ rfl));rw[sz]at Z8 P8;calc D2 ⟨_,rfl,?_⟩;change Q (.ref B.objs.size) _;rw[sz];show q J Z8 (up _ _ D.TOz O5) (I5.up λo e=>up _ o D.i1z e) (J5.up λo e=>up _ o D.i2z e) P8 λc o F G F3 Z e=>up c o F (k5 c o F G F3 Z e)
open Builtin.SmallTypes in
def Fu{O:WZ}{t:Bool}{k:Nat}{Q:Fin->tv->Prop}(Z:A.handled=Y)(D:TR z T O i j a b)(hz:Su s.heap z T O .none)(hT:P6 s.heap T (.ref i) (.ref j))(hO:P6 s.heap O p r)(hi:At t s.heap i a k)(hj:At u s.heap j b k)(ha:Sq t s.heap a xs)(hb:Sq u s.heap b ys)(G:xs[k]?=Y∨ys[k]?=Y)(q:∀h' e,(∀c o,c≠z->c≠O->c≠i->c≠j->s.heap.get? c=S o->h'.get? c=S o)->(∃o,h'.get? e=S o/\o.cls=.type "StopIteration")->E (.ref e) {s with heap:=h'}):
 LD (model prog w) A (O7.«zip.__next__» ⟨[.ref z],[]⟩) Q E s:=by
 calc b3 (m:=field (.ref z) 2) (MB hz rfl (x:=.bool WY) rfl ?_);calc b3 (m:=field (.ref z) 3) (MB hz rfl (x:=.ref T) rfl ?_);calc b3 (Nh hT rfl ?_);calc b3 (m:=ownedTupleIsFree (.ref z)) ?_;unfold ownedTupleIsFree;calc b3 (MB hz rfl (x:=.none) rfl (D2 ?_));simp only[if_true];refine b3 (NI (b3 (MB hz rfl (x:=.ref O) rfl (b3 (LZ hz (_) λg1 z1 s1=>?_)))))
 let Z1:Su g1 z T O .ellipsis:=z1;clear z1;calc b3 ?_;simp only[SO,VY,Py,TU];calc b3 (b3 (SE (b3 (m:=nextOf (.ref i)) ?_)));let J:At t g1 i a k:=hi.up λo e=>s1.extBut _ o D.i1z e;let L:Sq t g1 a xs:=ha.up λo e=>s1.extBut _ o D.l1z e
 cases hx:xs[k]? with
 |none=>
  calc nx_end Z J L hx λg2 e s2 he=>?_;let⟨oe,B,F⟩:=he;let Z2:Su g2 z T O .ellipsis:=s2 _ _ D.i1z.symm Z1;let ez:e≠z:=λx=>by subst x;rw[Z2]at B;cases B;simp at F
  show LZ Z2 (_) λg3 _ s3=>q g3 e (λc o U _ F3 _ x=>s3.extBut _ _ U (s2 _ _ F3 (s1.extBut _ _ U x))) ⟨oe,s3.extBut _ _ ez B,F⟩
 |some x=>
  let hy:ys[k]?=Y:=G.elim (λz=>by rw[hx]at z;cases z) id
  calc dX J L hx λg2 Ja s2=>D2 ?_;let O2:P6 g2 O p r:=s2.extBut _ _ D.TOi1 (s1.extBut _ _ D.TOz hO);calc b3 (Nh O2 rfl (b3 (Rk O2 λg3 o3 s3=>?_)));calc b3 (Pk (D2 (b3 (b3 (SE (b3 (m:=nextOf (.ref j)) ?_))))));calc nx_end Z (hj.up λo e=>s3.extBut _ o D.TOi2.symm (s2.extBut _ o D.i12.symm (s1.extBut _ o D.i2z e))) (hb.up λo e=>s3.extBut _ o D.l2TO (s2.extBut _ o D.l2i1 (s1.extBut _ o D.l2z e))) hy λg4 e s4 he=>?_;let⟨oe,B,F⟩:=he;let Z4:Su g4 z T O .ellipsis:=s4 _ _ D.i2z.symm (s3.extBut _ _ D.TOz.symm (s2.extBut _ _ D.i1z.symm Z1));let ez:e≠z:=λx=>by subst x;rw[Z4]at B;cases B;simp at F
  show LZ Z4 (_) λg5 _ s5=>q g5 e (λc o U c2 F3 c4 x=>s5.extBut _ _ U (s4 _ _ c4 (s3.extBut _ _ c2 (s2.extBut _ _ F3 (s1.extBut _ _ U x))))) ⟨oe,s5.extBut _ _ ez B,F⟩
def nxt_item {O:WZ}{t:Bool}{k:Nat}{y:gV}{Q:Option gV->tv->Prop}(D:TR z T O i j a b)(hz:Su s.heap z T O .none)(B:P6 s.heap T (.ref i) (.ref j))(G:P6 s.heap O p r)(hi:At t s.heap i a k)(J:At u s.heap j b k)(L:Sq t s.heap a xs)(U:Sq u s.heap b ys)(hx:xs[k]?=S x)(F3:ys[k]?=S y)(q:∀h',Su h' z T O (RP s.heap.objs.size)->P6 h' O x y->At t h' i a (k+1)->At u h' j b (k+1)->P6 h' s.heap.objs.size x y->
   (∀c o,c≠z->c≠O->c≠i->c≠j->s.heap.get? c=S o->h'.get? c=S o)->Q (S (.ref s.heap.objs.size)) {s with heap:=h'}):
 LD (model prog w) A (OO (.ref z)) Q E s:=by
 let ty:s.TypeIs (.ref z) "zip":=⟨_,hz,rfl⟩;unfold OO;show b3 (P7 (Mo (name:=MU "__next__") ty Rr (Mc Rr ty Vs
  (DZ D hz B G hi J L U hx F3 λh' a1 a2 Z a4 a5 a6=>D2 (q h' a1 a2 Z a4 a5 a6)) (V2 _))))
def nxt_end{O:WZ}{t:Bool}{k:Nat}{Q:Option gV->tv->Prop}(G:A.handled=Y)(D:TR z T O i j a b)(hz:Su s.heap z T O .none)(J:P6 s.heap T (.ref i) (.ref j))(L:P6 s.heap O p r)(hi:At t s.heap i a k)(U:At u s.heap j b k)(F3:Sq t s.heap a xs)(Z:Sq u s.heap b ys)(B:xs[k]?=Y∨ys[k]?=Y)(q:∀h',(∀c o,c≠z->c≠O->c≠i->c≠j->s.heap.get? c=S o->h'.get? c=S o)->Q Y {s with heap:=h'}):LD (model prog w) A (OO (.ref z)) Q E s:=by
 let ty:s.TypeIs (.ref z) "zip":=⟨_,hz,rfl⟩;unfold OO;refine b3 (P7 (Mo (name:=MU "__next__") ty Rr (Mc Rr ty Vs
  (Fu G D hz J L hi U F3 Z B λh' e hk he=>?_) (V2 _))))
 let⟨o,ho,hc⟩:=he;show b3 (OG (T:="StopIteration") (b:=WX) ⟨o,ho,hc⟩ S0 (D2 (q _ hk)))
abbrev itO(t:Bool)(l:WZ):Obj:=match t with|true=>{cls:=.type "tuple_iterator",data:=.fields #[.ref l,.int 0 0]}|false=>{cls:=.type "list_iterator",data:=.fields #[.ref l,.int 0 0]}
abbrev zH1(h:Heap)(t:Bool)(a:WZ):Heap:=h.push (itO t a)
abbrev zH2(h:Heap)(t u:Bool)(a b:WZ):Heap:=(zH1 h t a).push (itO u b)
abbrev zH3(h:Heap)(t u:Bool)(a b:WZ):Heap:=(zH2 h t u a b).push {cls:=.type "tuple",data:=.seq #[.ref h.objs.size,.ref (zH1 h t a).objs.size]}
abbrev zH4(h:Heap)(t u:Bool)(a b:WZ):Heap:=(zH3 h t u a b).push {cls:=.type "tuple",data:=.seq #[.none,.none]}
abbrev zH5(h:Heap)(t u:Bool)(a b:WZ):Heap:=(zH4 h t u a b).push {cls:=.type "zip",data:=.fields #[.none,.bool WY,.bool WY,.ref (zH2 h t u a b).objs.size,.ref (zH3 h t u a b).objs.size]}
def wf(t u:Bool)(a b:WZ)(xs ys:Array gV):
 Meets (O7.«zip.__new__» ⟨[.type "zip",.ref a,.ref b],[]⟩) (λ_ R s=>Sq t s.heap a xs/\Sq u s.heap b ys/\R (.ok (.ret (.ref (zH4 s.heap t u a b).objs.size))) {s with heap:=zH5 s.heap t u a b}):=
 .of_wp λprog w A R s h=>by
  let⟨j,g,d,tk,os⟩:=s;let⟨q,z,h⟩:=h;let hs:=sub_zip
  cases t<;>cases u
  ·let e1:TV (Pm ⟨j,g,d,tk,os⟩) a xs:=q;let e2:TV (Pm ⟨j.push {cls:=.type "list_iterator",data:=.fields #[.ref a,.int 0 0]},g,d,tk,os⟩) b ys:=Vt z _
   wp_walk using Oq e1,Oq e2
   show⟨_,rfl,h⟩
  ·let e1:TV (Pm ⟨j,g,d,tk,os⟩) a xs:=q;let e2:RB (Pm ⟨j.push {cls:=.type "list_iterator",data:=.fields #[.ref a,.int 0 0]},g,d,tk,os⟩) b ys:=V3 z _
   wp_walk using Oq e1,NV e2
   show⟨_,rfl,h⟩
  ·let e1:RB (Pm ⟨j,g,d,tk,os⟩) a xs:=q;let e2:TV (Pm ⟨j.push {cls:=.type "tuple_iterator",data:=.fields #[.ref a,.int 0 0]},g,d,tk,os⟩) b ys:=Vt z _
   wp_walk using NV e1,Oq e2
   show⟨_,rfl,h⟩
  ·let e1:RB (Pm ⟨j,g,d,tk,os⟩) a xs:=q;let e2:RB (Pm ⟨j.push {cls:=.type "tuple_iterator",data:=.fields #[.ref a,.int 0 0]},g,d,tk,os⟩) b ys:=V3 z _
   wp_walk using NV e1,NV e2
   show⟨_,rfl,h⟩
def at_new{t:Bool}(e:h.get? i=S (itO t l)):At t h i l 0:=by cases t<;>show⟨_,e,rfl,rfl⟩
def call_zip {t:Bool}{Q:gV->tv->Prop}(ha:Sq t s.heap a xs)(hb:Sq u s.heap b ys)(q:∀h',Su h' (s.heap.objs.size+4) (s.heap.objs.size+2) (s.heap.objs.size+3) .none->P6 h' (s.heap.objs.size+2) (.ref s.heap.objs.size) (.ref (s.heap.objs.size+1))->
   P6 h' (s.heap.objs.size+3) .none .none->At t h' s.heap.objs.size a 0->At u h' (s.heap.objs.size+1) b 0->h'.objs.size=s.heap.objs.size+5->
   (∀c o,s.heap.get? c=S o->h'.get? c=S o)->Q (.ref (s.heap.objs.size+4)) {s with heap:=h'}):
 LD (model prog w) A (call (.type "zip") [.ref a,.ref b]) Q E s:=by
 refine callType_new F.called_zip (·) (F.typeCall_zip_2 _ _) (F.newCall_zip_2 _ _) (λobj=>F.args_object_init_3 obj _ _) F.entry_zip_new (wf t u a b xs ys) ⟨ha,hb,?_⟩
 let B:(zH1 s.heap t a).objs.size=s.heap.objs.size+1:=Ny ..;let G:(zH2 s.heap t u a b).objs.size=s.heap.objs.size+2:=by unfold zH2;rw[Ny,B]
 let J:(zH3 s.heap t u a b).objs.size=s.heap.objs.size+3:=by unfold zH3;rw[Ny,G]
 let L:(zH4 s.heap t u a b).objs.size=s.heap.objs.size+4:=by unfold zH4;rw[Ny,J]
 let z5:(zH5 s.heap t u a b).objs.size=s.heap.objs.size+5:=by unfold zH5;rw[Ny,L]
 let j:∀{c o},(zH4 s.heap t u a b).get? c=S o->(zH5 s.heap t u a b).get? c=S o:=λe=>h7 _ e;let z:∀{c o},(zH3 s.heap t u a b).get? c=S o->(zH4 s.heap t u a b).get? c=S o:=λe=>h7 _ e;let O:∀{c o},(zH2 s.heap t u a b).get? c=S o->(zH3 s.heap t u a b).get? c=S o:=λe=>h7 _ e;let F3:∀{c o},(zH1 s.heap t a).get? c=S o->(zH2 s.heap t u a b).get? c=S o:=λe=>h7 _ e;let k1:∀{c o},s.heap.get? c=S o->(zH1 s.heap t a).get? c=S o:=λe=>h7 _ e;let f:∀t l,(itO t l).isFreed=WY:=λt l=>by cases t<;>rfl
 let U:(zH5 s.heap t u a b).get? (zH4 s.heap t u a b).objs.size=S _:=Lu _ rfl;let Z:(zH5 s.heap t u a b).get? (zH3 s.heap t u a b).objs.size=S _:=j (Lu _ rfl);let g3:(zH5 s.heap t u a b).get? (zH2 s.heap t u a b).objs.size=S _:=j (z (Lu _ rfl));let g2:(zH5 s.heap t u a b).get? (zH1 s.heap t a).objs.size=S _:=j (z (O (Lu _ (f u b))));let g1:(zH5 s.heap t u a b).get? s.heap.objs.size=S _:=j (z (O (F3 (Lu _ (f t a)))));change _/\_;rw[G,J,L]at U;rw[B,G]at g3;rw[J]at Z;rw[B]at g2;rw[L];show⟨⟨_,U,rfl⟩,q _ U g3 Z (at_new g1) (at_new g2) z5 λc o x=>j (z (O (F3 (k1 x))))⟩
end
end Zp
variable{K:Frag}{elts:List Expr}
section
section
variable{X:Cx}{pins:List (WZ×Obj)}{σ:St}{H:Hp}{s:tv}{h':Heap}
def Inv.turnedL{fp:List WZ}(I:Inv X pins σ H s)(hf:∀b∈fp,cN X pins H b)(k:∀b o,b∉fp->s.heap.get? b=S o->h'.get? b=S o):Inv X pins σ H {s with heap:=h',toks:=t'}:=by
 let nit:∀b u,H b=S u->b∉fp:=λb u e z=>by rw[(hf b z).1]at e;cases e
 refine I.step (g':=s.gens) (d':=s.drawn) (ch:=fp) (λb B=>?_) (λb o _ _ j e _=>k b o j e) (λb o _ _ j e _=>⟨o.slots,k b o j e⟩) (λ_ _ _ _ n=>n)
  (λb o j e=>⟨o,k b o j e⟩) (λ_ _ e=>e) (λ_ _ _ e=>e) (λb ps e=>⟨#[],by rw[e];simp⟩) (λm hm=>?_) (λb u e=>?_) I.bare
 ·let⟨_,f1,_,F,f4,G⟩:=hf b B;show⟨F,f1,f4,G⟩
 ·let⟨o,es,ep,ho,r⟩:=hm;show⟨o,es,ep,k _ o (λz=>(hf _ z).2.1 rfl) ho,r⟩
 ·refine(I.hok b u e).stay (λc v j q=>k c v ?_ q) (λ_ q=>q) λ_ _ q=>q
  rcases j with z|z
  ·rw[z];show nit b u e
  ·show nit c _ z
end
abbrev SqV(K:Frag)(t:Bool)(H:Hp)(a:WZ)(xs:List V):Prop:=match t with|true=>SqT K H a xs|false=>SqL K H a xs
def Inv.sqv{t:Bool}{xs:List V}(I:Inv X pins σ H s)(h:SqV X.K t H a xs):∃its:List gV,Vals xs its/\Zp.Sq t s.heap a its.toArray:=by
 cases t with
 |true=>let⟨its,r,p,_⟩:=I.tuple h;show⟨its,r,p⟩
 |false=>let⟨its,r,p,_⟩:=I.list h;show⟨its,r,p.isList⟩
def Inv.sqv_inj{t:Bool}{xs ys:List V}(I:Inv X pins σ H s)(h:SqV X.K t H a xs)(h':SqV X.K t H a ys):xs=ys:=by
 cases t with
 |true=>show I.tuple_inj h h'
 |false=>show I.list_inj h h'
abbrev Itz(K:Frag)(t u:Bool)(a b:WZ):It:=
 ⟨λi H=>∃xs ys x y,SqV K t H a xs/\SqV K u H b ys/\xs[i]?=S x/\ys[i]?=S y,
  λi H v H'=>∃p x y,H p=Y/\v=.ref p/\H'=upd H p (.tup [x,y])/\∀xs ys,SqV K t H a xs->SqV K u H b ys->xs[i]?=S x/\ys[i]?=S y,
  λi H=>∃xs ys,SqV K t H a xs/\SqV K u H b ys/\(xs.length<=i∨ys.length<=i)⟩
def zf{cx}{t u:Bool}{z T O i j:WZ}(D:TR z T O i j a b):
 gB P w K (.Tuple elts cx pos) (Itz K t u a b) [z,T,O,i,j] z (λk h=>Su h z T O .none/\P6 h T (.ref i) (.ref j)/\(∃p r,P6 h O p r)/\Zp.At t h i a k/\Zp.At u h j b k) where
 mem:=by simp
 obj:=λk h ⟨hz,B,⟨p,r,F⟩,hi,G⟩ c q=>by
  simp only[Lw,LW,or_false]at q
  rcases q with rfl|rfl|rfl|rfl|rfl
  ·show⟨_,hz,λv e=>by cases e⟩
  ·show⟨_,B,λv e=>by cases e⟩
  ·show⟨_,F,λv e=>by cases e⟩
  ·show hi.lt
  ·show G.lt
 keep:=λk h h' g9 kk=>(by let⟨hz,B,⟨p,r,F⟩,hi,G⟩:=g9;show⟨kk z (_) _ hz,kk T (_) _ B,⟨p,r,kk O (_) _ F⟩,hi.up λo e=>kk i (_) o e,G.up λo e=>kk j (_) o e⟩)
 item:=by
  intro X U hw F3 q k pins s σ H E I hf st hg;subst U hw F3;let⟨hz,B,⟨p,r,F⟩,hi,G⟩:=st;let⟨xs,ys,x,y,qx,qy,ex,ey⟩:=hg;let⟨is,rx,px⟩:=I.sqv qx;let⟨js,ry,py⟩:=I.sqv qy;let⟨ux,Z,rux⟩:=rx.get ex;let⟨uy,Ja,ruy⟩:=ry.get ey;refine Zp.nxt_item D hz B F hi G px py (by simpa using Z) (by simpa using Ja) λh1 z1 o1 i1 j1 p1 L=>⟨_,rfl,?_⟩
  refine wpAny_letOwnedTupleGo_zip (s:={s with heap:=h1}) z1 λh2 z2 s2=>?_
  let lt:∀{c o},s.heap.get? c=S o->c≠s.heap.objs.size:=λe=>Mh (LB e);let nz:s.heap.objs.size≠z:=(lt hz).symm;let Jb:∃o,s.heap.get? i=S o:=hi.lt.imp λ_ h=>h.1;let Jc:∃o,s.heap.get? j=S o:=G.lt.imp λ_ h=>h.1;let up:∀c o,c≠z->h1.get? c=S o->h2.get? c=S o:=λc o n e=>s2.extBut _ _ n e;let IL:Inv X pins σ (upd H s.heap.objs.size (.tup [x,y])) {s with heap:=s.heap.push {cls:=.type "tuple",data:=.seq #[ux,uy]},toks:=s.toks}:=I.laid (λb o e=>h7 _ e) (Lz _) ⟨by rw[hH];simp,[ux,uy],.cons rux (.cons ruy .nil),QX _ _⟩
  let fr:∀c∈[z,T,O,i,j],c≠s.heap.objs.size:=λc q=>by
   simp only[Lw,LW,or_false]at q
   rcases q with rfl|rfl|rfl|rfl|rfl
   ·show lt hz
   ·show lt B
   ·show lt F
   ·let⟨o,e⟩:=Jb;show lt e
   ·let⟨o,e⟩:=Jc;show lt e
  let un:∀c∈[z,T,O,i,j],upd H s.heap.objs.size (.tup [x,y]) c=Y:=λc q=>by rw[av (fr c q)];show(hf c q).1
  let kk:∀c o,c∉[z,T,O,i,j]->(s.heap.push {cls:=.type "tuple",data:=.seq #[ux,uy]}).get? c=S o->h2.get? c=S o:=λc o q e=>by
   simp only[Lw,LW,or_false,not_or]at q
   rcases Rl e with⟨rfl,rfl⟩|e
   ·show up _ _ nz p1
   ·show up _ _ q.1 (L c o q.1 q.2.2.1 q.2.2.2.1 q.2.2.2.2 e)
  let I2:Inv X pins σ (upd H s.heap.objs.size (.tup [x,y])) {s with heap:=h2,toks:=s.toks}:=(Inv.turnedL (s:={s with heap:=s.heap.push {cls:=.type "tuple",data:=.seq #[ux,uy]},toks:=s.toks}) (h':=h2) (t':=s.toks) (fp:=[z,T,O,i,j]) IL (λc q=>⟨un c q,(hf c q).2⟩) kk)
  calc⟨.ref s.heap.objs.size,_,I2,rfl,⟨_,x,y,I.hok.fresh (Lz _),rfl,rfl,λxs' ys' q1 q2=>?_⟩,⟨z2,up _ _ D.TIz (L _ _ D.TIz D.TITO D.TIi1 D.TIi2 B),⟨_,_,up _ _ D.TOz o1⟩,i1.up λo e=>up _ o D.i1z e,j1.up λo e=>up _ o D.i2z e⟩,un⟩;rw[I.sqv_inj q1 qx,I.sqv_inj q2 qy];show⟨ex,ey⟩
 done:=by
  intro X U hw F3 q k pins s σ H E I hf st hg;subst U hw F3;let⟨hz,B,⟨p,r,F⟩,hi,G⟩:=st;let⟨xs,ys,qx,qy,J⟩:=hg;let⟨is,rx,px⟩:=I.sqv qx;let⟨js,ry,py⟩:=I.sqv qy;let lx:=rx.length;let ly:=ry.length;refine Zp.nxt_end (I.ok.hd q) D hz B F hi G px py (J.imp (λe=>by simp;lia) (λe=>by simp;lia)) λh1 L=>⟨rfl,I.turnedL (t':=s.toks) hf λc o q e=>?_⟩
  simp only[Lw,LW,or_false,not_or]at q;show L c o q.1 q.2.2.1 q.2.2.2.1 q.2.2.2.2 e
 self:=λA k s Q E st h=>Vu st.1 h
section
variable{X:Cx}
abbrev GK(K:Frag)(ta:TA):TI:=λσ H R=>ta σ H λvs H1=>∃a b t u xs ys,vs=[.ref a,.ref b]/\SqV K t H1 a xs/\SqV K u H1 b ys/\R (Itz K t u a b) H1
def E1{cx}{p:Pos}{a b:Expr}{ta:TA}(G:Gl X "zip")(hm:X.mg "zip"=Y)(J:PA X [a,b] ta)(hs:LV [a,b] X.env=[(WY,eval a X.env),(WY,eval b X.env)])(j:LV [b] X.env=[(WY,eval b X.env)]):
 PI X (.Tuple elts cx pos) (.Call (.Name "zip" p) [a,b] [] pos') (GK X.K ta):=by
 intro pins s σ H R I h;calc Call_ (dv I G hm (u:=.type "zip") (by decide +kernel) (O1 (thn (J pos' pins s σ H _ I h) λus s1 g9=>?_) (by rw[hs,j]) (by rw[j];rfl)));let⟨vs,H1,z,L,O⟩:=g9
 let⟨a',b',t,u,xs,ys,rfl,qx,qy,q⟩:=O
 cases L with
 |cons r rr=>
  cases rr with
  |cons r' rr=>
   cases rr
   cases r
   cases r'
   let⟨is,rx,px⟩:=z.sqv qx;let⟨js,ry,py⟩:=z.sqv qy;calc Zp.call_zip px py λh1 B t1 U F3 Z sz k1=>?_;calc Vu B ?_;let la:a'<s1.heap.objs.size:=by cases t<;>(let⟨o,e,_⟩:=px;show LB e)
   let lb:b'<s1.heap.objs.size:=by cases u<;>(let⟨o,e,_⟩:=py;show LB e)
   let D:TR (s1.heap.objs.size+4) (s1.heap.objs.size+2) (s1.heap.objs.size+3) s1.heap.objs.size (s1.heap.objs.size+1) a' b':=by constructor<;>(intro e;subst_vars;first|lia|(simp only[WZ]at *;lia))
   calc⟨_,_,_,_,H1,rfl,z.kept (t':=s1.toks) k1,zf (t:=t) (u:=u) D,⟨B,t1,⟨_,_,U⟩,F3,Z⟩,λc F=>?_,q⟩;let hle:s1.heap.objs.size<=c:=by
    simp only[Lw,LW,or_false]at F
    rcases F with rfl|rfl|rfl|rfl|rfl<;>lia
   show z.fpOk hle (z.hok.fresh hle)
end
end
namespace Zp
end Zp
namespace En
variable{z i a:WZ}{xs:Array gV}
section
variable{prog:LR}{w:Mn}{A:Mq}{E:gV->tv->Prop}{s:tv}
open Builtin.SmallTypes Zp in
def E2 {t:Bool}{k:Nat}{x old:gV}{Q:gV->tv->Prop}(hz:Tb s.heap z i k old)(hi:At t s.heap i a k)(ha:Sq t s.heap a xs)(hx:xs[k]?=S x)(j:z≠i)(q:∀h',Vv h' z i ((k:Int)+1) x s.heap.objs.size->At t h' i a (k+1)->h'.get? s.heap.objs.size=S {cls:=.type "tuple",data:=.seq #[.int k s.toks,x]}->
   (∀b o,b≠z->b≠i->s.heap.get? b=S o->h'.get? b=S o)->Q (.ref s.heap.objs.size) {s with heap:=h',toks:=s.toks+1}):
 LD (model prog w) A (O7.«enumerate.__next__» ⟨[.ref z],[]⟩) (λfin s'=>∃v,fin=.done (.ret v)/\Q v s') E s:=by
 let⟨B,g,d,tk,os⟩:=s;calc b3 (m:=field (.ref z) 2) (MB hz rfl (x:=.ref i) rfl (b3 (dX hi ha hx λg1 i1 s1=>?_)));let U:Nt i B g1:=s1;clear s1;let F3:Tb g1 z i k old:=(U.2 z j).trans hz;calc b3 (m:=field (.ref z) 3) (MB (s:=⟨g1,g,d,tk,os⟩) F3 rfl (x:=RP k) rfl ?_);calc b3 (m:=field (.ref z) 4) (MB (s:=⟨g1,g,d,tk,os⟩) F3 rfl (x:=.none) rfl ?_);calc b3 (m:=mkInt k) (wpAny_mkInt ?_);refine b3 (m:=setField (.ref z) 3 (RP ((k:Int)+1))) (LZ (s:=⟨g1,g,d,tk+1,os⟩) F3 (_) λg2 z2 s2=>?_)
 let Z:Nt z g1 g2:=s2;let Z2:Tb g2 z i ((k:Int)+1) old:=z2;clear s2 z2;refine b3 (m:=setField (.ref z) 4 .none) (LZ (s:=⟨g2,g,d,tk+1,os⟩) Z2 (_) λg3 z3 s3=>?_)
 let S3:Nt z g2 g3:=s3;let Z3:Tb g3 z i ((k:Int)+1) old:=z3;clear s3 z3;calc b3 (m:=Wh [.int k tk,x]) (RZ ?_);let G:Tb (g3.push {cls:=.type "tuple",data:=.seq #[.int k tk,x]}) z i ((k:Int)+1) old:=h7 _ Z3;let sz:g3.objs.size=B.objs.size:=by rw[S3.1,Z.1,U.1]
 let zl:z<B.objs.size:=LB hz;let T4:(g3.push {cls:=.type "tuple",data:=.seq #[.int k tk,x]}).get? B.objs.size=S {cls:=.type "tuple",data:=.seq #[.int k tk,x]}:=by rw[<-sz];show Lu _ rfl
 let K4:∀b o,b≠z->b≠i->B.get? b=S o->(g3.push {cls:=.type "tuple",data:=.seq #[.int k tk,x]}).get? b=S o:=λb o bz bi e=>h7 _ (S3.extBut b o bz (Z.extBut b o bz (U.extBut b o bi e)))
 let I4:At t (g3.push {cls:=.type "tuple",data:=.seq #[.int k tk,x]}) i a (k+1):=i1.up λo e=>h7 _ (S3.extBut i o j.symm (Z.extBut i o j.symm e));rw[sz];generalize g3.push {cls:=.type "tuple",data:=.seq #[.int k tk,x]}=F at G T4 K4 I4;calc b3 (m:=ownedTupleIsFree (.ref z)) ?_;unfold ownedTupleIsFree;calc b3 (MB (s:=⟨F,g,d,tk+1,os⟩) G rfl (x:=.none) rfl (D2 ?_));simp only[if_true];refine b3 (NI (b3 (MB (s:=⟨F,g,d,tk+1,os⟩) G rfl (x:=old) rfl (b3 (LZ (s:=⟨F,g,d,tk+1,os⟩) G (_) λJ z5 s5=>?_)))))
 let S5:Nt z F J:=s5;let Z5:Tb J z i ((k:Int)+1) x:=z5;clear s5 z5;calc b3 (m:=ownedTupleHandOut (.ref z) (.ref B.objs.size)) ?_;unfold ownedTupleHandOut;refine b3 (LZ (s:=⟨J,g,d,tk+1,os⟩) Z5 (_) λL z6 s6=>?_)
 let S6:Nt z J L:=s6;let Z6:Vv L z i ((k:Int)+1) x B.objs.size:=z6;clear s6 z6;refine LZ (s:=⟨L,g,d,tk+1,os⟩) Z6 (_) λO z7 s7=>?_
 let S7:Nt z L O:=s7;let Z7:Vv O z i ((k:Int)+1) x B.objs.size:=z7;clear s7 z7;let up:∀b o,b≠z->F.get? b=S o->O.get? b=S o:=λb o bz e=>S7.extBut b o bz (S6.extBut b o bz (S5.extBut b o bz e));show b3 (Pk (D2 ⟨_,rfl,q O Z7 (I4.up λo e=>up i o j.symm e) (up _ _ (OU zl) T4) λb o bz bi e=>up b o bz (K4 b o bz bi e)⟩))
def nxt_item {t:Bool}{k:Nat}{x old:gV}{Q:Option gV->tv->Prop}(hz:Tb s.heap z i k old)(hi:Zp.At t s.heap i a k)(B:Zp.Sq t s.heap a xs)(hx:xs[k]?=S x)(j:z≠i)(q:∀h',Vv h' z i ((k:Int)+1) x s.heap.objs.size->Zp.At t h' i a (k+1)->h'.get? s.heap.objs.size=S {cls:=.type "tuple",data:=.seq #[.int k s.toks,x]}->
   (∀b o,b≠z->b≠i->s.heap.get? b=S o->h'.get? b=S o)->Q (S (.ref s.heap.objs.size)) {s with heap:=h',toks:=s.toks+1}):
 LD (model prog w) A (OO (.ref z)) Q E s:=by
 let ty:s.TypeIs (.ref z) "enumerate":=⟨_,hz,rfl⟩;unfold OO;show b3 (P7 (Mo (name:=MU "__next__") ty PQ (Mc PQ ty Tc
  (E2 hz hi B hx j λh' a1 a2 G J=>D2 (q h' a1 a2 G J)) (SQ _))))
def nxt_end{t:Bool}{k:Nat}{old:gV}{Q:Option gV->tv->Prop}(j:A.handled=Y)(hz:Tb s.heap z i k old)(hi:Zp.At t s.heap i a k)(B:Zp.Sq t s.heap a xs)(hx:xs[k]?=Y)(q:∀h',VM i s.heap h'->Q Y {s with heap:=h'}):LD (model prog w) A (OO (.ref z)) Q E s:=by let ty:s.TypeIs (.ref z) "enumerate":=⟨_,hz,rfl⟩;unfold OO;calc b3 (P7 (Mo (name:=MU "__next__") ty PQ (Mc PQ ty Tc ?_ (SQ _))));calc b3 (m:=field (.ref z) 2) (MB hz rfl (x:=.ref i) rfl (b3 (Zp.nx_end j hi B hx λh' x he hs=>?_)));let⟨o,ho,G⟩:=hs;show b3 (OG (T:="StopIteration") (b:=WX) ⟨o,ho,G⟩ S0 (D2 (q _ he)))
set_option tactic.hygienic true
open AutoSeq1 (wpAny_loadPart') in
def BA(l:WZ)(items:Array gV)(n:Nat)(dct:Option WZ)(sl:Array (Option gV)):
 Meets (O7.«enumerate.__new__» ⟨[.type "enumerate",.ref l],[]⟩) (λ_ R s=>s.heap.get? l=S {cls:=.type "tuple",dict:=dct,data:=.seq items n,slots:=sl} /\
  R (.ok (.ret (.ref (s.heap.push (Zp.itO WX l)).objs.size))) {s with heap:=(s.heap.push (Zp.itO WX l)).push {cls:=.type "enumerate",data:=.fields #[.none,.bool WY,.ref s.heap.objs.size,RP 0,.none,.none]}}):=
 .of_wp λprog w A R s h=>by
  let⟨B,g,d,tk,os⟩:=s;let⟨j,h⟩:=h;let q:=sub_enumerate;let z:RB (Pm ⟨B,g,d,tk,os⟩) l items:=⟨_,j,rfl,n,rfl⟩
  wp_walk using Ow j
  refine wpAny_stack_any λst=>D2 ?_
  split
  ·rename_i c _ _ _ _ _
   cases(c==MJ "enumerate")<;>(wp_walk using Ow j,NV z;show⟨_,rfl,h⟩)
  ·wp_walk using Ow j,NV z
   show⟨_,rfl,h⟩
set_option tactic.hygienic false
def call_enum{t:Bool}{l:WZ}{items:Array gV}{Q:gV->tv->Prop}(B:Zp.Sq t s.heap l items)(q:∀h',Tb h' (s.heap.objs.size+1) s.heap.objs.size 0 .none->Zp.At t h' s.heap.objs.size l 0->(∀b o,s.heap.get? b=S o->h'.get? b=S o)->Q (.ref (s.heap.objs.size+1)) {s with heap:=h'}):
 LD (model prog w) A (call (.type "enumerate") [.ref l]) Q E s:=by
 cases t with
 |false=>show call_enumerate_list B λh' a b _ k=>q h' a b k
 |true=>
  let⟨⟨c,dct,dt,sl⟩,J,L,n,hd⟩:=B;let j:c=.type "tuple":=L;let z:dt=.seq items n:=hd;subst j z;refine callType_new F.called_enumerate (·) (F.typeCall_enumerate_1 _) (F.newCall_enumerate_1 _) (λobj=>F.args_object_init_2 obj _) F.entry_enumerate_new (BA l items n dct sl) ⟨J,?_⟩
  let G:(s.heap.push (Zp.itO WX l)).objs.size=s.heap.objs.size+1:=Ny ..;let e:((s.heap.push (Zp.itO WX l)).push {cls:=.type "enumerate",data:=.fields #[.none,.bool WY,.ref s.heap.objs.size,RP 0,.none,.none]}).get? (s.heap.push (Zp.itO WX l)).objs.size=S _:=Lu _ rfl;rw[G]at e;change _/\_;rw[G];show⟨⟨_,e,rfl⟩,q _ e (Zp.at_new (h7 _ (Lu _ rfl))) λb o x=>h7 _ (h7 _ x)⟩
end
end En
abbrev Ite(K:Frag)(t:Bool)(a:WZ):It:=
 ⟨λi H=>∃xs x,SqV K t H a xs/\xs[i]?=S x,
  λi H v H'=>∃p x,H p=Y/\v=.ref p/\H'=upd H p (.tup [.int (i:Nat),x])/\∀xs,SqV K t H a xs->xs[i]?=S x,
  λi H=>∃xs,SqV K t H a xs/\xs.length<=i⟩
def wg{cx}{t:Bool}{z i:WZ}(q:z≠i):
 gB P w K (.Tuple elts cx pos) (Ite K t a) [z,i] z (λk h=>(∃old,Tb h z i k old)/\Zp.At t h i a k) where
 mem:=by simp
 obj:=λk h ⟨⟨old,hz⟩,hi⟩ c j=>by
  simp only[Lw,LW,or_false]at j
  rcases j with rfl|rfl
  ·show⟨_,hz,λv e=>by cases e⟩
  ·show hi.lt
 keep:=λk h h' B kk=>(by let⟨⟨old,hz⟩,hi⟩:=B;show⟨⟨old,kk z (_) _ hz⟩,hi.up λo e=>kk i (_) o e⟩)
 item:=by
  intro X F hw G j k pins s σ H E I hf st hg;subst F hw G;let⟨⟨old,hz⟩,hi⟩:=st;let⟨xs,x,qx,ex⟩:=hg;let⟨is,rx,px⟩:=I.sqv qx;let⟨ux,J,rux⟩:=rx.get ex;refine En.nxt_item hz hi px (by simpa using J) q λh1 F3 Z p1 L=>⟨_,rfl,?_⟩
  refine wpAny_letOwnedTupleGo_enum (s:={s with heap:=h1,toks:=s.toks+1}) F3 λh2 z2 s2=>?_
  let lt:∀{c o},s.heap.get? c=S o->c≠s.heap.objs.size:=λe=>Mh (LB e);let nz:s.heap.objs.size≠z:=(lt hz).symm;let O:∃o,s.heap.get? i=S o:=hi.lt.imp λ_ h=>h.1;let up:∀c o,c≠z->h1.get? c=S o->h2.get? c=S o:=λc o n e=>s2.extBut _ _ n e;let IL:Inv X pins σ (upd H s.heap.objs.size (.tup [.int (k:Nat),x])) {s with heap:=s.heap.push {cls:=.type "tuple",data:=.seq #[.int k s.toks,ux]},toks:=s.toks+1}:=I.laid (λb o e=>h7 _ e) (Lz _) ⟨by rw[hH];simp,[.int k s.toks,ux],.cons ⟨_,rfl⟩ (.cons rux .nil),QX _ _⟩
  let fr:∀c∈[z,i],c≠s.heap.objs.size:=λc j=>by
   simp only[Lw,LW,or_false]at j
   rcases j with rfl|rfl
   ·show lt hz
   ·let⟨o,e⟩:=O;show lt e
  let un:∀c∈[z,i],upd H s.heap.objs.size (.tup [.int (k:Nat),x]) c=Y:=λc j=>by rw[av (fr c j)];show(hf c j).1
  let kk:∀c o,c∉[z,i]->(s.heap.push {cls:=.type "tuple",data:=.seq #[.int k s.toks,ux]}).get? c=S o->h2.get? c=S o:=λc o j e=>by
   simp only[Lw,LW,or_false,not_or]at j
   rcases Rl e with⟨rfl,rfl⟩|e
   ·show up _ _ nz p1
   ·show up _ _ j.1 (L c o j.1 j.2 e)
  let I2:Inv X pins σ (upd H s.heap.objs.size (.tup [.int (k:Nat),x])) {s with heap:=h2,toks:=s.toks+1}:=Inv.turnedL (s:={s with heap:=s.heap.push {cls:=.type "tuple",data:=.seq #[.int k s.toks,ux]},toks:=s.toks+1}) (h':=h2) (t':=s.toks+1) (fp:=[z,i]) IL (λc j=>⟨un c j,(hf c j).2⟩) kk
  refine⟨.ref s.heap.objs.size,_,I2,rfl,⟨_,x,I.hok.fresh (Lz _),rfl,rfl,λxs' q1=>?_⟩,⟨⟨ux,by simpa using z2⟩,Z.up λo e=>up _ o q.symm e⟩,un⟩
  rw[I.sqv_inj q1 qx];show ex
 done:=by
  intro X F hw G j k pins s σ H E I hf st hg;subst F hw G;let⟨⟨old,hz⟩,hi⟩:=st;let⟨xs,qx,U⟩:=hg;let⟨is,rx,px⟩:=I.sqv qx;let lx:=rx.length;refine En.nxt_end (I.ok.hd j) hz hi px (by simp;lia) λh1 L=>⟨rfl,I.turnedL (t':=s.toks) hf λc o j e=>?_⟩
  simp only[Lw,LW,or_false,not_or]at j;show L c o j.2 e
 self:=λA k s Q E B h=>(by let⟨⟨old,hz⟩,_⟩:=B;show V4 hz h)
section
variable{X:Cx}
abbrev Fv(K:Frag)(ta:TA):TI:=λσ H R=>ta σ H λvs H1=>∃a t xs,vs=[.ref a]/\SqV K t H1 a xs/\R (Ite K t a) H1
def BB{cx}{p:Pos}{a:Expr}{ta:TA}(F:Gl X "enumerate")(hm:X.mg "enumerate"=Y)(G:PA X [a] ta)(hs:LV [a] X.env=[(WY,eval a X.env)]):
 PI X (.Tuple elts cx pos) (.Call (.Name "enumerate" p) [a] [] pos') (Fv X.K ta):=by
 intro pins s σ H R I h;calc Call_ (dv I F hm (u:=.type "enumerate") boot_enumerate (O1 (thn (G pos' pins s σ H _ I h) λus s1 g9=>?_) hs rfl));let⟨vs,H1,j,J,L⟩:=g9;let⟨a',t,xs,rfl,qx,q⟩:=L
 cases J with
 |cons r rr=>
  cases rr
  cases r
  let⟨is,rx,px⟩:=j.sqv qx;calc En.call_enum px λh1 z O U=>?_;calc V4 z ?_;refine⟨_,_,_,_,H1,rfl,j.kept (t':=s1.toks) U,wg (t:=t) (a:=a') (_),⟨⟨_,z⟩,O⟩,λc B=>?_,q⟩
  let hle:s1.heap.objs.size<=c:=by
   simp only[Lw,LW,or_false]at B
   rcases B with rfl|rfl<;>lia
  show j.fpOk hle (j.hok.fresh hle)
end
namespace Rv
end Rv
variable{v:gV}{vs:List gV}{h:Heap}
section
noncomputable abbrev NK:=List (Int ⊕ List Int)
abbrev Fx(ks:List Int):Int:=Wi (Nj (ks.map hashInt))
abbrev fQ:Int ⊕ List Int->Int
 |.inl i=>hashInt i
 |.inr ks=>Fx ks
abbrev nR(ks:NK):Int:=Wi (Nj (ks.map fQ))
abbrev B1:Int ⊕ List Int->Nat
 |.inl _=>1
 |.inr ks=>ks.length+1
abbrev kc(ks:NK):Nat:=(ks.map B1).sum
section
variable(prog:LR)(w:Mn)
abbrev Is1(h:Heap):Int ⊕ List Int->gV->Prop
 |.inl i,v=>(Qp prog w).is i v=WX
 |.inr ks,v=>∃b,v=.ref b/\IsTupleKey (Qp prog w) h ks b
inductive IsN(h:Heap):NK->List gV->Prop
 |nil:IsN h [] []
 |cons {k:Int ⊕ List Int} {v:gV} {ks:NK} {vs:List gV}:Is1 prog w h k v->IsN h ks vs->IsN h (k::ks) (v::vs)
abbrev IsNest(h:Heap)(ks:NK)(a:WZ):Prop:=∃o items n,h.get? a=S o/\o.cls=.type "tuple"/\o.data=.seq items n/\IsN prog w h ks items.toList
variable{prog w}
def Is1.inj{x y:Int ⊕ List Int}(hx:Is1 prog w h x v)(q:Is1 prog w h y v):x=y:=by
 cases x with
 |inl i=>
  cases y with
  |inl j=>rw[(Qp prog w).inj _ _ _ hx q]
  |inr ks=>let⟨b,rfl,_⟩:=q;let:=(Qp prog w).byValue _ _ hx;simp[TX]at this
 |inr ks=>
  cases y with
  |inl j=>let⟨b,rfl,_⟩:=hx;let:=(Qp prog w).byValue _ _ q;simp[TX]at this
  |inr ls=>
   let⟨b,rfl,z⟩:=hx;let⟨c,e,B⟩:=q
   cases e
   rw[z.inj B]
def IsN.inj{x y:NK}(hx:IsN prog w h x vs)(j:IsN prog w h y vs):x=y:=by
 induction hx generalizing y with
 |nil=>cases j;rfl
 |cons h1 _ ih=>
  cases j with
  |cons h2 q=>rw[h1.inj h2,ih q]
def IsNest.typeIs{ks:NK}(x:IsNest prog w s.heap ks a):s.TypeIs (.ref a) "tuple":=let⟨o,_,_,ho,j,_⟩:=x; ⟨o,ho,j⟩
def IsNest.inj{x y:NK}(hx:IsNest prog w h x a)(B:IsNest prog w h y a):x=y:=by
 let⟨o,items,n,ho,_,hd,hi⟩:=hx;let⟨o',items',n',q,_,j,z⟩:=B;obtain rfl:o=o':=Nw.inj (ho.symm.trans q);rw[hd]at j
 injection j with h1 _
 subst h1;show hi.inj z
def IsN.imp{ks:NK}(x:IsN prog w h ks vs)(f:∀k v,Is1 prog w h k v->Is1 prog w h' k v):IsN prog w h' ks vs:=by
 induction x with
 |nil=>show .nil
 |cons h1 _ ih=>show .cons (f _ _ h1) ih
def IsNest.keeps{ks:NK}{d:WZ}{o:Obj}{es ep}(x:IsNest prog w h ks a)(ho:h.get? d=S o)(hd:o.data=.dict es ep)(hs:Nt d h h'):IsNest prog w h' ks a:=by
 let⟨o',items,n,z,F,j,hi⟩:=x;let B:a≠d:=by rintro rfl;obtain rfl:o'=o:=Nw.inj (z.symm.trans ho);rw[hd]at j;show nomatch j
 refine⟨o',items,n,(hs.2 a B).trans z,F,j,hi.imp λk v q=>?_⟩
 cases k with
 |inl i=>show q
 |inr ks=>let⟨b,e,G⟩:=q;show⟨b,e,G.keeps ho hd hs⟩
variable{A:Mq}{E:gV->tv->Prop}{s:tv}
def rC{k:Int ⊕ List Int}{Q:Int->tv->Prop}(q:A.units<NW)(j:Is1 prog w s.heap k v)(h:Q (fQ k) {s with toks:=s.toks+B1 k}):LD (model prog w) A (pyHash v) Q E s:=by
 cases k with
 |inl i=>show(Qp prog w).pyHash j h
 |inr ks=>let⟨b,rfl,z⟩:=j;show wpAny_pyHash_tuple q z h
def iW{ks:NK}{Q:Int->tv->Prop}(J:A.units+1<NW)(G:IsNest prog w s.heap ks a)(h:Q (nR ks) {s with toks:=s.toks+(kc ks+1)}):
 LD (model prog w) A (pyHash (.ref a)) Q E s:=by
 let q:=G.typeIs;let⟨o,items,n,ho,_,hd,hi⟩:=G;unfold pyHash
 first|unfold pyHashByItsType|skip
 first|refine b3 (wpAny_cRoomFor_or (.inr ∅) ?_)|skip
 calc b3 (Qr q F.slot_tuple_hash.lookup ?_);change LD _ _ (if(S (Value.builtin "tuple.__hash__")==S Ou)=WX then _ else _) Q E s
 rw[if_neg (by rw[beq_builtin_none];show Lq)]
 calc b3 (Qr q F.slot_tuple_hash.lookup ?_);change LD _ _ (callSpecialIfBoundUnlessNone? (.ref a) "__hash__" _>>=_) Q E s;calc b3 (wpAny_callSpecialIfBoundUnlessNone?_slot q V5 (Mc V5 q F.entry_tuple_hash ?_ (F.args_tuple_hash_1 _)));change LD _ _ (PZ (.ref a)>>=_) _ _ s;calc b3 (wpAny_tupleItemsOf ho hd ?_);calc b3 ?_;rw[<-S1];refine QY _
  (λrest (b:Array Int) s'=>∃done left,ks=done++left/\IsN prog w s.heap left rest/\b.toList=done.map fQ/\s'={s with toks:=s.toks+kc done})
  _ ?_ ?_ _ _ ⟨[],ks,rfl,hi,rfl,rfl⟩
 ·rintro x rest b s' ⟨done,left,rfl,B,z,rfl⟩
  cases B with
  |@cons k _ ks' _ h1 j=>
   refine b3 (rC (by show J) h1 ?_)
   first
    |show D2 ⟨done++[k],ks',by simp,j,by simp[z],by simp[kc,PM]⟩
    |show b3 (D2 (D2 ⟨done++[k],ks',by simp,j,by simp[z],by simp[kc,PM]⟩))
 ·rintro b s' ⟨done,left,rfl,B,z,rfl⟩
  cases B
  rw[MN]at h;change LD _ _ (retInt (Nj b.toList)) _ _ _;rw[z];calc wpAny_ret_mkInt ?_;change LD _ _ (if(decide (-(2:Int)^63<=Nj (done.map fQ))&&decide (Nj (done.map fQ)<2^63))=WX then _ else _) Q E _
  unfold nR Wi at h
  by_cases hr:(decide (-(2:Int)^63<=Nj (done.map fQ))&&decide (Nj (done.map fQ)<2^63))=WX
  ·rw[if_pos hr];rw[if_pos hr]at h;show D2 (by simpa[PM]using h)
  ·rw[if_neg hr];rw[if_neg hr]at h;show b3 (NI (D2 (by simpa[PM]using h)))
abbrev bM:Int ⊕ List Int->Ni
 |.inl i=>.int i
 |.inr ks=>.tuple (ks.map .int)
abbrev p8(ks:NK):Ni:=.tuple (ks.map bM)
def ud{ks:List Int}(x:ItemsAre (Qp prog w) ks vs):S2 h vs (ks.map Qv) []:=by
 induction x with
 |nil=>show .nil
 |@cons k v ks vs h1 _ ih=>let⟨t,rfl⟩:=Sk h1;show ReadsAll.cons (as:=[]) (.int _ _) ih
def BC{k:Int ⊕ List Int}(x:Is1 prog w h k v):Qi h v (bM k) []:=by
 cases k with
 |inl i=>let⟨t,rfl⟩:=Sk x;show .int _ _
 |inr ks=>let⟨b,rfl,o,its,n,h1,h2,j,q⟩:=x;show .tuple h1 h2 j (ud q)
def BD{ks:NK}(x:IsN prog w h ks vs):S2 h vs (ks.map bM) []:=by
 induction x with
 |nil=>show .nil
 |cons h1 _ ih=>show ReadsAll.cons (as:=[]) (BC h1) ih
def ke{ks:NK}(x:IsNest prog w h ks a):Qi h (.ref a) (p8 ks) []:=by let⟨o,its,n,h1,h2,j,q⟩:=x;show .tuple h1 h2 j (BD q)
def eqv_ints:∀(x y:List Int),MA (x.map Qv) (y.map Qv)=decide (x=y)
 |[],[]=>rfl
 |[],_::_=>rfl
 |_::_,[]=>rfl
 |a::x,b::y=>by rw[LL,LL,MA,eqv_ints x y,Md];by_cases h1:a=b<;>by_cases h2:x=y<;>simp[h1,h2]
def Fy:∀(x y:Int ⊕ List Int),Md (bM x) (bM y)=decide (x=y)
 |.inl a,.inl b=>by rw[bM,bM,Md];simp;rfl
 |.inl a,.inr b=>by simp[bM,Md]
 |.inr a,.inl b=>by simp[bM,Md]
 |.inr a,.inr b=>by rw[bM,bM,Md,eqv_ints];simp
def B2:∀(x y:NK),MA (x.map bM) (y.map bM)=decide (x=y)
 |[],[]=>rfl
 |[],_::_=>rfl
 |_::_,[]=>rfl
 |a::x,b::y=>by rw[LL,LL,MA,B2 x y,Fy];by_cases h1:a=b<;>by_cases h2:x=y<;>simp[h1,h2]
def pj:∀(x:List Int),MD (x.map Qv)=WX
 |[]=>rfl
 |_::x=>by rw[LL,MD,pj x];rfl
def Fz:∀(x:Int ⊕ List Int),Q2 (bM x)=WX
 |.inl _=>rfl
 |.inr x=>pj x
def ue:∀(x:NK),MD (x.map bM)=WX
 |[]=>rfl
 |a::x=>by rw[LL,MD,Fz,ue x];rfl
def kf:∀(x:List Int),N5 (x.map Qv)<=1
 |[]=>by simp[N5]
 |_::x=>by let:=kf x;simp[N5,ND];lia
def BE:∀(x:Int ⊕ List Int),ND (bM x)<=2
 |.inl _=>by simp[bM,ND]
 |.inr x=>by let:=kf x;simp[bM,ND];lia
def sy:∀(x:NK),N5 (x.map bM)<=2
 |[]=>by simp[N5]
 |a::x=>by let:=sy x;let:=BE a;simp only[LL,N5];lia
def iX{x y:NK}{Q:Bool->tv->Prop}(q:A.units+8<NW)(hx:IsNest prog w s.heap x a)(j:IsNest prog w s.heap y b)(h:Q (decide (x=y)) s):
 LD (model prog w) A (eqBool (.ref a) (.ref b)) Q E s:=by
 refine SeqAt.eqBoolOverData prog w A E s _ _ (p8 x) (p8 y) [] [] Q (ke hx) (ke j) (ue x) (ue y) ?_ ?_
 ·let:=sy x;let:ND (p8 x)<=3:=by simp only[p8,ND];lia
  lia
 ·change Q (MA _ _) s;rw[B2];show h
def pv{n:Nat}{ks:List Int}{Q:Bool->tv->Prop}(z:IsTupleKey (Qp prog w) s.heap ks a)(h:Q WX s):LD (model prog w) A (Uc (n+1) (.ref a)) Q E s:=by
 let B:=z.typeIs;let⟨o,items,m,ho,_,hd,hi⟩:=z;unfold Uc;calc b3 (Qr B F.slot_tuple_eq.lookup ?_);change LD _ _ (isInstance (.ref a) (.type "tuple")>>=_) _ _ s;calc b3 (OG B Tx ?_);simp only[P9,Ml,if_false];calc b3 (Nh ho hd ?_);calc b3 ?_;change LD _ _ (forIn items _ _) _ _ s;rw[<-S1];refine QY _ (λrest r s'=>r.1=Y/\s'=s/\∀v∈rest,TX v=WX) _ ?_ ?_ _ _ ⟨rfl,rfl,hi.byValue⟩
 ·rintro v rest r s' ⟨hr,rfl,j⟩;rw[V6 _ (j v Nk)];calc b3 (D2 ?_);simp only[P9,Ml,if_false];show D2 ⟨rfl,rfl,λu q=>j u (Mf _ q)⟩
 ·rintro⟨G,J⟩ s' ⟨hr,rfl,_⟩;simp only at hr;subst hr;show D2 h
def pA{n:Nat}{ks:NK}{Q:Bool->tv->Prop}(z:IsNest prog w s.heap ks a)(h:Q WX s):LD (model prog w) A (Uc (n+2) (.ref a)) Q E s:=by
 let B:=z.typeIs;let⟨o,items,m,ho,_,hd,hi⟩:=z;unfold Uc;calc b3 (Qr B F.slot_tuple_eq.lookup ?_);change LD _ _ (isInstance (.ref a) (.type "tuple")>>=_) _ _ s;calc b3 (OG B Tx ?_);simp only[P9,Ml,if_false];calc b3 (Nh ho hd ?_);calc b3 ?_;change LD _ _ (forIn items _ _) _ _ s;rw[<-S1];refine QY _ (λrest r s'=>r.1=Y/\s'=s/\∃ks,IsN prog w s.heap ks rest) _ ?_ ?_ _ _ ⟨rfl,rfl,ks,hi⟩
 ·rintro v rest r s' ⟨hr,rfl,ks,j⟩
  cases j with
  |@cons k _ ks' _ h1 G=>
   let fin:∀Q':Bool->tv->Prop,Q' WX s'->LD (model prog w) A (Uc (n+1) v) Q' E s':=by
    intro Q' q
    cases k with
    |inl i=>rw[V6 _ ((Qp prog w).byValue _ _ h1)];show D2 q
    |inr ls=>let⟨b,rfl,J⟩:=h1;show pv J q
   calc b3 (fin _ ?_);simp only[P9,Ml,if_false];show D2 ⟨rfl,rfl,ks',G⟩
 ·rintro⟨L,O⟩ s' ⟨hr,rfl,_⟩;simp only at hr;subst hr;show D2 h
end
abbrev jf(prog:LR)(w:Mn):HeapKind prog w NK where
 is:=IsNest prog w
 hash:=nR
 draws:=λks=>kc ks+1
 room:=λA=>A.units+8<NW
 inj:=λhx hy=>hx.inj hy
 keeps:=λx ho hd hs=>x.keeps ho hd hs
 pyHash:=λhu hk h=>iW (Nat.lt_of_le_of_lt (Nat.add_le_add_left (·) _) hu) hk h
 eqBool:=λhu hx hy h=>iX hu hx hy h
 quiet:=λhk h=>pA hk h
abbrev NDict(a:WZ)(xs:List (NK×WZ×gV)):Heap->Prop:=λh=>xs.length<=Ls/\(a==Nr)=WY /\
 ∃o es ep,h.get? a=S o/\o.ExactDict/\o.data=.dict es ep/\es.toList=xs.map (λx=>(⟨nR x.1,.ref x.2.1,x.2.2⟩:NY))/\(xs.map (·.1)).Nodup
def NDict.stay{xs:List (NK×WZ×gV)}(h1 h2:Heap)(x:NDict a xs h1)(k:∀o,h1.get? a=S o->h2.get? a=S o):NDict a xs h2:=by let⟨z,y,o,es,ep,e,r⟩:=x;show⟨z,y,o,es,ep,k _ e,r⟩
abbrev Kt1(H:Hp):Int ⊕ List Int->V->Prop
 |.inl i,v=>v=.int i
 |.inr ks,v=>∃b,v=.ref b/\H b=S (.tup (ks.map V.int))
abbrev Kt(H:Hp)(k:NK)(b:WZ):Prop:=∃vs,H b=S (.tup vs)/\N6 (Kt1 H) k vs
def Kt.keeps{k:NK}(x:Kt H k b)(ht:∀b ys,H b=S (.tup ys)->H' b=S (.tup ys)):Kt H' k b:=by
 let⟨vs,e,p⟩:=x;refine⟨vs,ht _ _ e,WD p λq v z=>?_⟩
 cases q with
 |inl i=>show z
 |inr ks=>let⟨c,e,q⟩:=z;show⟨c,e,ht _ _ q⟩
section
variable{P:LR}{w:Mn}{H:Hp}{h:Heap}{a b:WZ}
def pB:∀{ks:List Int} {its:List gV},Vals (ks.map V.int) its->ItemsAre (Qp P w) ks its
 |[],_,r=>by cases r;show .nil
 |k::ks,_,r=>by
  cases r with
  |cons j q=>let⟨t,rfl⟩:=(show ∃t,_=QW k t from j);show .cons (by simp[Qp,Sj]) (pB q)
def kg(ok:HOk P w H h):∀{k:NK} {vs:List V} {its:List gV},N6 (Kt1 H) k vs->Vals vs its->IsN P w h k its
 |[],_,_,p,r=>by cases p;cases r;show .nil
 |k::ks,_,_,p,r=>by
  cases p with
  |cons j p2=>
   cases r with
   |cons q z=>
    refine .cons ?_ (kg ok p2 z)
    cases k with
    |inl i=>
     cases(show _=V.int i from j)
     let⟨t,rfl⟩:=(show ∃t,_=QW i t from q);show(by simp[Qp,Sj]:Sj i (.int i t)=WX)
    |inr ls=>
     let⟨c,rfl,e⟩:=j
     cases(show _=Ms c from q)
     let⟨_,its,r,o,h1,h2,n,B⟩:=(show ObjOk P w H h c (.tup (ls.map V.int))from ok c _ e);show⟨c,rfl,o,its.toArray,n,h1,h2,B,by simpa using pB r⟩
def fq{k:NK}(ok:HOk P w H h)(x:Kt H k b):IsNest P w h k b:=by let⟨vs,e,p⟩:=x;let⟨_,its,r,o,h1,h2,n,j⟩:=(show ObjOk P w H h b (.tup vs)from ok b _ e);show⟨o,its.toArray,n,h1,h2,j,by simpa using kg ok p r⟩
def fR{xs:List (NK×WZ×gV)}(ok:HOk P w H h)(e:H a=S (.ext (NDict a xs)))(ks:∀x∈xs,Kt H x.1 x.2.1):xs.length<=Ls/\(a==Nr)=WY/\h.DictOfH (jf P w) a xs:=by let⟨⟨z,y,o,es,ep,h1,h2,j,q,B⟩,_⟩:=(show ObjOk P w H h a (.ext (NDict a xs))from ok a _ e);show⟨z,y,o,es,ep,h1,h2,j,q,λx hx=>fq ok (ks x hx),B⟩
end
def nS(j:A.units+16<NW):(jf P w).room A.in1:=show A.units+1+8<NW by lia
section
variable{X:Cx}{pins:List (WZ×Obj)}{σ:St}{H:Hp}{s:tv}{a b:WZ}{v:V}{r:gV}{A:Mq}{E:gV->tv->Prop}{xs:List (NK×WZ×gV)}{k:NK}
def wj{p:WZ×gV}{Q:gV->tv->Prop}(j:A.units+16<NW)(I:Inv X pins σ H s)(e:H a=S (.ext (NDict a xs)))(ks:∀x∈xs,Kt H x.1 x.2.1)(kb:Kt H k b)(q:Qh xs k=S p)(h:∀s',Inv X pins σ H s'->Q p.2 s'):LD (model X.prog X.w) A (Sr (.ref a) (.ref b)) Q E s:=by let⟨z,hd,dd⟩:=fR I.hok e ks;show UI (nS j) (fq I.hok kb) dd q (h _ (I.tok _))
def GL{Q:gV->tv->Prop}(j:A.units+16<NW)(I:Inv X pins σ H s)(e:H a=S (.ext (NDict a xs)))(ks:∀x∈xs,Kt H x.1 x.2.1)(kb:Kt H k b)(h:∀s',Inv X pins σ H s'->Q (.bool (Qh xs k).isSome) s'):LD (model X.prog X.w) A (Mu .In (.ref b) (.ref a)) Q E s:=by let⟨z,hd,dd⟩:=fR I.hok e ks;show wpAny_in_heap (nS j) (fq I.hok kb) hd dd (h _ (I.tok _))
def j5(xs:List (NK×WZ×gV))(k:NK)(b:WZ)(u:gV):(Q7 xs k b u).length<=xs.length+1:=by unfold Q7;split<;>simp
def wk{Q:Unit->tv->Prop}(B:A.units+16<NW)(I:Inv X pins σ H s)(e:H a=S (.ext (NDict a xs)))(ks:∀x∈xs,Kt H x.1 x.2.1)(kb:Kt H k b)(L:xs.length<Ls)(h:∀s',Inv X pins σ (upd H a (.ext (NDict a (Q7 xs k b r)))) s'->Q () s'):LD (model X.prog X.w) A (T7 (.ref a) (.ref b) r) Q E s:=by
 let⟨z,hd,dd⟩:=fR I.hok e ks;calc UK (hsz:=z) (nS B) (fq I.hok kb) dd λh' dd' hs=>h _ ?_;let⟨q,es,ep,j,h2,F,G,_,J⟩:=dd';refine fj I (by rw[e];show Nx) hs ⟨q,j⟩ ⟨⟨?_,hd,q,es,ep,j,h2,F,G,J⟩,⟨q,j⟩,NDict.stay⟩
 let:=j5 xs k b r;lia
def pC(I:Inv X pins σ H s)(e:H a=S (.ext (NDict a xs))):s.TypeIs (.ref a) "dict":=by let⟨⟨z,y,o,es,ep,h1,h2,_⟩,_⟩:=(show ObjOk X.prog X.w H s.heap a (.ext (NDict a xs))from I.hok a _ e);show⟨o,h1,h2.1⟩
end
end
namespace Mi
variable{a p:WZ}{K:Frag}{H H':Hp}{xs vs:List V}{i:Nat}{v:V}{x:Str}{σ:St}{ho:HO}{X:Cx}{e:Expr}
section
inductive D where
 |non|bl (b:Bool)|int (i:Int)|str (x:Str)|tup (ds:List D)|con (ds:List D)|ref (a:WZ)|fn (x:Str)
inductive O where
 |lst (ds:List D)
 |dct (t:Bool) (kvs:List (D×D))
 |fdc (kvs:List (D×D))
 |dcn (kvs:List (NK×D))
 |fdn (kvs:List (NK×D))
noncomputable abbrev Mem:=WZ->Option O
abbrev fz:Option O->Bool
 |some (.lst _)=>WY
 |some (.dct _ _)=>WY
 |some (.dcn _)=>WY
 |_=>WX
noncomputable abbrev ax:=List (Option D)
abbrev ad(M:Mem)(a:WZ)(o:O):Mem:=λb=>if b=a then S o else M b
def aa{M:Mem}{o:O}:ad M a o a=S o:=by unfold ad;rw[if_pos rfl]
def aj{M:Mem}{b:WZ}{o:O}(h:b≠a):ad M a o b=M b:=by unfold ad;rw[if_neg h]
abbrev SqF(K:Frag)(H:Hp)(a:WZ)(xs:List V):Prop:=
 (∃o,H a=S (.frz o (.lst xs))) ∨
  ∃(o:Obj) (its:Array gV) (n:Nat),K.lookup a=S o/\o.cls=.type "list"/\o.dict=Y/\o.data=.seq its n/\its.size<=Ls/\Vals xs its.toList
def SqF.sq(h:SqF K H a xs):SqL K H a xs:=by
 rcases h with⟨o,h⟩|h
 ·show .inl (.inr ⟨o,h⟩)
 ·show .inr h
abbrev fk2:Bool:=WX
abbrev fk3:Bool:=WX
abbrev fk:List D->Bool
 |[.int _,.int _,.int _]=>WX
 |[.tup _,_]=>WX
 |[.int _,_]=>fk2
 |[]=>WY
 |_=>fk3
abbrev TupR(K:Frag)(H:Hp)(ds:List D)(a:WZ)(vs:List V):Prop:=H a=S (.tup vs)∨(fk ds=WY/\SqT K H a vs)
def TupR.sq{ds:List D}(h:TupR K H ds a vs):SqT K H a vs:=h.elim SqT.of (·.2)
mutual
noncomputable def RD(K:Frag)(H:Hp):D->V->Prop
 |.non,v=>v=.non
 |.bl b,v=>v=.bl b
 |.int i,v=>v=.int i
 |.str x,v=>v=.str x
 |.tup ds,v=>∃a vs,v=.ref a/\TupR K H ds a vs/\RDs K H ds vs
 |.con ds,v=>∃a vs,v=.ref a/\SqF K H a vs/\RDs K H ds vs
 |.ref a,v=>v=.ref a
 |.fn x,v=>∃f,v=.ref f/\QL K Nq x=S (S (.ref f))
noncomputable def RDs(K:Frag)(H:Hp):List D->List V->Prop
 |[],vs=>vs=[]
 |d::ds,vs=>∃v r,vs=v::r/\RD K H d v/\RDs K H ds r
end
structure Stab(H H':Hp):Prop where
 tup:∀a xs,H a=S (.tup xs)->H' a=S (.tup xs)
 frz:∀a o u,H a=S (.frz o u)->H' a=S (.frz o u)
def Stab.sqT(st:Stab H H')(h:SqT K H a xs):SqT K H' a xs:=by
 rcases h with(h|⟨o,h⟩)|h
 ·show .inl (.inl (st.tup _ _ h))
 ·show .inl (.inr ⟨o,st.frz _ _ _ h⟩)
 ·show .inr h
def Stab.sqF(st:Stab H H')(h:SqF K H a xs):SqF K H' a xs:=by
 rcases h with⟨o,h⟩|h
 ·show .inl ⟨o,st.frz _ _ _ h⟩
 ·show .inr h
mutual
theorem RD.mono{K:Frag}{H H':Hp}(st:Stab H H'):∀{d:D} {v:V},RD K H d v->RD K H' d v
 |.non,_,h=>h
 |.bl _,_,h=>h
 |.int _,_,h=>h
 |.str _,_,h=>h
 |.tup ds,v,h=>by unfold RD at h⊢;let⟨a,vs,e,q,r⟩:=h;show⟨a,vs,e,q.imp (st.tup _ _) (λz=>⟨z.1,st.sqT z.2⟩),RDs.mono st r⟩
 |.con ds,v,h=>by unfold RD at h⊢;let⟨a,vs,e,q,r⟩:=h;show⟨a,vs,e,st.sqF q,RDs.mono st r⟩
 |.ref _,_,h=>h
 |.fn _,_,h=>by unfold RD at h⊢;show h
theorem RDs.mono{K:Frag}{H H':Hp}(st:Stab H H'):∀{ds:List D} {vs:List V},RDs K H ds vs->RDs K H' ds vs
 |[],_,h=>h
 |d::ds,vs,h=>by unfold RDs at h⊢;let⟨v,r,e,h1,h2⟩:=h;show⟨v,r,e,RD.mono st h1,RDs.mono st h2⟩
end
section
variable{K:Frag}{H H':Hp}
def Wz{i:Int}:RD K H (.int i) v↔v=.int i:=by unfold RD;show W2
def WB{b:Bool}:RD K H (.bl b) v↔v=.bl b:=by unfold RD;show W2
def WH:RD K H .non v↔v=.non:=by unfold RD;show W2
def WI:RD K H (.str x) v↔v=.str x:=by unfold RD;show W2
def WA:RD K H (.ref a) v↔v=.ref a:=by unfold RD;show W2
def WV:RD K H (.fn x) v↔∃f,v=.ref f/\QL K Nq x=S (S (.ref f)):=by rw[RD]
def WM{ds:List D}:RD K H (.tup ds) v↔∃a vs,v=.ref a/\TupR K H ds a vs/\RDs K H ds vs:=by rw[RD]
def WJ{ds:List D}(h:∃a vs,v=.ref a/\H a=S (.tup vs)/\RDs K H ds vs):RD K H (.tup ds) v:=WM.mpr (let⟨a,vs,e,h,r⟩:=h; ⟨a,vs,e,.inl h,r⟩)
def WE{ds:List D}(h:RD K H (.tup ds) v):∃a vs,v=.ref a/\SqT K H a vs/\RDs K H ds vs:=let⟨a,vs,e,h,r⟩:=WM.mp h; ⟨a,vs,e,h.sq,r⟩
def WQ{ds:List D}(f:fk ds=WX)(h:RD K H (.tup ds) v):∃a vs,v=.ref a/\H a=S (.tup vs)/\RDs K H ds vs:=let⟨a,vs,e,h,r⟩:=WM.mp h; ⟨a,vs,e,h.elim id λz=>(by rw[f]at z;cases z.1),r⟩
def WG{ds:List D}:RD K H (.con ds) v↔∃a vs,v=.ref a/\SqF K H a vs/\RDs K H ds vs:=by rw[RD]
def RDs.nil_iff:RDs K H [] vs↔vs=[]:=by rw[RDs]
def WC{d:D}{ds:List D}:RDs K H (d::ds) vs↔∃v r,vs=v::r/\RD K H d v/\RDs K H ds r:=by rw[RDs]
def RDs.nil:RDs K H [] []:=RDs.nil_iff.mpr rfl
def RDs.cons{d:D}{ds:List D}{v:V}{vs:List V}(h:RD K H d v)(r:RDs K H ds vs):RDs K H (d::ds) (v::vs):=WC.mpr ⟨v,vs,rfl,h,r⟩
def RDs.length:∀{ds:List D} {vs:List V},RDs K H ds vs->vs.length=ds.length
 |[],_,h=>by rw[RDs.nil_iff.mp h];rfl
 |d::ds,_,h=>by let⟨v,r,rfl,_,h2⟩:=WC.mp h;simp[RDs.length h2]
def RDs.get:∀{ds:List D} {vs:List V} {i:Nat} {d:D},RDs K H ds vs->ds[i]?=S d->∃v,vs[i]?=S v/\RD K H d v
 |[],_,_,_,_,e=>by simp at e
 |d::ds,_,0,d',h,e=>by let⟨v,r,rfl,h1,h2⟩:=WC.mp h;simp at e;subst e;show⟨v,rfl,h1⟩
 |d::ds,_,i+1,d',h,e=>by
  let⟨v,r,rfl,h1,h2⟩:=WC.mp h;let⟨u,j,q⟩:=RDs.get (i:=i) (d:=d') h2 (by simpa using e)
  show⟨u,by simpa using j,q⟩
def RDs.getV{ds:List D}(h:RDs K H ds vs)(e:vs[i]?=S v):∃d,ds[i]?=S d/\RD K H d v:=by
 let z:=h.length;let hi:i<vs.length:=(J4.mp e).1;obtain⟨d,hd⟩:∃d,ds[i]?=S d:=⟨ds[i]'∅,D1 ∅⟩
 let⟨u,j,q⟩:=h.get hd;rw[e]at j;cases j;show⟨d,hd,q⟩
def RDs.append:∀{ds es:List D} {vs us:List V},RDs K H ds vs->RDs K H es us->RDs K H (ds++es) (vs++us)
 |[],_,_,_,h,q=>by rw[RDs.nil_iff.mp h];show q
 |d::ds,_,_,_,h,q=>by let⟨v,r,rfl,h1,h2⟩:=WC.mp h;show RDs.cons h1 (RDs.append h2 q)
def RDs.take:∀{ds:List D} {vs:List V} (n:Nat),RDs K H ds vs->RDs K H (ds.take n) (vs.take n)
 |[],_,n,h=>by rw[RDs.nil_iff.mp h];simp;show RDs.nil
 |_::_,_,0,h=>by simp;show RDs.nil
 |d::ds,_,n+1,h=>by let⟨v,r,rfl,h1,h2⟩:=WC.mp h;show RDs.cons h1 (RDs.take n h2)
def RDs.drop:∀{ds:List D} {vs:List V} (n:Nat),RDs K H ds vs->RDs K H (ds.drop n) (vs.drop n)
 |[],_,n,h=>by rw[RDs.nil_iff.mp h];simp;show RDs.nil
 |d::ds,_,0,h=>h
 |d::ds,_,n+1,h=>by let⟨v,r,rfl,h1,h2⟩:=WC.mp h;show RDs.drop n h2
def RDs.set:∀{ds:List D} {vs:List V} (n:Nat) {d:D} {v:V},RD K H d v->RDs K H ds vs->RDs K H (ds.set n d) (vs.set n v)
 |[],_,n,_,_,_,h=>by rw[RDs.nil_iff.mp h];show RDs.nil
 |d::ds,_,0,_,_,q,h=>by let⟨v,r,rfl,h1,h2⟩:=WC.mp h;show RDs.cons q h2
 |d::ds,_,n+1,_,_,q,h=>by let⟨v,r,rfl,h1,h2⟩:=WC.mp h;show RDs.cons h1 (RDs.set n q h2)
def RDs.rep{ds:List D}(h:RDs K H ds vs):∀k:Nat,RDs K H (LQ k ds).flatten (LQ k vs).flatten
 |0=>RDs.nil
 |k+1=>by rw[Nf,Nf,N9,N9];show h.append (h.rep k)
def WR:∀(ns:List Int),RDs K H (ns.map D.int) (ns.map V.int)
 |[]=>RDs.nil
 |n::ns=>RDs.cons (Wz.mpr rfl) (WR ns)
end
mutual
noncomputable def D.eqb:D->D->Bool
 |.non,.non=>WX
 |.bl a,.bl b=>a==b
 |.int a,.int b=>decide (a=b)
 |.str a,.str b=>decide (a=b)
 |.tup a,.tup b=>D.eqbs a b
 |.con a,.con b=>D.eqbs a b
 |.ref a,.ref b=>decide (a=b)
 |.fn a,.fn b=>decide (a=b)
 |_,_=>WY
noncomputable def D.eqbs:List D->List D->Bool
 |[],[]=>WX
 |a::r,b::s=>D.eqb a b&&D.eqbs r s
 |_,_=>WY
end
mutual
theorem WW:∀(a b:D),D.eqb a b=WX->a=b
 |.non,b,h=>by cases b<;>first|rfl|cases h
 |.bl a,b,h=>by cases b<;>first|show congrArg D.bl (OR h)|cases h
 |.int a,b,h=>by cases b<;>first|show congrArg D.int (of_decide_eq_true h)|cases h
 |.str a,b,h=>by cases b<;>first|show congrArg D.str (of_decide_eq_true h)|cases h
 |.tup a,b,h=>by cases b<;>first|show congrArg D.tup (WO a _ h)|cases h
 |.con a,b,h=>by cases b<;>first|show congrArg D.con (WO a _ h)|cases h
 |.ref a,b,h=>by cases b<;>first|show congrArg D.ref (of_decide_eq_true h)|cases h
 |.fn a,b,h=>by cases b<;>first|show congrArg D.fn (of_decide_eq_true h)|cases h
theorem WO:∀(a b:List D),D.eqbs a b=WX->a=b
 |[],b,h=>by cases b<;>first|rfl|cases h
 |a::r,b,h=>by
  cases b with
  |nil=>cases h
  |cons b s=>let h:=(D0 _ _).mp h;rw[WW a b h.1,WO r s h.2]
end
mutual
theorem WT:∀(a:D),D.eqb a a=WX
 |.non=>rfl
 |.bl a=>beq_self_eq_true a
 |.int _=>decide_eq_true rfl
 |.str _=>decide_eq_true rfl
 |.tup a=>WL a
 |.con a=>WL a
 |.ref _=>decide_eq_true rfl
 |.fn _=>decide_eq_true rfl
theorem WL:∀(a:List D),D.eqbs a a=WX
 |[]=>rfl
 |a::r=>(D0 _ _).mpr ⟨WT a,WL r⟩
end
noncomputable instance:DecidableEq D:=λa b=>if h:D.eqb a b=WX then isTrue (WW a b h)else isFalse λe=>h (by rw[e];show WT b)
abbrev RKey:D->Key->Prop
 |.int i,k=>k=.inl i
 |.str x,k=>k=.inr x
 |_,_=>False
abbrev RKeys:D->List Key->Prop
 |.tup ds,ks=>N6 RKey ds ks
 |_,_=>False
abbrev bU(kvs:List (D×D))(k:D):Option D:=(kvs.find? λp=>decide (p.1=k)).map (·.2)
abbrev gH(kvs:List (D×D))(k v:D):List (D×D):=if(kvs.any λp=>decide (p.1=k))=WX then kvs.map (λp=>if p.1=k then(p.1,v)else p)else kvs++[(k,v)]
abbrev fS:D->Bool
 |.int _=>WX
 |.str _=>WX
 |_=>WY
abbrev dw:D->Bool
 |.tup ds=>ds.all fS&&fk ds
 |_=>WY
abbrev kh(t:Bool)(k:D):Bool:=if t then dw k else fS k
def pD{k:D}(h:fS k=WX):∃q,RKey k q:=by cases k<;>first|(simp[fS]at h;done)|show⟨_,rfl⟩
def sB:∀{ds:List D},ds.all fS=WX->∃ks,N6 RKey ds ks
 |[],_=>⟨[],.nil⟩
 |d::ds,h=>by simp only[NR,D0]at h;let⟨k,j⟩:=pD h.1;let⟨ks,hs⟩:=sB h.2;show⟨k::ks,.cons j hs⟩
def sC{k:D}(h:dw k=WX):∃q,RKeys k q:=by cases k<;>first|(simp[dw]at h;done)|show sB (Q3.mp h).1
def sD{ds:List D}(h:dw (.tup ds)=WX):fk ds=WX:=(Q3.mp h).2
abbrev RO(K:Frag)(H:Hp)(a:WZ):O->Prop
 |.lst ds=>∃vs,H a=S (.lst vs)/\RDs K H ds vs
 |.dct WY kvs=>∃ps,H a=S (.dK ps)/\N6 (λ(p:D×D) (q:Key×V)=>RKey p.1 q.1/\RD K H p.2 q.2) kvs ps
 |.dct WX kvs=>∃ps,H a=S (.dT ps)/\N6 (λ(p:D×D) (q:List Key×V)=>RKeys p.1 q.1/\RD K H p.2 q.2) kvs ps
 |.fdc kvs=>∃o ps,H a=S (.frz o (.dT ps))/\N6 (λ(p:D×D) (q:List Key×V)=>RKeys p.1 q.1/\RD K H p.2 q.2) kvs ps
 |.dcn kvs=>∃xs,H a=S (.ext (NDict a xs))/\N6 (λ(p:NK×D) (q:NK×WZ×gV)=>p.1=q.1/\Kt H q.1 q.2.1/\∃v,RelV v q.2.2/\RD K H p.2 v) kvs xs
 |.fdn kvs=>∃o xs,H a=S (.frz o (.ext (NDict a xs)))/\N6 (λ(p:NK×D) (q:NK×WZ×gV)=>p.1=q.1/\Kt H q.1 q.2.1/\∃v,RelV v q.2.2/\RD K H p.2 v) kvs xs
abbrev RM(K:Frag)(M:Mem)(H:Hp):Prop:=∀a o,M a=S o->RO K H a o
abbrev RS(K:Frag)(H:Hp)(σ:St)(ρ:ax):Prop:=σ.length=ρ.length/\∀(i:Nat) (d:D),ρ[i]?=S (S d)->∃v,σ[i]?=S (S v)/\RD K H d v
structure Ext(M:Mem)(H:Hp)(M':Mem)(H':Hp):Prop where
 kp:∀a o,fz (M a)=WX->H a=S o->H' a=S o
 nw:∀a o,fz (M a)=WX->H a=S o->M' a=M a
section
variable{K:Frag}{M M' M'':Mem}{H H' H'':Hp}
def Ext.keep(x:Ext M H M' H')(a:WZ)(o:HO)(n:M a=Y)(e:H a=S o):H' a=S o:=x.kp a o (by rw[n];rfl) e
def Ext.new(x:Ext M H M' H')(a:WZ)(o:HO)(n:M a=Y)(e:H a=S o):M' a=Y:=(x.nw a o (by rw[n];rfl) e).trans n
def Ext.refl:Ext M H M H:=⟨λ_ _ _ h=>h,λ_ _ _ _=>rfl⟩
def Ext.trans(a:Ext M H M' H')(b:Ext M' H' M'' H''):Ext M H M'' H'':=⟨λc o n h=>b.kp c o (by rw[a.nw c o n h];show n) (a.kp c o n h),λc o n h=>(b.nw c o (by rw[a.nw c o n h];show n) (a.kp c o n h)).trans (a.nw c o n h)⟩
def RM.mut(r:RM K M H){o:O}(h:M a=S o):∃ho,H a=S ho/\(∀xs,ho≠.tup xs)/\(fz (S o)=WY->Mut (S ho)/\∀ob u,ho≠.frz ob u):=by
 let q:=r a o h
 cases o with
 |lst ds=>let⟨vs,e,_⟩:=q;show⟨_,e,λ_ z=>(by cases z),λ_=>⟨trivial,λ_ _ z=>(by cases z)⟩⟩
 |dct t kvs=>
  cases t with
  |false=>let⟨ps,e,_⟩:=q;show⟨_,e,λ_ z=>(by cases z),λ_=>⟨trivial,λ_ _ z=>(by cases z)⟩⟩
  |true=>let⟨ps,e,_⟩:=q;show⟨_,e,λ_ z=>(by cases z),λ_=>⟨trivial,λ_ _ z=>(by cases z)⟩⟩
 |fdc kvs=>let⟨ob,ps,e,_⟩:=q;show⟨_,e,λ_ z=>(by cases z),λz=>(by cases z)⟩
 |fdn kvs=>let⟨ob,ps,e,_⟩:=q;show⟨_,e,λ_ z=>(by cases z),λz=>(by cases z)⟩
 |dcn kvs=>let⟨xs,e,_⟩:=q;show⟨_,e,λ_ z=>(by cases z),λ_=>⟨trivial,λ_ _ z=>(by cases z)⟩⟩
def RM.fzT(r:RM K M H)(e:H a=S (.tup xs)):M a=Y:=by
 cases q:M a with
 |none=>rfl
 |some o=>let⟨ho,j,z,_⟩:=r.mut q;rw[e]at j;cases j;show absurd rfl (z xs)
def RM.fzF(r:RM K M H){ob:Obj}{u:HO}(e:H a=S (.frz ob u)):fz (M a)=WX:=by
 cases q:M a with
 |none=>rfl
 |some o=>
  let⟨ho,j,_,B⟩:=r.mut q;rw[e]at j;cases j
  cases z:fz (S o)with
  |true=>rfl
  |false=>show absurd rfl ((B z).2 ob u)
def RM.out(r:RM K M H)(h:H a=Y):M a=Y:=by
 cases e:M a with
 |none=>rfl
 |some o=>let⟨ho,q,_⟩:=r.mut e;rw[h]at q;cases q
def Ext.stab(r:RM K M H)(x:Ext M H M' H'):Stab H H' where
 tup:=λa xs e=>x.keep a _ (r.fzT e) e
 frz:=λa o u e=>x.kp a _ (r.fzF e) e
def RS.mono(st:Stab H H'){ρ:ax}(h:RS K H σ ρ):RS K H' σ ρ:=⟨h.1,λi d e=>let⟨v,q,r⟩:=h.2 i d e; ⟨v,q,r.mono st⟩⟩
def RS.set{ρ:ax}(h:RS K H σ ρ)(i:Nat){d:D}(r:RD K H d v):RS K H (σ.set i (S v)) (ρ.set i (S d)):=by
 refine⟨by simp[h.1],λj e q=>?_⟩
 by_cases hij:i=j
 ·subst hij;let hi:i<ρ.length:=by
   let:=(J4.mp q).1;simpa using this
  rw[Pn hi]at q
  cases q
  show⟨v,by rw[Pn (by rw[h.1];show hi)],r⟩
 ·rw[Rh hij]at q⊢;show h.2 j e q
abbrev uf(fr:List (Option Nat))(ρ:ax):ax:=fr.map λo=>o.bind λj=>(ρ[j]?).join
def RS.inh{ρ:ax}(h:RS K H σ ρ)(fr:List (Option Nat)):RS K H (inh fr σ) (uf fr ρ):=by
 refine⟨by simp[L2.inh,uf],λi d e=>?_⟩
 unfold uf at e;unfold L2.inh;rw[Ly]at e⊢
 cases q:fr[i]? with
 |none=>rw[q]at e;cases e
 |some o=>
  rw[q]at e
  cases o with
  |none=>cases e
  |some j=>
   let e':S ((ρ[j]?).join)=S (S d):=e
   cases q':ρ[j]? with
   |none=>rw[q']at e';cases e'
   |some w=>
    rw[q']at e'
    cases e'
    let⟨v,v1,v2⟩:=h.2 j d q';show⟨v,by simp[v1],v2⟩
def RO.mono(st:Stab H H'){o:O}(h:RO K H a o)(e:∀ho,H a=S ho->H' a=S ho):RO K H' a o:=by
 cases o with
 |lst ds=>let⟨vs,q,r⟩:=h;show⟨vs,e _ q,r.mono st⟩
 |dct t kvs=>
  cases t with
  |false=>let⟨ps,q,r⟩:=h;show⟨ps,e _ q,WD r λ_ _ z=>⟨z.1,z.2.mono st⟩⟩
  |true=>let⟨ps,q,r⟩:=h;show⟨ps,e _ q,WD r λ_ _ z=>⟨z.1,z.2.mono st⟩⟩
 |fdc kvs=>let⟨ob,ps,q,r⟩:=h;show⟨ob,ps,e _ q,WD r λ_ _ z=>⟨z.1,z.2.mono st⟩⟩
 |fdn kvs=>let⟨ob,xs,q,r⟩:=h;show⟨ob,xs,e _ q,WD r λ_ _ j=>(by let⟨B,F,v,G,J⟩:=j;show⟨B,F.keeps st.tup,v,G,J.mono st⟩)⟩
 |dcn kvs=>let⟨xs,q,r⟩:=h;show⟨xs,e _ q,WD r λ_ _ j=>(by let⟨B,F,v,G,J⟩:=j;show⟨B,F.keeps st.tup,v,G,J.mono st⟩)⟩
def RM.new(r:RM K M H)(n:H p=Y):RM K M (upd H p ho):=λa o e=>by
 let ne:a≠p:=λz=>by subst z;let⟨_,q,_⟩:=r.mut e;rw[n]at q;cases q
 refine(r a o e).mono ⟨λb xs q=>?_,λb o u q=>?_⟩ λj q=>by rw[av ne];show q
 ·rw[av (ba q n)];show q
 ·rw[av (ba q n)];show q
def WK(n:H p=Y):Ext M H M (upd H p ho):=⟨λa o _ e=>by rw[av (ba e n)];show e,λ_ _ _ _=>rfl⟩
def RM.lay{o:O}(r:RM K M H)(n:H p=Y)(h:RO K (upd H p ho) p o):RM K (ad M p o) (upd H p ho):=λa o' e=>by
 by_cases z:a=p
 ·subst z;rw[aa]at e;cases e;show h
 ·rw[aj z]at e;show r.new n a o' e
def Ext.lay{o:O}(n:H p=Y):Ext M H (ad M p o) (upd H p ho):=⟨λa u _ e=>by rw[av (ba e n)];show e,λa u m e=>by rw[aj (ba e n)]⟩
def RM.put{o o0:O}(r:RM K M H)(m:M p=S o0)(h:RO K (upd H p ho) p o)(w:fz (S o0)=WY:=by rfl):RM K (ad M p o) (upd H p ho):=λa o' e=>by
 by_cases z:a=p
 ·subst z;rw[aa]at e;cases e;show h
 ·rw[aj z]at e;let⟨J,j,B,F⟩:=r.mut m;refine(r a o' e).mono ⟨λb xs q=>?_,λb o u q=>?_⟩ λG q=>by rw[av z];show q
  ·rw[av (λz=>by subst z;rw[j]at q;cases q;show B xs rfl)];show q
  ·rw[av (λz=>by subst z;rw[j]at q;cases q;show(F w).2 o u rfl)];show q
def Ext.put{o o0:O}(m:M p=S o0)(w:fz (S o0)=WY:=by rfl):Ext M H (ad M p o) (upd H p ho):=⟨λa u n e=>by rw[av (λz=>by subst z;rw[m,w]at n;cases n)];show e,λa u n e=>aj (λz=>by subst z;rw[m,w]at n;cases n)⟩
def RM.stabPut{o0:O}(r:RM K M H)(m:M p=S o0)(w:fz (S o0)=WY:=by rfl):Stab H (upd H p ho):=(Ext.put (o:=o0) (ho:=ho) m w).stab r
end
noncomputable abbrev QD:=D->Mem->Prop
noncomputable abbrev TEd:=ax->Mem->QD->Prop
noncomputable abbrev TTd:=ax->Mem->(Bool->Mem->Prop)->Prop
noncomputable abbrev TAd:=ax->Mem->(List D->Mem->Prop)->Prop
structure bV where
 nx:ax->Mem->Prop
 rt:QD
 bk:ax->Mem->Prop:=λ_ _=>False
 ct:ax->Mem->Prop:=λ_ _=>False
noncomputable abbrev TSd:=bV->ax->Mem->Prop
abbrev ae(T:TEd):Prop:=∀ρ M Q Q',(∀d M',Q d M'->Q' d M')->T ρ M Q->T ρ M Q'
abbrev aM(T:TTd):Prop:=∀ρ M Q Q',(∀d M',Q d M'->Q' d M')->T ρ M Q->T ρ M Q'
abbrev bd(T:TAd):Prop:=∀ρ M Q Q',(∀d M',Q d M'->Q' d M')->T ρ M Q->T ρ M Q'
structure LeD(a b:bV):Prop where
 nx:∀ρ M,a.nx ρ M->b.nx ρ M
 rt:∀d M,a.rt d M->b.rt d M
 bk:∀ρ M,a.bk ρ M->b.bk ρ M
 ct:∀ρ M,a.ct ρ M->b.ct ρ M
abbrev aJ(T:TSd):Prop:=∀a b ρ M,LeD a b->T a ρ M->T b ρ M
abbrev KE'(K:Frag)(M:Mem)(H:Hp)(Q:VK):QD:=λd M'=>∀v H',Ext M H M' H'->RM K M' H'->RD K H' d v->Q v H'
abbrev KT'(K:Frag)(M:Mem)(H:Hp)(Q:Bool->Hp->Prop):Bool->Mem->Prop:=λb M'=>∀H',Ext M H M' H'->RM K M' H'->Q b H'
abbrev KA'(K:Frag)(M:Mem)(H:Hp)(Q:List V->Hp->Prop):List D->Mem->Prop:=λds M'=>∀vs H',Ext M H M' H'->RM K M' H'->RDs K H' ds vs->Q vs H'
abbrev lE(K:Frag)(T:TEd):TE:=λσ H Q=>∃ρ M,RS K H σ ρ/\RM K M H/\T ρ M (KE' K M H Q)
abbrev lT(K:Frag)(T:TTd):TT:=λσ H Q=>∃ρ M,RS K H σ ρ/\RM K M H/\T ρ M (KT' K M H Q)
abbrev lA(K:Frag)(T:TAd):TA:=λσ H Q=>∃ρ M,RS K H σ ρ/\RM K M H/\T ρ M (KA' K M H Q)
structure Link(K:Frag)(M:Mem)(H:Hp)(a:bV)(b:bJ):Prop where
 nx:∀ρ M' σ H',Ext M H M' H'->RS K H' σ ρ->RM K M' H'->a.nx ρ M'->b.nx σ H'
 rt:∀d M' v H',Ext M H M' H'->RM K M' H'->RD K H' d v->a.rt d M'->b.rt v H'
 bk:∀ρ M' σ H',Ext M H M' H'->RS K H' σ ρ->RM K M' H'->a.bk ρ M'->b.bk σ H'
 ct:∀ρ M' σ H',Ext M H M' H'->RS K H' σ ρ->RM K M' H'->a.ct ρ M'->b.ct σ H'
abbrev lS(K:Frag)(T:TSd):TS:=λD σ H=>∃ρ M A,RS K H σ ρ/\RM K M H/\Link K M H A D/\T A ρ M
def Link.ext{M M':Mem}{a:bV}{b:bJ}(l:Link K M H a b)(x:Ext M H M' H'):Link K M' H' a b:=⟨λρ M2 σ H2 y=>l.nx ρ M2 σ H2 (x.trans y),λd M2 v H2 y=>l.rt d M2 v H2 (x.trans y),λρ M2 σ H2 y=>l.bk ρ M2 σ H2 (x.trans y),λρ M2 σ H2 y=>l.ct ρ M2 σ H2 (x.trans y)⟩
def PE.imp{t t':TE}(h:PE X e t)(i:∀σ H Q,t' σ H Q->t σ H Q):PE X e t':=λpins s σ H Q I q=>h pins s σ H Q I (i _ _ _ q)
def PT.imp{t t':TT}(h:PT X e t)(i:∀σ H Q,t' σ H Q->t σ H Q):PT X e t':=λpins s σ H Q I q=>h pins s σ H Q I (i _ _ _ q)
def PW.imp{t t':TT}(h:PW X e t)(i:∀σ H Q,t' σ H Q->t σ H Q):PW X e t':=λwh pins s σ H Q I q=>h wh pins s σ H Q I (i _ _ _ q)
def PA.imp{e:List Expr}{t t':TA}(h:PA X e t)(i:∀σ H Q,t' σ H Q->t σ H Q):PA X e t':=λp pins s σ H Q I q=>h p pins s σ H Q I (i _ _ _ q)
def PS.imp{e:Stmt}{t t':TS}(h:PS X e t)(i:∀D σ H,t' D σ H->t D σ H):PS X e t':=λpins s σ H D I q=>h pins s σ H D I (i _ _ _ q)
def PSs.imp{e:List Stmt}{t t':TS}(h:PSs X e t)(i:∀D σ H,t' D σ H->t D σ H):PSs X e t':=λpins s σ H D I q=>h pins s σ H D I (i _ _ _ q)
end
variable{M M':Mem}{ds:List D}{d:D}{Q:VK}{ta:TEd}{tr:TAd}{j:Nat}{es:List Expr}
section
def KE'.ext{M2:Mem}{H2:Hp}(x:Ext M H M2 H2)(h:KE' K M H Q d M'):KE' K M2 H2 Q d M':=λv H' y=>h v H' (x.trans y)
def KT'.ext{M2:Mem}{H2:Hp}{Q:Bool->Hp->Prop}{d:Bool}(x:Ext M H M2 H2)(h:KT' K M H Q d M'):KT' K M2 H2 Q d M':=λH' y=>h H' (x.trans y)
noncomputable abbrev R2d:=D->D->Mem->QD->Prop
noncomputable abbrev R1d:=D->Mem->QD->Prop
noncomputable abbrev RAd:=List D->Mem->QD->Prop
abbrev aE(r:R2d):Prop:=∀x y M Q Q',(∀d M',Q d M'->Q' d M')->r x y M Q->r x y M Q'
abbrev ug(r:R1d):Prop:=∀x M Q Q',(∀d M',Q d M'->Q' d M')->r x M Q->r x M Q'
abbrev b8(r:RAd):Prop:=∀x M Q Q',(∀d M',Q d M'->Q' d M')->r x M Q->r x M Q'
abbrev l2(K:Frag)(rd:R2d):R2:=λv u H Q=>∃x y M,RM K M H/\RD K H x v/\RD K H y u/\rd x y M (KE' K M H Q)
abbrev l1(K:Frag)(rd:R1d):V->Hp->VK->Prop:=λv H Q=>∃x M,RM K M H/\RD K H x v/\rd x M (KE' K M H Q)
abbrev lR(K:Frag)(rd:RAd):List V->Hp->VK->Prop:=λvs H Q=>∃ds M,RM K M H/\RDs K H ds vs/\rd ds M (KE' K M H Q)
abbrev lMt(K:Frag)(rd:D->List D->Mem->QD->Prop):V->List V->Hp->VK->Prop:=λv vs H Q=>∃x ds M,RM K M H/\RD K H x v/\RDs K H ds vs/\rd x ds M (KE' K M H Q)
abbrev aP(i:Nat):TEd:=λρ M Q=>∃d,ρ[i]?=S (S d)/\Q d M
abbrev wC(d:D):TEd:=λ_ M Q=>Q d M
abbrev wOp(rd:R2d)(ta tb:TEd):TEd:=λρ M Q=>ta ρ M λx M1=>tb ρ M1 λy M2=>rd x y M2 Q
abbrev wUn(rd:R1d)(ta:TEd):TEd:=λρ M Q=>ta ρ M λx M1=>rd x M1 Q
abbrev aY:TAd:=λ_ M Q=>Q [] M
abbrev au(ta:TEd)(tr:TAd):TAd:=λρ M Q=>ta ρ M λx M1=>tr ρ M1 λxs M2=>Q (x::xs) M2
abbrev wAr(rd:RAd)(t:TAd):TEd:=λρ M Q=>t ρ M λds M1=>rd ds M1 Q
def zg:ae (aP i):=λ_ _ _ _ h j=>(by let⟨d,e,q⟩:=j;show⟨d,e,h _ _ q⟩)
def pE:ae (wC d):=λ_ _ _ _ h q=>h _ _ q
def dY{rd:R2d}{tb:TEd}(hr:aE rd)(j:ae ta)(z:ae tb):ae (wOp rd ta tb):=λρ M Q Q' h q=>j _ _ _ _ (λx G B=>z _ _ _ _ (λy M2 F=>hr _ _ _ _ _ h F) B) q
def BG{rd:R1d}(hr:ug rd)(j:ae ta):ae (wUn rd ta):=λρ M Q Q' h q=>j _ _ _ _ (λx B z=>hr _ _ _ _ h z) q
def ay:bd aY:=λ_ _ _ _ h q=>h _ _ q
def aw(j:ae ta)(hr:bd tr):bd (au ta tr):=λρ M Q Q' h q=>j _ _ _ _ (λx F z=>hr _ _ _ _ (λxs M2 B=>h _ _ B) z) q
def ig{rd:RAd}{t:TAd}(hr:b8 rd)(ht:bd t):ae (wAr rd t):=λρ M Q Q' h q=>ht _ _ _ _ (λds z j=>hr _ _ _ _ h j) q
section
variable{X:Cx}{a b:Expr}{ta tb:TEd}{pos:Pos}
def E3(B:X.N[i]?=S x)(j:Vis X.env.scope x)(hd:(x==("__debug__":Str))=WY)(z:(x==("__classdict__":Str))=WY):PE X (.Name x pos) (lE X.K (aP i)):=by calc PE.imp (Du B j hd z) λσ H Q h=>?_;let⟨ρ,M,rs,rm,d,e,q⟩:=h;let⟨v,j,rd⟩:=rs.2 i d e;show⟨v,j,q v H Ext.refl rm rd⟩
def le_int{i:Int}:PE X (.Constant (.int i) j pos) (lE X.K (wC (.int i))):=PE.imp Dv λσ H Q g9=>(by let⟨ρ,M,rs,rm,q⟩:=g9;show q _ H Ext.refl rm (Wz.mpr rfl))
def FA{i:Bool}:PE X (.Constant (.bool i) j pos) (lE X.K (wC (.bl i))):=PE.imp Fa λσ H Q g9=>(by let⟨ρ,M,rs,rm,q⟩:=g9;show q _ H Ext.refl rm (WB.mpr rfl))
def E4:PE X (.Constant .none j pos) (lE X.K (wC .non)):=PE.imp Dw λσ H Q g9=>(by let⟨ρ,M,rs,rm,q⟩:=g9;show q _ H Ext.refl rm (WH.mpr rfl))
def ii{rd:R2d}(hr:aE rd)(ma:ae ta)(mb:ae tb)(σ:St)(H:Hp)(Q:VK)(h:lE K (wOp rd ta tb) σ H Q):tOp (l2 K rd) (lE K ta) (lE K tb) σ H Q:=by let⟨ρ,M,rs,rm,q⟩:=h;calc⟨ρ,M,rs,rm,ma _ _ _ _ (λx L O v H1 G j z=>?_) q⟩;calc⟨ρ,L,rs.mono (G.stab rm),j,mb _ _ _ _ (λy M2 U u H2 J B F=>?_) O⟩;show⟨x,y,M2,B,z.mono (J.stab j),F,hr _ _ _ _ _ (λd M' k=>k.ext (G.trans J)) U⟩
def FB{op:UQ}{rd:R2d}(ho:OpR X (NQ op) (l2 X.K rd))(hr:aE rd)(ma:ae ta)(mb:ae tb)(j:PE X a (lE X.K ta))(q:PE X b (lE X.K tb)):PE X (.BinOp a op b pos) (lE X.K (wOp rd ta tb)):=PE.imp (Fj ho j q) (ii hr ma mb)
def E5{op:Uk}{rd:R2d}(ho:OpR X (Mu op) (l2 X.K rd))(hr:aE rd)(ma:ae ta)(mb:ae tb)(j:PE X a (lE X.K ta))(q:PE X b (lE X.K tb))(hm:Qc op b=WY):PE X (.Compare a [op] [b] pos) (lE X.K (wOp rd ta tb)):=PE.imp (Br ho j q hm) (ii hr ma mb)
abbrev cv(t:TEd):TTd:=λρ M Q=>t ρ M λx M1=>∃k,x=.bl k/\Q k M1
def pF{t:TEd}(h:ae t):aM (cv t):=λρ M Q Q' i q=>h _ _ _ _ (λx B j=>(by let⟨k,e,z⟩:=j;show⟨k,e,i _ _ z⟩)) q
def pG{t:TEd}(m:ae t)(σ:St)(H:Hp)(Q:Bool->Hp->Prop)(h:lT K (cv t) σ H Q):tW (lE K t) σ H Q:=by let⟨ρ,M,rs,rm,q⟩:=h;calc⟨ρ,M,rs,rm,m _ _ _ _ (λx G g9 v H1 F j z=>?_) q⟩;let⟨k,e,B⟩:=g9;subst e;show⟨k,WB.mp z,B H1 F j⟩
def E6{op:Uk}{rd:R2d}(ho:OpR X (Mu op) (l2 X.K rd))(hr:aE rd)(ma:ae ta)(mb:ae tb)(j:PE X a (lE X.K ta))(q:PE X b (lE X.K tb))(hm:Qc op b=WY):
 PT X (.Compare a [op] [b] pos) (lT X.K (cv (wOp rd ta tb))):=
 PT.imp (Bs ho j q hm) λσ H Q h=>by let h1:=pG (dY hr ma mb) σ H Q h;show ii hr ma mb σ H _ h1
def FC{op:UnaryOp}{rd:R1d}(ho:UnR X (unaryOp op) (l1 X.K rd))(hr:ug rd)(ma:ae ta)(B:PE X a (lE X.K ta)):PE X (.UnaryOp op a pos) (lE X.K (wUn rd ta)):=PE.imp (Fk ho B) λσ H Q g9=>(by let⟨ρ,M,rs,rm,q⟩:=g9;show⟨ρ,M,rs,rm,ma _ _ _ _ (λx F G v H1 J j z=>⟨x,F,j,z,hr _ _ _ _ (λd M' k=>k.ext J) G⟩) q⟩)
def B3{rd:R2d}(ho:IxR X (l2 X.K rd))(hr:aE rd)(ma:ae ta)(mb:ae tb)(j:PE X a (lE X.K ta))(q:PE X b (lE X.K tb))(hs:kZ b):PE X (.Subscript a b pos) (lE X.K (wOp rd ta tb)):=PE.imp (Fr ho j q hs) (ii hr ma mb)
def cR:PA X [] (lA X.K aY):=PA.imp jS λσ H Q g9=>(by let⟨ρ,M,rs,rm,q⟩:=g9;show q _ H Ext.refl rm RDs.nil)
def wl(ma:ae ta)(mr:bd tr)(σ:St)(H:Hp)(Q:List V->Hp->Prop)(h:lA K (au ta tr) σ H Q):AT (lE K ta) (lA K tr) σ H Q:=by let⟨ρ,M,rs,rm,q⟩:=h;calc⟨ρ,M,rs,rm,ma _ _ _ _ (λx L O v H1 G j z=>?_) q⟩;calc⟨ρ,L,rs.mono (G.stab rm),j,mr _ _ _ _ (λxs M2 U vs H2 J B F=>?_) O⟩;show U (v::vs) H2 (G.trans J) B (RDs.cons (z.mono (J.stab j)) F)
def br(ma:ae ta)(mr:bd tr)(j:PE X e (lE X.K ta))(hr:PA X es (lA X.K tr))(hs:LV (e::es) X.env=(WY,eval e X.env)::LV es X.env):PA X (e::es) (lA X.K (au ta tr)):=PA.imp (db j hr hs) (wl ma mr)
def bF{rd:RAd}{t:TAd}(hr:b8 rd)(mt:bd t)(σ:St)(H:Hp)(Q:VK)(h:lE K (wAr rd t) σ H Q):tCB (lR K rd) (lA K t) σ H Q:=by let⟨ρ,M,rs,rm,q⟩:=h;show⟨ρ,M,rs,rm,mt _ _ _ _ (λds B F vs H1 G j z=>⟨ds,B,j,z,hr _ _ _ _ (λd M' k=>k.ext G) F⟩) q⟩
abbrev pH:RAd:=λds M Q=>ds.length<=Ls/\Q (.tup ds) M
abbrev lg:RAd:=λds M Q=>ds.length<=Ls/\∀p,M p=Y->Q (.ref p) (ad M p (.lst ds))
def wm:b8 pH:=λ_ _ _ _ h j=>(by let⟨z,q⟩:=j;show⟨z,h _ _ q⟩)
def wn:b8 lg:=λ_ _ _ _ h j=>(by let⟨z,q⟩:=j;show⟨z,λp n=>h _ _ (q p n)⟩)
def dZ(rm:RM K M H)(rd:RDs K H ds vs)(q:KE' K M H Q (.tup ds) M)(n:H p=Y):Q (.ref p) (upd H p (.tup vs)):=by let x:Ext M H M (upd H p (.tup vs)):=WK n;show q (.ref p) _ x (rm.new n) (WJ ⟨p,vs,rfl,aB,rd.mono (x.stab rm)⟩)
def cH(rm:RM K M H)(rd:RDs K H ds vs)(q:∀p,M p=Y->KE' K M H Q (.ref p) (ad M p (.lst ds)))(n:H p=Y):Q (.ref p) (upd H p (.lst vs)):=by let x:Ext M H (ad M p (.lst ds)) (upd H p (.lst vs)):=Ext.lay n;let x0:Ext M H M (upd H p (.lst vs)):=WK n;show q p (rm.out n) (.ref p) _ x (rm.lay n ⟨vs,aB,rd.mono (x0.stab rm)⟩) (WA.mpr rfl)
def E7{t:TAd}{k:Nat}(mt:bd t)(h:PA X es (lA X.K t)):PE X (.Tuple es k pos) (lE X.K (wAr pH t)):=PE.imp (vY h) λσ H Q B=>(by let⟨ρ,M,rs,rm,q⟩:=B;show⟨ρ,M,rs,rm,mt _ _ _ _ (λds L B vs H1 G F j=>(by let⟨z,J⟩:=B;show⟨by rw[j.length];show z,λp n=>dZ F j (J.ext G) n⟩)) q⟩)
def E8{t:TAd}(mt:bd t)(h:PA X es (lA X.K t)):PE X (.List es pos) (lE X.K (wAr lg t)):=PE.imp (DS h) λσ H Q B=>(by let⟨ρ,M,rs,rm,q⟩:=B;show⟨ρ,M,rs,rm,mt _ _ _ _ (λds L B vs H1 G F j=>(by let⟨z,J⟩:=B;show⟨by rw[j.length];show z,λp n=>cH F j (λp' n'=>(J p' n').ext G) n⟩)) q⟩)
end
end
end Mi
namespace Mi
end Mi
section
def jg:fillsNumberSlot (.type "tuple") "mul"=pure WY:=PyProof.Rows.fillsNumberSlot_seq (id:="tuple.__mul__") (r:=S (.builtin "tuple.__rmul__")) F.slot_tuple_mul.lookup (by decide +kernel) F.slot_tuple_rmul.lookup (by decide +kernel)
def pI:seqRepeat? (.type "tuple")=pure (S (.builtin "tuple.__mul__")):=by
 unfold seqRepeat?;rw[SR (T:="tuple") (name:="__mul__") (id:="tuple.__mul__") F.slot_tuple_mul.lookup (by decide +kernel),SR (T:="tuple") (name:="__rmul__") (id:="tuple.__rmul__") F.slot_tuple_rmul.lookup (by decide +kernel)]
 rfl
def lh(a:Int)(t:Tok)(l:WZ)(items:Array gV)(n:Nat)(d:Option WZ)(sl:Array (Option gV)):
 Meets (O7.«int.__rmul__» ⟨[.int a t,.ref l],[]⟩) (λ_ R s=>s.heap.get? l=S {cls:=.type "tuple",dict:=d,data:=.seq items n,slots:=sl}/\R (.ok (.ret TL)) s):=
 .of_wp λprog w A R s h=>by let⟨j,g,d,tk,os⟩:=s;let⟨q,h⟩:=h;wp_walk;show⟨_,rfl,h⟩
open AutoSeq1 (wpAny_loadPart') in
def wo(l:WZ)(items:Array gV)(n:Nat)(dd:Option WZ)(sl:Array (Option gV))(x:Int)(u:Tok)(h1:-(2^63)<=x)(h2:x<2^63)(hz:items.size*x.toNat<=Ls):
 Meets (O7.«tuple.__mul__» ⟨[.ref l,.int x u],[]⟩) (λ_ R s=>s.heap.get? l=S {cls:=.type "tuple",dict:=dd,data:=.seq items n,slots:=sl} /\
  (if items.isEmpty || x==1 then R (.ok (.ret (.ref l))) s else R (.ok (.ret (.ref s.heap.objs.size))) {s with heap:=s.heap.push {cls:=.type "tuple",data:=.seq ((LQ x.toNat items).foldl (· ++ ·) #[])}})):=
 .of_wp λprog w A R s h=>by
  let⟨L,g,d,tk,os⟩:=s;let⟨j,h⟩:=h;let f1:=AutoSeq1.idx_int;let z:(decide (x < -(2^63)) || decide (x≥2^63))=WY:=by rw[decide_eq_false ∅,decide_eq_false ∅];rfl
  wp_walk using Ow j
  refine Rt (decide_eq_false (by rw[z];decide)) ?_
  dsimp only
  by_cases e1:(items.isEmpty || x==1)=WX
  ·rw[if_pos e1]at h
   wp_walk using Ow j
   show⟨_,rfl,h⟩
  ·rw[if_neg e1]at h
   wp_walk using Ow j
   simp only[Tt,not_or]at e1
   by_cases e2:x<=0
   ·let q:(decide (x<=0) || items.isEmpty)=WX:=by rw[decide_eq_true e2];rfl
    rw[if_pos q];let B:x.toNat=0:=∅
    rw[B]at h
    wp_walk
    show⟨_,rfl,h⟩
   ·let q:¬(decide (x<=0) || items.isEmpty)=WX:=by simp;show⟨∅,by simpa using e1.1⟩
    rw[if_neg q];let hx:((items.size:Nat):Int)*x=((items.size*x.toNat:Nat):Int):=by rw[PD,Pf ∅]
    let hs:Ls=16777216:=hH;let F:¬((items.size:Nat):Int)*x > (2^63-1) / 8:=by rw[hx];lia
    rw[if_neg F];let G:¬S4 (((items.size:Nat):Int)*x)=WX:=by rw[hx];unfold S4;intro J;let O:=of_decide_eq_true J;lia
    rw[if_neg G]
    wp_walk
    let hsz:((LQ x.toNat items).foldl (· ++ ·) #[]).size<=Ls:=by
     let:∀(k:Nat) (a:Array gV),((LQ k items).foldl (· ++ ·) a).size=a.size+items.size*k:=by
      intro k;induction k with
      |zero=>intro a;simp
      |succ k ih=>intro a;rw[Nf,Tp,ih,PU,Nat.mul_succ];lia
     rw[this];simpa using hz
    refine Rt (decide_eq_false (Wf.mpr hsz)) ?_
    wp_walk
    show⟨_,rfl,h⟩
end
section
section
variable{X:Cx}
abbrev B4(K:Frag):R2:=λx y H Q=>∃l k xs,x=.ref l/\y=.int k/\SqT K H l xs /\ -(2^63)<=k/\k<2^63/\xs.length*k.toNat<=Ls /\
 ((xs=[]∨k=1)->Q (.ref l) H)/\(¬(xs=[]∨k=1)->∀p,H p=Y->Q (.ref p) (upd H p (.tup (LQ k.toNat xs).flatten)))
set_option tactic.hygienic true
def BH:OpR X (NQ .Mult) (B4 X.K):=by
 intro pins s σ H x y v u Q I rx ry h;let⟨l,k,xs,rfl,rfl,B,h1,h2,hz,G,J⟩:=h
 cases rx
 let⟨t,rfl⟩:=ry;let⟨its,r,L,_⟩:=I.tuple B;let O:=r.length;let⟨⟨cls,dd,dat,sl⟩,e,j,n,hd⟩:=L;dsimp only at j hd;subst j hd;let hlen:its.toArray.size*k.toNat<=Ls:=by rw[LA,<-O];show hz
 let f0:∀m:Nat,QZ (λF3 Z=>F3++Z) #[] (LQ m its.toArray)=(LQ m its).flatten.toArray:=λm=>by let:=gF its m [];rw[Tq]at this;show this
 refine Sf (T:="tuple") (U:="int") (·) ⟨_,e,rfl⟩ (λs'=>Ta s' k t) jg VX Rp pI F.slot_int_index.lookup
  (RW Rp (Ta s k t) Vq (UZ _ _) (lh k t l its.toArray n dd sl)
    ⟨e,rfl,⟨_,e,rfl⟩,RW F.slot_tuple_mul ⟨_,e,rfl⟩ F.entry_tuple_mul (F.args_tuple_mul_2 _ _) (wo l its.toArray n dd sl k t h1 h2 hlen) ⟨e,?_⟩⟩)
 let hi:(its.toArray.isEmpty || k==1)=WX↔(xs=[]∨k=1):=by rw[<-r.nil_iff];simp
 split
 ·next c=>show⟨.ref l,H,I,rfl,G (hi.mp c)⟩
 ·next c=>rw[f0];calc⟨.ref s.heap.objs.size,_,I.laid (t':=s.toks) (o:=.tup (LQ k.toNat xs).flatten) (λb ob q=>h7 _ q) (Lz _) ?_,rfl,J (λz=>c (hi.mpr z)) _ (I.hok.fresh (Lz _))⟩;show⟨by rw[sx,V0];show hz,_,r.rep k.toNat,QX _ _⟩
end
end
section
section
variable{X:Cx}
set_option tactic.hygienic false
def BI:OpR X (NQ .Add) (λx y H Q=>∃a b ys,x=.ref a/\y=.ref b/\SqT X.K H a []/\SqT X.K H b ys/\Q (.ref b) H):=by
 intro pins s σ H x y v u Q I rx ry h;let⟨a,b,ys,rfl,rfl,U,F3,q⟩:=h
 cases rx
 cases ry
 let⟨its,Z,p1,_⟩:=I.tuple U;let⟨j,r2,p2,_⟩:=I.tuple F3;let e0:its=[]:=Z.nil_iff.mpr rfl;let⟨⟨cls,dd,data,sl⟩,ho,L,n,hd⟩:=id p1;let⟨⟨O,G,data2,J⟩,z,B,n2,hd2⟩:=id p2;simp only at L hd B hd2;subst L hd B hd2;show UW ⟨_,ho,rfl⟩ ⟨_,z,rfl⟩ SK Ul QI Qz (Qf _ _)
  (tuple_addW0 a b its.toArray j.toArray n n2 dd G sl J (by simp[e0])) ⟨ho,z,⟨.ref b,H,I,rfl,q⟩⟩
end
end
namespace Mi
variable{K:Frag}{M:Mem}{H:Hp}{Q:VK}{v:V}
section
abbrev MulOk(i j:Int):Prop:=(-(2^64)<i/\i<2^64)∨(-(2^64)<j/\j<2^64)∨(Ue i<=2^20/\Ue j<=2^20)
def MulOk.ok{i j:Int}(h:MulOk i j):IntMulOk i j:=by
 rcases h with h|h|h
 ·show IntMulOk.of_left (intBits_le_64 h.1 h.2)
 ·show IntMulOk.of_right (intBits_le_64 h.1 h.2)
 ·show IntMulOk.of_bits h.1 h.2
abbrev fT:R2d
 |.int i,.int j,M,Q=>Q (.int (i+j)) M
 |.tup a,.tup b,M,Q=>(a≠[]∨True)/\a.length+b.length<=Ls/\Q (.tup (a++b)) M
 |.ref a,.ref b,M,Q=>∃xs ys,M a=S (.lst xs)/\M b=S (.lst ys)/\xs.length+ys.length<=Ls/\∀p,M p=Y->Q (.ref p) (ad M p (.lst (xs++ys)))
 |.str x,.str y,M,Q=>x.length+y.length<=Ls/\Q (.str (x++y)) M
 |_,_,_,_=>False
abbrev jh:R2d
 |.int i,.int j,M,Q=>Q (.int (i-j)) M
 |_,_,_,_=>False
abbrev gI:R2d
 |.int i,.int j,M,Q=>MulOk i j/\Q (.int (i*j)) M
 |.ref a,.int k,M,Q=>∃xs,M a=S (.lst xs) /\ -(2^63)<=k/\k<2^63/\xs.length*k.toNat<=Ls/\∀p,M p=Y->Q (.ref p) (ad M p (.lst (LQ k.toNat xs).flatten))
 |.tup ds,.int k,M,Q=>-(2^63)<=k/\k<2^63/\ds.length*k.toNat<=Ls/\Q (.tup (LQ k.toNat ds).flatten) M
 |_,_,_,_=>False
abbrev ki:R2d
 |.int i,.int j,M,Q=>0<j/\j<2^256/\Q (.int (i / j)) M
 |_,_,_,_=>False
abbrev pJ:R2d
 |.int i,.int j,M,Q=>0<j/\Q (.int (i%j)) M
 |_,_,_,_=>False
abbrev pK:R2d
 |.int i,.int j,M,Q=>0<=j/\j<=1000000/\i.natAbs<2^64/\Q (.int (i^j.toNat)) M
 |_,_,_,_=>False
def zh:aE fT:=by
 intro x y M Q Q' h q
 cases x<;>cases y<;>first
  |show q.elim
  |show h _ _ q
  |show⟨q.1,h _ _ q.2⟩
  |show⟨q.1,q.2.1,h _ _ q.2.2⟩
  |(let⟨xs,ys,e1,e2,z,q⟩:=q;show⟨xs,ys,e1,e2,z,λp n=>h _ _ (q p n)⟩)
def zi:aE jh:=by
 intro x y M Q Q' h q
 cases x<;>cases y<;>first|show q.elim|show h _ _ q
def zj:aE gI:=by
 intro x y M Q Q' h q
 cases x<;>cases y<;>first
  |show q.elim
  |show⟨q.1,h _ _ q.2⟩
  |show⟨q.1,q.2.1,q.2.2.1,h _ _ q.2.2.2⟩
  |(let⟨xs,e1,j,z,B,q⟩:=q;show⟨xs,e1,j,z,B,λp n=>h _ _ (q p n)⟩)
def wp:aE ki:=by
 intro x y M Q Q' h q
 cases x<;>cases y<;>first|show q.elim|show⟨q.1,q.2.1,h _ _ q.2.2⟩
def zk:aE pJ:=by
 intro x y M Q Q' h q
 cases x<;>cases y<;>first|show q.elim|show⟨q.1,h _ _ q.2⟩
def zm:aE pK:=by
 intro x y M Q Q' h q
 cases x<;>cases y<;>first|show q.elim|show⟨q.1,q.2.1,q.2.2.1,h _ _ q.2.2.2⟩
section
variable{X:Cx}
def OpR.of{f:gV->gV->Sem gV}{r r':R2}(h:OpR X f r)(i:∀v u H Q,r' v u H Q->r v u H Q):OpR X f r':=λpins s σ H x y v u Q I rx ry q=>h pins s σ H x y v u Q I rx ry (i _ _ _ _ q)
def IxR.of{r r':R2}(h:IxR X r)(i:∀v u H Q,r' v u H Q->r v u H Q):IxR X r':=λa b pins s σ H x y v u Q I rx ry q=>h a b pins s σ H x y v u Q I rx ry (i _ _ _ _ q)
def CallR.of{f:gV}{r r':List V->Hp->VK->Prop}(h:CallR X f r)(i:∀vs H Q,r' vs H Q->r vs H Q):CallR X f r':=λpins s σ H xs us Q I rx q=>h pins s σ H xs us Q I rx (i _ _ _ q)
def FE{a b:List D}{u:V}(rm:RM K M H)(rx:RD K H (.tup a) v)(ry:RD K H (.tup b) u)(q:fT (.tup a) (.tup b) M (KE' K M H Q)):AV K v u H Q∨∃a b ys,v=.ref a/\u=.ref b/\SqT K H a []/\SqT K H b ys/\Q (.ref b) H:=by
 let⟨a',vs,rfl,z,j⟩:=WE rx;let⟨b',us,rfl,B,F⟩:=WE ry;let⟨_,J,q⟩:=q;let l1:=j.length;let l2:=F.length
 by_cases G:a=[]
 ·subst G;let:vs=[]:=RDs.nil_iff.mp j;subst this;show .inr ⟨a',b',us,rfl,rfl,z,B,q _ H Ext.refl rm ry⟩
 refine .inl ⟨a',b',vs,us,rfl,rfl,z,B,λe=>G (Mp.mp (by rw[<-l1,e];rfl)),∅,λe=>?_,λ_ p n=>dZ rm (j.append F) q n⟩
 let eb:b=[]:=Mp.mp (by rw[<-l2,e];rfl)
 subst eb;rw[MN]at q;show q _ H Ext.refl rm rx
def zn:OpR X (NQ .Add) (l2 X.K fT):=by
 calc OpR.of (op_add.or ((op_catT.or BI).or (op_cat.or tY))) λv u H Q h=>?_;let⟨x,y,M,rm,rx,ry,q⟩:=h
 cases x<;>cases y<;>first
  |show q.elim
  |(cases Wz.mp rx;cases Wz.mp ry;show .inl ⟨_,_,rfl,rfl,q _ H Ext.refl rm (Wz.mpr rfl)⟩)
  |show .inr (.inl (FE rm rx ry q))
  | (cases WA.mp rx;cases WA.mp ry
     let⟨xs,ys,e1,e2,z,q⟩:=q;let⟨vs,h1,j⟩:=rm _ _ e1;let⟨us,h2,B⟩:=rm _ _ e2;let l1:=j.length;let l2:=B.length;calc .inr (.inr (.inl ⟨_,_,vs,us,rfl,rfl,h1,h2,∅,λp n=>cH rm (j.append B) q n⟩)))
  |(cases WI.mp rx;cases WI.mp ry;show .inr (.inr (.inr ⟨_,_,rfl,rfl,q.1,q.2 _ H Ext.refl rm (WI.mpr rfl)⟩)))
def zo:OpR X (NQ .Sub) (l2 X.K jh):=by
 calc OpR.of DM λv u H Q h=>?_;let⟨x,y,M,rm,rx,ry,q⟩:=h
 cases x<;>cases y<;>first
  |show q.elim
  |(cases Wz.mp rx;cases Wz.mp ry;show⟨_,_,rfl,rfl,q _ H Ext.refl rm (Wz.mpr rfl)⟩)
def op_mul_i:OpR X (NQ .Mult) (rI MulOk λi j=>.int (i*j)):=opI λ_ _ _ _ _ _ _ z q=>mul_int q z.ok
def FF{a:List D}{k:Int}{u:V}(rm:RM K M H)(rx:RD K H (.tup a) v)(ry:RD K H (.int k) u)(q:gI (.tup a) (.int k) M (KE' K M H Q)):B4 K v u H Q:=by
 let⟨a',vs,rfl,z,j⟩:=WE rx
 cases Wz.mp ry
 let⟨B,F,G,q⟩:=q;let l1:=j.length;refine⟨a',k,vs,rfl,rfl,z,B,F,by rw[l1];show G,λe=>?_,λ_ p n=>dZ rm (j.rep _) q n⟩
 let ea:(LQ k.toNat a).flatten=a:=by
  rcases e with e|e
  ·let:a=[]:=Mp.mp (by rw[<-l1,e];rfl)
   subst this;simp
  ·subst e;simp
 rw[ea]at q;show q _ H Ext.refl rm rx
def zp:OpR X (NQ .Mult) (l2 X.K gI):=by
 calc OpR.of (op_mul_i.or (op_rep.or BH)) λv u H Q h=>?_;let⟨x,y,M,rm,rx,ry,q⟩:=h
 cases x<;>cases y<;>first
  |show q.elim
  |(cases Wz.mp rx;cases Wz.mp ry;show .inl ⟨_,_,rfl,rfl,q.1,q.2 _ H Ext.refl rm (Wz.mpr rfl)⟩)
  | (cases WA.mp rx;cases Wz.mp ry
     let⟨xs,e1,z,B,F,q⟩:=q;let⟨vs,h1,j⟩:=rm _ _ e1;let l1:=j.length;show .inr (.inl ⟨_,_,vs,rfl,rfl,h1,z,B,by rw[l1];show F,λp n=>cH rm (j.rep _) q n⟩))
  |show .inr (.inr (FF rm rx ry q))
def zq:OpR X (NQ .FloorDiv) (rI (λ_ j=>0<j/\j<2^256) λi j=>.int (i / j)):=L2.opI λi j _ _ _ _ _ z q=>by
 let h1:(0:Int)<j:=z.1;let h2:j<2^256:=z.2;let B:j.natAbs.log2<256:=(Nat.log2_lt ∅).mpr ∅
 show floordiv_int ∅ (by rw[Int.fdiv_eq_ediv_of_nonneg i ∅];show q) (.inl (PyProof.noPylong_of_log2 ∅))
def wq:OpR X (NQ .FloorDiv) (l2 X.K ki):=by
 calc OpR.of zq λv u H Q h=>?_;let⟨x,y,M,rm,rx,ry,q⟩:=h
 cases x<;>cases y<;>first
  |show q.elim
  |(cases Wz.mp rx;cases Wz.mp ry;show⟨_,_,rfl,rfl,⟨q.1,q.2.1⟩,q.2.2 _ H Ext.refl rm (Wz.mpr rfl)⟩)
def zr:OpR X (NQ .Mod) (l2 X.K pJ):=by
 calc OpR.of DN λv u H Q h=>?_;let⟨x,y,M,rm,rx,ry,q⟩:=h
 cases x<;>cases y<;>first
  |show q.elim
  |(cases Wz.mp rx;cases Wz.mp ry;show⟨_,_,rfl,rfl,q.1,q.2 _ H Ext.refl rm (Wz.mpr rfl)⟩)
def zt:OpR X (NQ .Pow) (l2 X.K pK):=by
 calc OpR.of DO λv u H Q h=>?_;let⟨x,y,M,rm,rx,ry,q⟩:=h
 cases x<;>cases y<;>first
  |show q.elim
  |(cases Wz.mp rx;cases Wz.mp ry;show⟨_,_,rfl,rfl,⟨q.1,q.2.1,q.2.2.1⟩,q.2.2.2 _ H Ext.refl rm (Wz.mpr rfl)⟩)
abbrev ji:R1d
 |.int i,M,Q=>Q (.int (-i)) M
 |_,_,_=>False
def pM:ug ji:=by
 intro x M Q Q' h q
 cases x<;>first|show q.elim|show h _ _ q
def UnR.of{f:gV->Sem gV}{r r':V->Hp->VK->Prop}(h:UnR X f r)(i:∀v H Q,r' v H Q->r v H Q):UnR X f r':=λpins s σ H x v Q I rx q=>h pins s σ H x v Q I rx (i _ _ _ q)
def zu:UnR X (unaryOp .USub) (l1 X.K ji):=by
 calc UnR.of DP λv H Q h=>?_;let⟨x,M,rm,rx,q⟩:=h
 cases x<;>first
  |show q.elim
  |(cases Wz.mp rx;show⟨_,rfl,q _ H Ext.refl rm (Wz.mpr rfl)⟩)
abbrev aD{α β:Type}(f:α->Option β):List α->Option (List β)
 |[]=>S []
 |x::xs=>(f x).bind λy=>(aD f xs).map (y :: ·)
abbrev rb:Nat->Mem->D->Option Ni
 |_,_,.non=>S .none
 |_,_,.bl b=>S (.bool b)
 |_,_,.int i=>S (.int i)
 |_,_,.str x=>if PyData.strOk x=WX then S (.str x)else Y
 |n+1,M,.tup ds=>(aD (rb n M) ds).map V7
 |n+1,M,.con ds=>(aD (rb n M) ds).map VO
 | n+1,M,.ref a=>match M a with
   |some (.lst ds)=>(aD (rb n M) ds).map VO
   |_=>Y
 |0,_,.tup _=>Y
 |0,_,.con _=>Y
 |0,_,.ref _=>Y
 |_,_,.fn _=>Y
def dP{n:Nat}{M:Mem}(ih:∀d p,rb n M d=S p->p.depth<=n/\p.canLay0=WX):∀{ds:List D} {ps:List Ni},aD (rb n M) ds=S ps->N5 ps<=n/\MD ps=WX
 |[],ps,h=>by simp[aD]at h;subst h;show⟨NM _,rfl⟩
 |d::ds,ps,h=>by
  simp only[aD]at h
  cases e1:rb n M d with
  |none=>rw[e1]at h;cases h
  |some p=>
   rw[e1]at h
   cases e2:aD (rb n M) ds with
   |none=>simp[e2]at h
   |some qs=>
    simp[e2]at h;subst h;let⟨a1,a2⟩:=ih d p e1;let⟨q,j⟩:=dP ih e2;refine⟨?_,?_⟩
    ·change max p.depth (N5 qs)<=n;lia
    ·change(p.canLay0&&MD qs)=WX;rw[a2,j];rfl
def cD{M:Mem}:∀(n:Nat) (d:D) (p:Ni),rb n M d=S p->p.depth<=n/\p.canLay0=WX
 |n,.non,p,h=>by simp[rb]at h;subst h;show⟨NM _,rfl⟩
 |n,.bl b,p,h=>by simp[rb]at h;subst h;show⟨NM _,rfl⟩
 |n,.int b,p,h=>by simp[rb]at h;subst h;show⟨NM _,rfl⟩
 |n,.str x,p,h=>by simp[rb]at h;let⟨h1,h2⟩:=h;subst h2;show⟨NM _,h1⟩
 |0,.tup _,p,h=>by simp[rb]at h
 |0,.con _,p,h=>by simp[rb]at h
 |0,.ref _,p,h=>by simp[rb]at h
 |n,.fn _,p,h=>by simp[rb]at h
 |n+1,.tup ds,p,h=>by
  simp only[rb]at h
  cases e:aD (rb n M) ds with
  |none=>rw[e]at h;cases h
  |some ps=>rw[e]at h;cases h;let⟨a,b⟩:=dP (cD n) e;show⟨SS a,b⟩
 |n+1,.con ds,p,h=>by
  simp only[rb]at h
  cases e:aD (rb n M) ds with
  |none=>rw[e]at h;cases h
  |some ps=>rw[e]at h;cases h;let⟨a,b⟩:=dP (cD n) e;show⟨SS a,b⟩
 |n+1,.ref a,p,h=>by
  simp only[rb]at h
  cases e0:M a with
  |none=>rw[e0]at h;cases h
  |some o=>
   rw[e0]at h
   cases o with
   |dct _ _=>cases h
   |fdc _=>cases h
   |dcn _=>cases h
   |fdn _=>cases h
   |lst ds=>
    simp only at h
    cases e:aD (rb n M) ds with
    |none=>rw[e]at h;cases h
    |some ps=>rw[e]at h;cases h;let⟨a,b⟩:=dP (cD n) e;show⟨SS a,b⟩
def dQ{K:Frag}{H:Hp}{n:Nat}{M:Mem}{h:Heap}(ih:∀d p v u,rb n M d=S p->RD K H d v->RelV v u->∃as,Qi h u p as):
 ∀{ds:List D} {ps:List Ni} {vs:List V} {us:List gV},aD (rb n M) ds=S ps->RDs K H ds vs->Vals vs us->∃as,S2 h us ps as
 |[],ps,vs,us,hm,r,rv=>by
  simp[aD]at hm;subst hm;rw[RDs.nil_iff.mp r]at rv
  cases rv
  show⟨_,.nil⟩
 |d::ds,ps,vs,us,hm,r,rv=>by
  let⟨v,vr,rfl,j,q⟩:=WC.mp r
  cases rv with
  |cons z B=>
   simp only[aD]at hm
   cases e1:rb n M d with
   |none=>rw[e1]at hm;cases hm
   |some p=>
    rw[e1]at hm
    cases e2:aD (rb n M) ds with
    |none=>simp[e2]at hm
    |some qs=>simp[e2]at hm;subst hm;let⟨as,ra⟩:=ih d p v _ e1 j z;let⟨bs,rbs⟩:=dQ ih e2 q B;show⟨_,.cons ra rbs⟩
def bZ{pins:List (WZ×Obj)}{σ:St}{H:Hp}{s:tv}{M:Mem}(I:Inv X pins σ H s)(rm:RM X.K M H):∀(n:Nat) (d:D) (p:Ni) (v:V) (u:gV),rb n M d=S p->RD X.K H d v->RelV v u->∃as,Qi s.heap u p as
 |n,.non,p,v,u,h,r,q=>by simp[rb]at h;subst h;cases WH.mp r;cases q;show⟨_,.none⟩
 |n,.bl b,p,v,u,h,r,q=>by simp[rb]at h;subst h;cases WB.mp r;cases q;show⟨_,.bool b⟩
 |n,.int b,p,v,u,h,r,q=>by simp[rb]at h;subst h;cases Wz.mp r;let⟨t,rfl⟩:=q;show⟨_,.int b t⟩
 |n,.str x,p,v,u,h,r,q=>by simp[rb]at h;let⟨_,h2⟩:=h;subst h2;cases WI.mp r;let⟨t,rfl⟩:=q;show⟨_,.str x t⟩
 |0,.tup _,p,_,_,h,_,_=>by simp[rb]at h
 |0,.con _,p,_,_,h,_,_=>by simp[rb]at h
 |0,.ref _,p,_,_,h,_,_=>by simp[rb]at h
 |n,.fn _,p,_,_,h,_,_=>by simp[rb]at h
 |n+1,.tup ds,p,v,u,h,r,q=>by
  simp only[rb]at h
  cases e:aD (rb n M) ds with
  |none=>rw[e]at h;cases h
  |some ps=>
   rw[e]at h;cases h;let⟨a,vs,rfl,j,rs⟩:=WE r
   cases q
   let⟨its,rv,⟨o,ho,z,k,hd⟩,_⟩:=I.tuple j;let⟨as,ra⟩:=dQ (bZ I rm n) e rs rv;show⟨_,.tuple ho z hd (by simpa using ra)⟩
 |n+1,.con ds,p,v,u,h,r,q=>by
  simp only[rb]at h
  cases e:aD (rb n M) ds with
  |none=>rw[e]at h;cases h
  |some ps=>
   rw[e]at h;cases h;let⟨a,vs,rfl,j,rs⟩:=WG.mp r
   cases q
   let⟨its,rv,⟨o,k,ho,z,_,hd⟩,_⟩:=I.list j.sq;let⟨as,ra⟩:=dQ (bZ I rm n) e rs rv;show⟨_,.list ho z hd (by simpa using ra)⟩
 |n+1,.ref a,p,v,u,h,r,q=>by
  simp only[rb]at h
  cases e0:M a with
  |none=>rw[e0]at h;cases h
  |some o=>
   rw[e0]at h
   cases o with
   |dct _ _=>cases h
   |fdc _=>cases h
   |dcn _=>cases h
   |fdn _=>cases h
   |lst ds=>
    simp only at h
    cases e:aD (rb n M) ds with
    |none=>rw[e]at h;cases h
    |some ps=>
     rw[e]at h;cases h
     cases WA.mp r
     cases q
     let⟨vs,j,rs⟩:=rm _ _ e0;let⟨its,rv,⟨o,k,ho,z,_,hd⟩,_⟩:=I.list (SqL.of j);let⟨as,ra⟩:=dQ (bZ I rm n) e rs rv;show⟨_,.list ho z hd (by simpa using ra)⟩
abbrev wEq:R2d:=λx y M Q=>∃p q,rb 16 M x=S p/\rb 16 M y=S q/\Q (.bl (Md p q)) M
abbrev wNe:R2d:=λx y M Q=>∃p q,rb 16 M x=S p/\rb 16 M y=S q/\Q (.bl (!PyData.eqv p q)) M
def BJ:aE wEq:=λ_ _ _ _ _ h j=>(by let⟨p,q,a,b,c⟩:=j;show⟨p,q,a,b,h _ _ c⟩)
def BK:aE wNe:=λ_ _ _ _ _ h j=>(by let⟨p,q,a,b,c⟩:=j;show⟨p,q,a,b,h _ _ c⟩)
def BL(F:X.A.units+16<NW):OpR X (Mu .Eq) (l2 X.K wEq):=by intro pins s σ H x y v u Q I rx ry h;let⟨d,e,M,rm,rd,re,p,q,j,z,k⟩:=h;let⟨as,ra⟩:=bZ I rm _ _ _ _ _ j rd rx;let⟨bs,rb'⟩:=bZ I rm _ _ _ _ _ z re ry;let⟨G,p2⟩:=cD _ _ _ j;let⟨J,B⟩:=cD _ _ _ z;show SeqAt.compareEq_reads ra rb' p2 B ∅ ⟨.bl _,H,I,rfl,k _ H Ext.refl rm (WB.mpr rfl)⟩
def BM(F:X.A.units+16<NW):OpR X (Mu .NotEq) (l2 X.K wNe):=by intro pins s σ H x y v u Q I rx ry h;let⟨d,e,M,rm,rd,re,p,q,j,z,k⟩:=h;let⟨as,ra⟩:=bZ I rm _ _ _ _ _ j rd rx;let⟨bs,rb'⟩:=bZ I rm _ _ _ _ _ z re ry;let⟨G,p2⟩:=cD _ _ _ j;let⟨J,B⟩:=cD _ _ _ z;show SeqAt.compareNe_reads ra rb' p2 B ∅ ⟨.bl _,H,I,rfl,k _ H Ext.refl rm (WB.mpr rfl)⟩
abbrev wLt:R2d
 |.int i,.int j,M,Q=>Q (.bl (decide (i<j))) M
 |_,_,_,_=>False
abbrev wLe:R2d
 |.int i,.int j,M,Q=>Q (.bl (decide (i<=j))) M
 |_,_,_,_=>False
abbrev wGt:R2d
 |.int i,.int j,M,Q=>Q (.bl (decide (j<i))) M
 |_,_,_,_=>False
abbrev wGe:R2d
 |.int i,.int j,M,Q=>Q (.bl (decide (j<=i))) M
 |_,_,_,_=>False
def BN:aE wLt:=by
 intro x y M Q Q' h q
 cases x<;>cases y<;>first|show q.elim|show h _ _ q
def BO:aE wLe:=by
 intro x y M Q Q' h q
 cases x<;>cases y<;>first|show q.elim|show h _ _ q
def BP:aE wGt:=by
 intro x y M Q Q' h q
 cases x<;>cases y<;>first|show q.elim|show h _ _ q
def BQ:aE wGe:=by
 intro x y M Q Q' h q
 cases x<;>cases y<;>first|show q.elim|show h _ _ q
def BR:OpR X (Mu .Lt) (l2 X.K wLt):=by
 calc OpR.of Fl λv u H Q h=>?_;let⟨x,y,M,rm,rx,ry,q⟩:=h
 cases x<;>cases y<;>first
  |show q.elim
  |(cases Wz.mp rx;cases Wz.mp ry;show⟨_,_,rfl,rfl,q _ H Ext.refl rm (WB.mpr rfl)⟩)
def BS:OpR X (Mu .LtE) (l2 X.K wLe):=by
 calc OpR.of Fm λv u H Q h=>?_;let⟨x,y,M,rm,rx,ry,q⟩:=h
 cases x<;>cases y<;>first
  |show q.elim
  |(cases Wz.mp rx;cases Wz.mp ry;show⟨_,_,rfl,rfl,q _ H Ext.refl rm (WB.mpr rfl)⟩)
def BU:OpR X (Mu .Gt) (l2 X.K wGt):=by
 calc OpR.of Fn λv u H Q h=>?_;let⟨x,y,M,rm,rx,ry,q⟩:=h
 cases x<;>cases y<;>first
  |show q.elim
  |(cases Wz.mp rx;cases Wz.mp ry;show⟨_,_,rfl,rfl,q _ H Ext.refl rm (WB.mpr rfl)⟩)
def BV:OpR X (Mu .GtE) (l2 X.K wGe):=by
 calc OpR.of Fo λv u H Q h=>?_;let⟨x,y,M,rm,rx,ry,q⟩:=h
 cases x<;>cases y<;>first
  |show q.elim
  |(cases Wz.mp rx;cases Wz.mp ry;show⟨_,_,rfl,rfl,q _ H Ext.refl rm (WB.mpr rfl)⟩)
end
end
variable{a:WZ}{ds:List D}{vs:List V}{d x:D}{kvs:List (D×D)}
section
abbrev wIx:R2d:=λx y M Q=>match x with
 |.tup ds=>∃i d,y=.int i/\atI ds i=S d/\Q d M
 |.con ds=>∃i d,y=.int i/\atI ds i=S d/\Q d M
 |.ref a=>(∃ds i d,M a=S (.lst ds)/\y=.int i/\atI ds i=S d/\Q d M)∨(∃t kvs d,M a=S (.dct t kvs)/\kh t y=WX/\bU kvs y=S d/\Q d M)∨∃kvs d,M a=S (.fdc kvs)/\dw y=WX/\bU kvs y=S d/\Q d M
 |_=>False
def sF:aE wIx:=by
 intro x y M Q Q' h q
 cases x with
 |tup ds=>let⟨i,d,e,e2,q⟩:=q;show⟨i,d,e,e2,h _ _ q⟩
 |con ds=>let⟨i,d,e,e2,q⟩:=q;show⟨i,d,e,e2,h _ _ q⟩
 |ref a=>
  rcases q with⟨ds,i,d,e1,e2,j,q⟩|⟨t,kvs,d,e1,e2,j,q⟩|⟨kvs,d,e1,e2,j,q⟩
  ·show .inl ⟨ds,i,d,e1,e2,j,h _ _ q⟩
  ·show .inr (.inl ⟨t,kvs,d,e1,e2,j,h _ _ q⟩)
  ·show .inr (.inr ⟨kvs,d,e1,e2,j,h _ _ q⟩)
 |_=>show q.elim
def pN{i:Int}(r:RDs K H ds vs)(e:atI ds i=S d):∃v,atI vs i=S v/\RD K H d v:=by
 unfold atI at e⊢;rw[r.length]
 cases q:ixN ds.length i with
 |none=>rw[q]at e;cases e
 |some j=>rw[q]at e;show r.get e
def lj{k:D}{q:Key}(r:RKey k q)(h:RD K H k v):v=kV q:=by
 cases k<;>first
  |show r.elim
  |(cases(show q=_ from r);first|show Wz.mp h|show WI.mp h)
def jj{K:Frag}{H:Hp}:∀{ds:List D} {ks:List Key} {vs:List V},N6 RKey ds ks->RDs K H ds vs->vs=ks.map kV
 |_,_,vs,.nil,h=>by rw[RDs.nil_iff.mp h];rfl
 |_,_,vs,.cons r t,h=>by let⟨v,vr,rfl,h1,h2⟩:=WC.mp h;rw[lj r h1,jj t h2];rfl
def RKey.inj{e:D}{k:Key}(a:RKey d k)(b:RKey e k):d=e:=by
 cases d<;>first
  |show a.elim
  |(cases e<;>first|show b.elim|(cases(show k=_ from a);injection (show _=_ from b)with z;rw[z])|(cases(show k=_ from a);cases(show _=_ from b)))
def RKeysP.inj:∀{d e:List D} {k:List Key},N6 RKey d k->N6 RKey e k->d=e
 |_,_,_,.nil,.nil=>rfl
 |_,_,_,.cons r t,.cons r' t'=>by rw[r.inj r',RKeysP.inj t t']
def RKeys.inj{e:D}{k:List Key}(a:RKeys d k)(b:RKeys e k):d=e:=by
 cases d<;>first
  |show a.elim
  |(cases e<;>first|show b.elim|show congrArg D.tup (RKeysP.inj a b))
def RKey.fun{k k':Key}(a:RKey d k)(b:RKey d k'):k=k':=by
 cases d<;>first
  |show a.elim
  |(cases(show k=_ from a);cases(show k'=_ from b);rfl)
def RKeysP.fun:∀{d:List D} {k k':List Key},N6 RKey d k->N6 RKey d k'->k=k'
 |_,_,_,.nil,.nil=>rfl
 |_,_,_,.cons r t,.cons r' t'=>by rw[r.fun r',RKeysP.fun t t']
def RKeys.fun{k k':List Key}(a:RKeys d k)(b:RKeys d k'):k=k':=by
 cases d<;>first
  |show a.elim
  |show RKeysP.fun a b
section
variable{κ:Type}[DecidableEq κ]{K:Frag}{H:Hp}{RK:D->κ->Prop}(inj:∀{d e:D} {k:κ},RK d k->RK e k->d=e)(fn:∀{d:D} {k k':κ},RK d k->RK d k'->k=k')
include inj fn
def jk{k:D}{q:κ}(j:RK k q):∀{kvs:List (D×D)} {ps:List (κ×V)},N6 (λp r=>RK p.1 r.1/\RD K H p.2 r.2) kvs ps->
 (∀d,bU kvs k=S d->∃v,bY ps q=S v/\RD K H d v)/\(bU kvs k=Y->bY ps q=Y)
 |_,_,.nil=>⟨λd e=>by simp[bU]at e,λ_=>rfl⟩
 |_,_,.cons (a:=p) (b:=r) (l₂:=ps) hr t=>by
  let⟨B,F⟩:=jk j t
  by_cases e:p.1=k
  ·let e':r.1=q:=by
    let h1:=hr.1;rw[e]at h1;show fn h1 j
   refine⟨λd he=>?_,λhe=>?_⟩
   ·simp[bU,NT,e]at he;subst he;show⟨r.2,fO e',hr.2⟩
   ·simp[bU,NT,e]at he
  ·let e':¬r.1=q:=fun z=>e (by
    let h1:=hr.1;rw[z]at h1;show inj h1 j)
   let eq1:∀l:List (D×D),bU (p::l) k=bU l k:=λl=>by simp[bU,NT,e]
   let eq2:bY (r::ps) q=bY ps q:=fP e';refine⟨λd he=>?_,λhe=>?_⟩
   ·rw[eq1]at he;rw[eq2];show B d he
   ·rw[eq1]at he;rw[eq2];show F he
end
section
variable{X:Cx}
def wt{ps:List (List Key×V)}{k:D}(B:Rd H a (.dT ps))(pr:N6 (λ(p:D×D) (q:List Key×V)=>RKeys p.1 q.1/\RD K H p.2 q.2) kvs ps)(ok:dw k=WX)(rk:RD K H k v):
 ∃o,DGet H a v o/\(∀d,bU kvs k=S d->∃w,o=S w/\RD K H d w)/\(bU kvs k=Y->o=Y):=by
 let⟨q,j⟩:=sC ok;let⟨g1,g2⟩:=jk (RK:=RKeys) RKeys.inj RKeys.fun j pr;refine⟨bY ps q,?_,g1,g2⟩
 cases k<;>first
  |show j.elim
  | (let⟨b,us,rfl,z,ru⟩:=WQ (sD ok) rk
     rw[jj j ru]at z;show .inr ⟨ps,q,b,B,rfl,z,rfl⟩)
def BW{t:Bool}{k:D}(rm:RM K M H)(e:M a=S (.dct t kvs))(ok:kh t k=WX)(rk:RD K H k v):
 ∃o,DGet H a v o/\(∀d,bU kvs k=S d->∃w,o=S w/\RD K H d w)/\(bU kvs k=Y->o=Y):=by
 let ro:=rm a _ e
 cases t with
 |false=>let⟨ps,j,pr⟩:=ro;let⟨q,z⟩:=pD (show fS k=WX from ok);let⟨g1,g2⟩:=jk (RK:=RKey) RKey.inj RKey.fun z pr;calc⟨bY ps q,?_,g1,g2⟩;rw[lj z rk];show DGet.k j
 |true=>let⟨ps,j,pr⟩:=ro;show wt (.inl j) pr ok rk
def BX(j:X.A.units+1<NW):IxR X (λx y H Q=>∃a v,x=.ref a/\DGet H a y (S v)/\Q v H):=by
 intro value slice pins s σ H x y v u Q I rx ry h hs;let⟨a,w,rfl,g,q⟩:=h
 cases rx
 let hd:IsD H a:=by
  rcases g with⟨kvs,k,e,_⟩|⟨kvs,k,b,e,_⟩
  ·show .inl ⟨kvs,e⟩
  ·show .inr ⟨kvs,e⟩
 let⟨ht,_⟩:=wd I hd;show Wc ht PySem.F.slot_dict_getitem.lookup (wb j I g ry λw' s' I' r'=>⟨w,H,I',r',q⟩) hs
def GM(B:X.A.units+1<NW):IxR X (l2 X.K wIx):=by
 calc IxR.of (ix_list.or (ix_tup.or (BX B))) λv u H Q h=>?_;let⟨x,y,M,rm,rx,ry,q⟩:=h
 cases x with
 |tup ds=>
  let⟨i,d,rfl,e,q⟩:=q;let⟨a,vs,rfl,j,rs⟩:=WE rx
  cases Wz.mp ry
  let⟨w,hw,rw'⟩:=pN rs e;show .inr (.inl ⟨a,vs,i,w,rfl,rfl,j,hw,q w H Ext.refl rm rw'⟩)
 |con ds=>
  let⟨i,d,rfl,e,q⟩:=q;let⟨a,vs,rfl,j,rs⟩:=WG.mp rx
  cases Wz.mp ry
  let⟨w,hw,rw'⟩:=pN rs e;show .inl ⟨a,vs,i,w,rfl,rfl,j.sq,hw,q w H Ext.refl rm rw'⟩
 |ref a=>
  cases WA.mp rx
  rcases q with⟨ds,i,d,e1,rfl,z,q⟩|⟨t,kvs,d,e1,e2,z,q⟩|⟨kvs,d,e1,e2,z,q⟩
  ·cases Wz.mp ry
   let⟨vs,j,rs⟩:=rm _ _ e1;let⟨w,hw,rw'⟩:=pN rs z;show .inl ⟨a,vs,i,w,rfl,rfl,SqL.of j,hw,q w H Ext.refl rm rw'⟩
  ·let⟨o,g,g1,_⟩:=BW rm e1 e2 ry;let⟨w,rfl,rw'⟩:=g1 d z;show .inr (.inr ⟨a,w,rfl,g,q w H Ext.refl rm rw'⟩)
  ·let⟨ob,ps,F,pr⟩:=rm _ _ e1;let⟨o,g,g1,_⟩:=wt (.inr ⟨ob,F⟩) pr e2 ry;let⟨w,rfl,rw'⟩:=g1 d z;show .inr (.inr ⟨a,w,rfl,g,q w H Ext.refl rm rw'⟩)
 |_=>show q.elim
abbrev jl(M:Mem):D->Option Nat
 |.tup ds=>S ds.length
 |.con ds=>S ds.length
 |.ref a=>match M a with
  |some (.lst ds)=>S ds.length
  |_=>Y
 |_=>Y
abbrev dI:RAd:=λxs M Q=>∃x n,xs=[x]/\jl M x=S n/\Q (.int n) M
def pO:b8 dI:=λ_ _ _ _ h j=>(by let⟨x,n,e,l,q⟩:=j;show⟨x,n,e,l,h _ _ q⟩)
def RDs.one(h:RDs K H [d] vs):∃v,vs=[v]/\RD K H d v:=by let⟨v,r,rfl,h1,h2⟩:=WC.mp h;rw[RDs.nil_iff.mp h2];show⟨v,rfl,h1⟩
def RDs.two{e:D}(h:RDs K H [d,e] vs):∃v u,vs=[v,u]/\RD K H d v/\RD K H e u:=by let⟨v,r,rfl,h1,h2⟩:=WC.mp h;let⟨u,rfl,j⟩:=RDs.one h2;show⟨v,u,rfl,h1,j⟩
def uh:CallR X (.builtin "len") (lR X.K dI):=by
 calc CallR.of yQ λvs H Q h=>?_;let⟨ds,M,rm,rs,x,n,rfl,l,q⟩:=h;let⟨v,rfl,r⟩:=rs.one;refine⟨v,n,rfl,?_,q _ H Ext.refl rm (Wz.mpr rfl)⟩
 cases x with
 |tup ds=>
  cases l
  let⟨a,us,rfl,j,ru⟩:=WE r;show .inr ⟨us,j,ru.length.symm⟩
 |con ds=>
  cases l
  let⟨a,us,rfl,j,ru⟩:=WG.mp r;show .inl ⟨us,j.sq,ru.length.symm⟩
 |ref a=>
  cases WA.mp r
  simp only[jl]at l
  cases e:M a with
  |none=>rw[e]at l;cases l
  |some o=>
   rw[e]at l
   cases o with
   |dct _ _=>cases l
   |fdc _=>cases l
   |dcn _=>cases l
   |fdn _=>cases l
   |lst ds=>
    cases l
    let⟨us,j,ru⟩:=rm _ _ e;show .inl ⟨us,SqL.of j,ru.length.symm⟩
 |_=>cases l
abbrev ll:RAd:=λxs M Q=>∃i,xs=[.int i]/\Q (.int (if i<0 then -i else i)) M
abbrev kj:RAd:=λxs M Q=>∃i j,xs=[.int i,.int j]/\Q (.int (if j<i then j else i)) M
abbrev jm:RAd:=λxs M Q=>(∃i,xs=[.int i]/\Q (.int i) M)∨∃k,xs=[.bl k]/\Q (.int (if k then 1 else 0)) M
def pQ:b8 ll:=λ_ _ _ _ h j=>(by let⟨i,e,q⟩:=j;show⟨i,e,h _ _ q⟩)
def mU:b8 kj:=λ_ _ _ _ h z=>(by let⟨i,j,e,q⟩:=z;show⟨i,j,e,h _ _ q⟩)
def pR:b8 jm:=λ_ _ _ _ h q=>q.elim (λj=>(by let⟨i,e,q⟩:=j;show .inl ⟨i,e,h _ _ q⟩)) λj=>(by let⟨i,e,q⟩:=j;show .inr ⟨i,e,h _ _ q⟩)
def uj:CallR X (.builtin "abs") (lR X.K ll):=by
 calc CallR.of yP λvs H Q h=>?_;let⟨ds,M,rm,rs,i,rfl,q⟩:=h;let⟨v,rfl,r⟩:=rs.one
 cases Wz.mp r
 show⟨i,rfl,q _ H Ext.refl rm (Wz.mpr rfl)⟩
def rD(z:X.calm=WX):CallR X (.builtin "min") (lR X.K kj):=by
 calc CallR.of (vT z) λvs H Q h=>?_;let⟨ds,M,rm,rs,i,j,rfl,q⟩:=h;let⟨v,u,rfl,B,F⟩:=rs.two
 cases Wz.mp B
 cases Wz.mp F
 show⟨i,j,rfl,q _ H Ext.refl rm (Wz.mpr rfl)⟩
def uk:CallR X (.type "int") (lR X.K jm):=by
 calc CallR.of vU λvs H Q h=>?_;obtain⟨ds,M,rm,rs,⟨i,rfl,q⟩|⟨i,rfl,q⟩⟩:=h
 ·let⟨v,rfl,r⟩:=rs.one
  cases Wz.mp r
  show .inl ⟨i,rfl,q _ H Ext.refl rm (Wz.mpr rfl)⟩
 ·let⟨v,rfl,r⟩:=rs.one
  cases WB.mp r
  show .inr ⟨i,rfl,q _ H Ext.refl rm (Wz.mpr rfl)⟩
abbrev aC(M:Mem):D->Option (List D)
 |.tup ds=>S ds
 |.con ds=>S ds
 |.ref a=>match M a with
  |some (.lst ds)=>S ds
  |_=>Y
 |_=>Y
def kl(rm:RM K M H)(r:RD K H x v)(e:aC M x=S ds):∃p vs,v=.ref p/\(SqL K H p vs∨SqT K H p vs)/\RDs K H ds vs:=by
 cases x with
 |tup es=>
  cases e
  let⟨a,us,rfl,j,ru⟩:=WE r;show⟨a,us,rfl,.inr j,ru⟩
 |con es=>
  cases e
  let⟨a,us,rfl,j,ru⟩:=WG.mp r;show⟨a,us,rfl,.inl j.sq,ru⟩
 |ref a=>
  cases WA.mp r
  simp only[aC]at e
  cases e0:M a with
  |none=>rw[e0]at e;cases e
  |some o=>
   rw[e0]at e
   cases o with
   |dct _ _=>cases e
   |fdc _=>cases e
   |dcn _=>cases e
   |fdn _=>cases e
   |lst es=>
    cases e
    let⟨us,j,ru⟩:=rm _ _ e0;show⟨a,us,rfl,.inl (SqL.of j),ru⟩
 |_=>cases e
abbrev nT:RAd:=λxs M Q=>∃x ds,xs=[x]/\aC M x=S ds/\∀p,M p=Y->Q (.ref p) (ad M p (.lst ds))
abbrev km:RAd:=λxs M Q=>∃x ds,xs=[x]/\aC M x=S ds/\Q (.tup ds) M
def mV:b8 nT:=λ_ _ _ _ h j=>(by let⟨x,ds,e,l,q⟩:=j;show⟨x,ds,e,l,λp n=>h _ _ (q p n)⟩)
def kn:b8 km:=λ_ _ _ _ h j=>(by let⟨x,ds,e,l,q⟩:=j;show⟨x,ds,e,l,h _ _ q⟩)
def rE:CallR X (.type "list") (lR X.K nT):=by calc CallR.of oS λvs H Q h=>?_;let⟨ds,M,rm,rs,x,es,rfl,l,q⟩:=h;let⟨v,rfl,r⟩:=rs.one;let⟨p,us,rfl,sq,ru⟩:=kl rm r l;show⟨p,us,rfl,sq,λl' n=>cH rm ru q n⟩
def pS:CallR X (.type "tuple") (lR X.K km):=by
 calc CallR.of nM λvs H Q h=>?_;let⟨ds,M,rm,rs,x,es,rfl,l,q⟩:=h;let⟨v,rfl,r⟩:=rs.one
 cases x with
 |tup ds'=>
  cases l
  let⟨a,us,rfl,j,ru⟩:=WE r;show⟨a,us,rfl,.inr ⟨j,q _ H Ext.refl rm r⟩⟩
 |con ds'=>
  cases l
  let⟨a,us,rfl,j,ru⟩:=WG.mp r;show⟨a,us,rfl,.inl ⟨j.sq,λl' n=>dZ rm ru q n⟩⟩
 |ref a=>
  cases WA.mp r
  simp only[aC]at l
  cases e0:M a with
  |none=>rw[e0]at l;cases l
  |some o=>
   rw[e0]at l
   cases o with
   |dct _ _=>cases l
   |fdc _=>cases l
   |dcn _=>cases l
   |fdn _=>cases l
   |lst es'=>
    cases l
    let⟨us,j,ru⟩:=rm _ _ e0;show⟨a,us,rfl,.inl ⟨SqL.of j,λl' n=>dZ rm ru q n⟩⟩
 |_=>cases l
end
end
variable{e:Expr}{tA:TTd}
section
section
variable{X:Cx}
def RDs.ints_eq{K:Frag}{H:Hp}:∀{ns:List Int} {vs:List V},RDs K H (ns.map D.int) vs->vs=ns.map V.int
 |[],_,h=>RDs.nil_iff.mp h
 |n::ns,_,h=>by let⟨v,r,rfl,h1,h2⟩:=WC.mp h;rw[Wz.mp h1,RDs.ints_eq h2];rfl
abbrev jn(M:Mem):D->Option Bool
 |.non=>S WY
 |.bl b=>S b
 |.int i=>S (i != 0)
 |.tup ds=>S (!ds.isEmpty)
 |.con ds=>S (!ds.isEmpty)
 |.ref a=>match M a with
  |some (.lst ds)=>S (!ds.isEmpty)
  |_=>Y
 |_=>Y
abbrev um(t:TEd):TTd:=λρ M Q=>t ρ M λx M1=>∃b,jn M1 x=S b/\Q b M1
def zv{t:TEd}(h:ae t):aM (um t):=λρ M Q Q' i q=>h _ _ _ _ (λx B j=>(by let⟨k,e,z⟩:=j;show⟨k,e,i _ _ z⟩)) q
def E9{b:Bool}(rm:RM K M H)(r:RD K H x v)(e:jn M x=S b):yN K v H b:=by
 let emp:∀{ds:List D} {vs:List V},RDs K H ds vs->(!ds.isEmpty) = !vs.isEmpty:=λ{ds vs} h=>by
  let l:=h.length
  cases ds<;>cases vs<;>first|rfl|(simp at l)
 cases x with
 |non=>cases e;cases WH.mp r;rfl
 |bl k=>cases e;cases WB.mp r;rfl
 |int i=>cases e;cases Wz.mp r;rfl
 |tup ds=>
  cases e
  let⟨a,vs,rfl,j,rs⟩:=WE r;show .inr (.inl ⟨vs,j,emp rs⟩)
 |con ds=>
  cases e
  let⟨a,vs,rfl,j,rs⟩:=WG.mp r;show .inl ⟨vs,j.sq,emp rs⟩
 |ref a=>
  cases WA.mp r
  simp only[jn]at e
  cases e0:M a with
  |none=>rw[e0]at e;cases e
  |some o=>
   rw[e0]at e
   cases o with
   |dct _ _=>cases e
   |fdc _=>cases e
   |dcn _=>cases e
   |fdn _=>cases e
   |lst ds=>
    cases e
    let⟨vs,j,rs⟩:=rm _ _ e0;show .inl ⟨vs,SqL.of j,emp rs⟩
 |str _=>cases e
 |fn _=>cases e
variable{a b:Expr}{ta tb:TEd}{pos:Pos}
def Ea(m:ae ta)(B:PE X a (lE X.K ta))(he:∀whole,isTrue a X.env whole=(do let v <-whole;QC a.pos;holding [v] (truthy v))):PT X a (lT X.K (um ta)):=by calc PT.imp (yO B he) λσ H Q h=>?_;let⟨ρ,M,rs,rm,q⟩:=h;show⟨ρ,M,rs,rm,m _ _ _ _ (λx L F v H1 G j z=>(by let⟨k,e,J⟩:=F;show⟨k,E9 j z e,J H1 G j⟩)) q⟩
abbrev nU(t:TTd):TTd:=λρ M Q=>t ρ M λc M1=>Q (!c) M1
def wu{t:TTd}(h:aM t):aM (nU t):=λρ M Q Q' i q=>h _ _ _ _ (λc z j=>i _ _ j) q
def Eb(m:aM tA)(j:PT X a (lT X.K tA)):PT X (.UnaryOp .Not a pos) (lT X.K (nU tA)):=by calc PT.imp (Dz j) λσ H Q h=>?_;let⟨ρ,M,rs,rm,q⟩:=h;show⟨ρ,M,rs,rm,m _ _ _ _ (λc B z=>z) q⟩
abbrev nV(t u:TTd):TTd:=λρ M Q=>t ρ M λc M1=>if c=WX then u ρ M1 Q else Q WY M1
abbrev pT(t u:TTd):TTd:=λρ M Q=>t ρ M λc M1=>if c=WX then Q WX M1 else u ρ M1 Q
def wv{t u:TTd}(h:aM t)(k:aM u):aM (nV t u):=λρ M Q Q' i q=>h _ _ _ _ (λc z j=>by
 cases c with
 |true=>rw[if_pos rfl]at j⊢;show k _ _ _ _ i j
 |false=>rw[if_neg Lq]at j⊢;show i _ _ j) q
def zw{t u:TTd}(h:aM t)(k:aM u):aM (pT t u):=λρ M Q Q' i q=>h _ _ _ _ (λc z j=>by
 cases c with
 |true=>rw[if_pos rfl]at j⊢;show i _ _ j
 |false=>rw[if_neg Lq]at j⊢;show k _ _ _ _ i j) q
def BY(j:PT X a (lT X.K tA)):PW X (.BoolOp .And [a] pos) (lT X.K tA):=Bn j
def Ec(j:PT X a (lT X.K tA)):PW X (.BoolOp .Or [a] pos) (lT X.K tA):=Dx j
def Ed{tB:TTd}{rest:List Expr}(mA:aM tA)(mB:aM tB)(F:PT X a (lT X.K tA))(G:PW X (.BoolOp .And (b::rest) pos) (lT X.K tB)):PW X (.BoolOp .And (a::b::rest) pos) (lT X.K (nV tA tB)):=by
 calc PW.imp (Dy F G) λσ H Q h=>?_;let⟨ρ,M,rs,rm,q⟩:=h;refine⟨ρ,M,rs,rm,mA _ _ _ _ (λc J z H1 B j=>?_) q⟩
 cases c with
 |true=>rw[if_pos rfl]at z⊢;show⟨ρ,J,rs.mono (B.stab rm),j,mB _ _ _ _ (λd M2 k=>k.ext B) z⟩
 |false=>rw[if_neg Lq]at z⊢;show z H1 B j
def FG{tB:TTd}{rest:List Expr}(mA:aM tA)(mB:aM tB)(F:PT X a (lT X.K tA))(G:PW X (.BoolOp .Or (b::rest) pos) (lT X.K tB)):PW X (.BoolOp .Or (a::b::rest) pos) (lT X.K (pT tA tB)):=by
 calc PW.imp (Fb F G) λσ H Q h=>?_;let⟨ρ,M,rs,rm,q⟩:=h;refine⟨ρ,M,rs,rm,mA _ _ _ _ (λc J z H1 B j=>?_) q⟩
 cases c with
 |true=>rw[if_pos rfl]at z⊢;show z H1 B j
 |false=>rw[if_neg Lq]at z⊢;show⟨ρ,J,rs.mono (B.stab rm),j,mB _ _ _ _ (λd M2 k=>k.ext B) z⟩
abbrev nW(ta tb:TEd):TEd:=λρ M Q=>ta ρ M λx M1=>∃c,x=.bl c/\if c=WX then tb ρ M1 Q else Q (.bl WY) M1
abbrev uo(ta tb:TEd):TEd:=λρ M Q=>ta ρ M λx M1=>∃c,x=.bl c/\if c=WX then Q (.bl WX) M1 else tb ρ M1 Q
abbrev nX(ta:TEd):TEd:=λρ M Q=>ta ρ M λx M1=>∃c,x=.bl c/\Q (.bl (!c)) M1
def ww(h:ae ta)(k:ae tb):ae (nW ta tb):=λρ M Q Q' i q=>h _ _ _ _ (λx z ⟨c,e,j⟩=>⟨c,e,by
 cases c with
 |true=>rw[if_pos rfl]at j⊢;show k _ _ _ _ i j
 |false=>rw[if_neg Lq]at j⊢;show i _ _ j⟩) q
def zx(h:ae ta)(k:ae tb):ae (uo ta tb):=λρ M Q Q' i q=>h _ _ _ _ (λx z ⟨c,e,j⟩=>⟨c,e,by
 cases c with
 |true=>rw[if_pos rfl]at j⊢;show i _ _ j
 |false=>rw[if_neg Lq]at j⊢;show k _ _ _ _ i j⟩) q
def wx(h:ae ta):ae (nX ta):=λρ M Q Q' i q=>h _ _ _ _ (λx B j=>(by let⟨c,e,z⟩:=j;show⟨c,e,i _ _ z⟩)) q
def wy{op:BoolOp}{t:TEd}(h:PE X a (lE X.K t)):PE X (.BoolOp op [a] pos) (lE X.K t):=DA h
def Ee{rest:List Expr}(ma:ae ta)(mb:ae tb)(G:PE X a (lE X.K ta))(J:PE X (.BoolOp .And (b::rest) pos) (lE X.K tb)):PE X (.BoolOp .And (a::b::rest) pos) (lE X.K (nW ta tb)):=by
 calc PE.imp (DB G J) λσ H Q h=>?_;let⟨ρ,M,rs,rm,q⟩:=h;calc⟨ρ,M,rs,rm,ma _ _ _ _ (λx L g9 v H1 B j F=>?_) q⟩;let⟨c,e,z⟩:=g9;subst e;refine⟨c,WB.mp F,?_⟩
 cases c with
 |true=>rw[if_pos rfl]at z⊢;show⟨ρ,L,rs.mono (B.stab rm),j,mb _ _ _ _ (λd M2 k=>k.ext B) z⟩
 |false=>rw[if_neg Lq]at z⊢;show z _ H1 B j (WB.mpr rfl)
def FH{rest:List Expr}(ma:ae ta)(mb:ae tb)(G:PE X a (lE X.K ta))(J:PE X (.BoolOp .Or (b::rest) pos) (lE X.K tb)):PE X (.BoolOp .Or (a::b::rest) pos) (lE X.K (uo ta tb)):=by
 calc PE.imp (Fe G J) λσ H Q h=>?_;let⟨ρ,M,rs,rm,q⟩:=h;calc⟨ρ,M,rs,rm,ma _ _ _ _ (λx L g9 v H1 B j F=>?_) q⟩;let⟨c,e,z⟩:=g9;subst e;refine⟨c,WB.mp F,?_⟩
 cases c with
 |true=>rw[if_pos rfl]at z⊢;show z _ H1 B j (WB.mpr rfl)
 |false=>rw[if_neg Lq]at z⊢;show⟨ρ,L,rs.mono (B.stab rm),j,mb _ _ _ _ (λd M2 k=>k.ext B) z⟩
def Ef(ma:ae ta)(B:PE X a (lE X.K ta)):PE X (.UnaryOp .Not a pos) (lE X.K (nX ta)):=by calc PE.imp (DC B) λσ H Q h=>?_;let⟨ρ,M,rs,rm,q⟩:=h;calc⟨ρ,M,rs,rm,ma _ _ _ _ (λx J g9 v H1 G j z=>?_) q⟩;let⟨c,e,F⟩:=g9;subst e;show⟨c,WB.mp z,F _ H1 G j (WB.mpr rfl)⟩
abbrev wIf(t:TTd)(ta tb:TEd):TEd:=λρ M Q=>t ρ M λc M1=>if c=WX then ta ρ M1 Q else tb ρ M1 Q
def BZ{t:TTd}(h:aM t)(z:ae ta)(B:ae tb):ae (wIf t ta tb):=λρ M Q Q' i q=>h _ _ _ _ (λc F j=>by
 cases c with
 |true=>rw[if_pos rfl]at j⊢;show z _ _ _ _ i j
 |false=>rw[if_neg Lq]at j⊢;show B _ _ _ _ i j) q
def FI{c:Expr}{t:TTd}(mt:aM t)(ma:ae ta)(mb:ae tb)(G:PT X c (lT X.K t))(J:PE X a (lE X.K ta))(L:PE X b (lE X.K tb)):PE X (.IfExp c a b pos) (lE X.K (wIf t ta tb)):=by
 calc PE.imp (yG G J L) λσ H Q h=>?_;let⟨ρ,M,rs,rm,q⟩:=h;refine⟨ρ,M,rs,rm,mt _ _ _ _ (λx F z H1 B j=>?_) q⟩
 cases x with
 |true=>rw[if_pos rfl]at z⊢;show⟨ρ,F,rs.mono (B.stab rm),j,ma _ _ _ _ (λd M2 k=>k.ext B) z⟩
 |false=>rw[if_neg Lq]at z⊢;show⟨ρ,F,rs.mono (B.stab rm),j,mb _ _ _ _ (λd M2 k=>k.ext B) z⟩
abbrev bA(xs:List D)(lo hi:Option Int):List D:=(xs.drop (HT.sIx xs.length 0 lo)).take (HT.sIx xs.length xs.length hi-HT.sIx xs.length 0 lo)
def pU(r:RDs K H ds vs)(lo hi:Option Int):RDs K H (bA ds lo hi) (gE vs lo hi):=by unfold bA gE;rw[r.length];show(r.drop _).take _
noncomputable abbrev TOd:=ax->Mem->(Option Int->Mem->Prop)->Prop
abbrev cS(T:TOd):Prop:=∀ρ M Q Q',(∀d M',Q d M'->Q' d M')->T ρ M Q->T ρ M Q'
abbrev ik:TOd:=λ_ M Q=>Q Y M
abbrev il(t:TEd):TOd:=λρ M Q=>t ρ M λx M1=>∃i,x=.int i/\Q (S i) M1
def rF:cS ik:=λ_ _ _ _ h q=>h _ _ q
def gJ(h:ae ta):cS (il ta):=λρ M Q Q' i q=>h _ _ _ _ (λx B j=>(by let⟨c,e,z⟩:=j;show⟨c,e,i _ _ z⟩)) q
abbrev lO(K:Frag)(T:TOd):TO:=λσ H Q=>∃ρ M,RS K H σ ρ/\RM K M H/\T ρ M (λo M'=>∀H',Ext M H M' H'->RM K M' H'->Q o H')
def C0:PO X Y (lO X.K ik):=λpins s σ H Q I h=>by let⟨ρ,M,rs,rm,q⟩:=h;show Bw pins s σ H Q I (q H Ext.refl rm)
def sH(m:ae ta)(h:PE X e (lE X.K ta)):PO X (S e) (lO X.K (il ta)):=λpins s σ H Q I hq=>by let⟨ρ,M,rs,rm,q⟩:=hq;calc By h pins s σ H Q I ⟨ρ,M,rs,rm,m _ _ _ _ (λx G g9 v H1 F j z=>?_) q⟩;let⟨i,e,B⟩:=g9;subst e;show⟨i,Wz.mp z,B H1 F j⟩
abbrev bR:D->Option Int->Option Int->Mem->QD->Prop:=λx lo hi M Q=>match x with
 |.tup ds=>Q (.tup (bA ds lo hi)) M
 |.ref a=>∃ds,M a=S (.lst ds)/\∀p,M p=Y->Q (.ref p) (ad M p (.lst (bA ds lo hi)))
 |.con ds=>∀p,M p=Y->Q (.ref p) (ad M p (.lst (bA ds lo hi)))
 |_=>False
abbrev wSl(te:TEd)(tl th:TOd):TEd:=λρ M Q=>te ρ M λx M1=>tl ρ M1 λl M2=>th ρ M2 λu M3=>bR x l u M3 Q
def uq{lo hi:Option Int}{Q Q':QD}(h:∀d M',Q d M'->Q' d M')(q:bR x lo hi M Q):bR x lo hi M Q':=by
 cases x with
 |tup ds=>show h _ _ q
 |ref a=>let⟨ds,e,q⟩:=q;show⟨ds,e,λp n=>h _ _ (q p n)⟩
 |con ds=>showλp n=>h _ _ (q p n)
 |_=>show q.elim
def C1{tl th:TOd}(m:ae ta)(ml:cS tl)(mh:cS th):ae (wSl ta tl th):=λρ M Q Q' i q=>m _ _ _ _ (λx F j=>ml _ _ _ _ (λl M2 z=>mh _ _ _ _ (λu G B=>uq i B) z) j) q
def FJ{lo hi:Option Expr}{tl th:TOd}{p2:Pos}(m:ae ta)(ml:cS tl)(mh:cS th)(he:PE X e (lE X.K ta))(hl:PO X lo (lO X.K tl))(hu:PO X hi (lO X.K th)):
 PE X (.Subscript e (.Slice lo hi Y p2) pos) (lE X.K (wSl ta tl th)):=by
 calc PE.imp (yV (sl_tup.or (sl_list.or yY)) he hl hu) λσ H Q h=>?_;let⟨ρ,M,rs,rm,q⟩:=h;calc⟨ρ,M,rs,rm,m _ _ _ _ (λx M1 q1 v H1 O G U=>?_) q⟩;calc⟨ρ,M1,rs.mono (O.stab rm),G,ml _ _ _ _ (λl M2 q2 H2 F3 L=>?_) q1⟩;calc⟨ρ,M2,(rs.mono (O.stab rm)).mono (F3.stab G),L,mh _ _ _ _ (λu M3 z H3 Z j=>?_) q2⟩;let B:=O.trans (F3.trans Z);let F:=(U.mono (F3.stab G)).mono (Z.stab L)
 cases x with
 |tup ds=>
  let⟨a,vs,rfl,J,r⟩:=WE F
  by_cases hw:HT.sIx vs.length 0 l=0/\HT.sIx vs.length vs.length u=vs.length
  ·calc .inr (.inr ⟨a,vs,rfl,J,hw,?_⟩);let e:bA ds l u=ds:=by
    unfold bA;rw[<-r.length,hw.1,hw.2,r.length];simp
   simp only[bR]at z;rw[e]at z;show z.ext B _ H3 Ext.refl j F
  ·simp only[bR]at z;show .inl ⟨a,vs,rfl,J,hw,λp n=>dZ j (pU r l u) (z.ext B) n⟩
 |ref a=>
  cases WA.mp F
  let⟨ds,e,z⟩:=z;let⟨vs,J,r⟩:=j _ _ e;show .inr (.inl ⟨a,vs,rfl,SqL.of J,λp n=>cH j (pU r l u) (λp' n'=>(z p' n').ext B) n⟩)
 |con ds=>let⟨a,vs,rfl,J,r⟩:=WG.mp F;show .inr (.inl ⟨a,vs,rfl,J.sq,λp n=>cH j (pU r l u) (λp' n'=>(z p' n').ext B) n⟩)
 |_=>show z.elim
end
end
variable{ta to:TEd}{p pos:Pos}{tg:Expr}{H1:Hp}
section
section
variable{X:Cx}
abbrev tyN(M:Mem):D->Option String
 |.non=>S "NoneType"
 |.bl _=>S "bool"
 |.int _=>S "int"
 |.str _=>S "str"
 |.tup _=>S "tuple"
 |.ref a=>match M a with
  |some (.lst _)=>S "list"
  |some (.dct _ _)=>S "dict"
  |_=>Y
 |.con _=>Y
 |.fn _=>Y
abbrev eD(T t:String):Bool:=t==T || (t=="bool"&&T=="int")
def B5{t:String}(rm:RM K M H)(r:RD K H x v)(e:tyN M x=S t):cr K H v (.type t):=by
 cases x with
 |non=>cases e;cases WH.mp r;show .non
 |bl k=>cases e;cases WB.mp r;show .bl k
 |int i=>cases e;cases Wz.mp r;show .int i
 |str i=>cases e;cases WI.mp r;show .str i
 |tup ds=>
  cases e
  let⟨a,vs,rfl,j,rs⟩:=WE r;show .tup j
 |con ds=>cases e
 |fn _=>cases e
 |ref a=>
  cases WA.mp r
  simp only[tyN]at e
  cases e0:M a with
  |none=>rw[e0]at e;cases e
  |some o=>
   rw[e0]at e
   cases o with
   |lst ds=>
    cases e
    let⟨vs,j,rs⟩:=rm _ _ e0;show .lst j
   |dct t kvs=>
    cases e
    let ro:=rm _ _ e0
    cases t with
    |false=>let⟨ps,j,_⟩:=ro;show .dK j
    |true=>let⟨ps,j,_⟩:=ro;show .dT j
   |fdc kvs=>cases e
   |dcn _=>cases e
   |fdn _=>cases e
abbrev cI:List String:=["NoneType","bool","int","str","tuple","list","dict"]
def lm(K:Frag):∀T∈["bool","int","str","tuple","list","dict"],∀t∈cI,PySem.W.kitOne K (.type t) (.type T)=S (eD T t):=by
 intro T j t ht;simp only[cI,Lw,LW,or_false]at j ht
 rcases j with rfl|rfl|rfl|rfl|rfl|rfl<;>rcases ht with rfl|rfl|rfl|rfl|rfl|rfl|rfl<;>rfl
abbrev nY(T:String)(ta:TEd):TEd:=λρ M Q=>ta ρ M λx M1=>∃t,tyN M1 x=S t/\Q (.bl (eD T t)) M1
def wz{T:String}(h:ae ta):ae (nY T ta):=λρ M Q Q' i q=>h _ _ _ _ (λx B j=>(by let⟨t,e,z⟩:=j;show⟨t,e,i _ _ z⟩)) q
def sJ{t:String}(e:tyN M x=S t):t∈cI:=by
 cases x with
 |ref a=>
  simp only[tyN]at e
  cases e0:M a with
  |none=>rw[e0]at e;cases e
  |some o=>rw[e0]at e;cases o<;>cases e<;>simp[cI]
 |con _=>cases e
 |fn _=>cases e
 |_=>cases e;simp[cI]
def wB(T:String)(j:T∈["bool","int","str","tuple","list","dict"]):CallR X (.builtin "isinstance") (λvs H Q=>∃v t,vs=[v,.ty T]/\cr X.K H v (.type t)/\t∈cI/\Q (.bl (eD T t)) H):=by
 intro pins s σ H xs us Q I r h;let⟨v,t,rfl,ty,ht,q⟩:=h;let⟨u,c,rfl,ru,rc⟩:=nQ r
 cases rc
 show vX I ru ty (lm X.K T j t ht) λtk=>⟨.bl _,H,I.tok tk,rfl,q⟩
def C2{T:String}{y:Str}{p2:Pos}(L:T∈["bool","int","str","tuple","list","dict"])(m:ae ta)(he:PE X e (lE X.K ta))(O:Gl X "isinstance")(hm:X.mg "isinstance"=Y)(z:Gl X y)(B:X.mg y=Y)(U:OA y=S (.type T))(F3:y≠"__name__")(F:(y==("__debug__":Str))=WY)(hs:LV [e,.Name y p2] X.env=(WY,eval e X.env)::LV [.Name y p2] X.env)(G:(Po pos (LV [.Name y p2] X.env)).any (·.1)=WY):
 PE X (.Call (.Name "isinstance" p) [e,.Name y p2] [] pos) (lE X.K (nY T ta)):=by
 let h2:PE X (.Name y p2) (tC (.ty T)):=kU z B U rfl F3 F;refine PE.imp (bK (wB T L) O hm (by decide +kernel) (db he (db h2 jS rfl) hs) (·) (·) hs G) λσ H Q h=>?_
 let⟨ρ,M,rs,rm,q⟩:=h;show⟨ρ,M,rs,rm,m _ _ _ _ (λx M1 Z v H1 x1 j J=>(by let⟨t,e,q1⟩:=Z;show⟨v,t,rfl,B5 j J e,sJ e,q1 _ H1 x1 j (WB.mpr rfl)⟩)) q⟩
abbrev wBM(rd:D->List D->Mem->QD->Prop)(to:TEd)(t:TAd):TEd:=λρ M Q=>to ρ M λx M1=>(∃a xs,x=.ref a/\M1 a=S (.lst xs))/\t ρ M1 λds M2=>rd x ds M2 Q
abbrev ko(rd:D->List D->Mem->QD->Prop):Prop:=∀x ds M Q Q',(∀d M',Q d M'->Q' d M')->rd x ds M Q->rd x ds M Q'
def sK{rd:D->List D->Mem->QD->Prop}{t:TAd}(hr:ko rd)(mo:ae to)(mt:bd t):ae (wBM rd to t):=λρ M Q Q' i q=>mo _ _ _ _ (λx F j=>(by let⟨e,z⟩:=j;show⟨e,mt _ _ _ _ (λds M2 B=>hr _ _ _ _ _ i B) z⟩)) q
def FK(rm:RM K M H)(r:RD K H x v)(h:∃a xs,x=.ref a/\M a=S (.lst xs)):tyV K "list" v H:=by
 let⟨a,xs,rfl,e⟩:=h
 cases WA.mp r
 let⟨vs,j,_⟩:=rm _ _ e;show .inl ⟨rfl,vs,SqL.of j⟩
def sL{rd:D->List D->Mem->QD->Prop}{r:V->List V->Hp->VK->Prop}{t:TAd}(hr:ko rd)(mo:ae to)(mt:bd t)(L:∀v vs H Q,lMt K rd v vs H Q->r v vs H Q)(σ:St)(H:Hp)(Q:VK)(h:lE K (wBM rd to t) σ H Q):tBM K "list" r (lE K to) (lA K t) σ H Q:=by let⟨ρ,M,rs,rm,q⟩:=h;calc⟨ρ,M,rs,rm,mo _ _ _ _ (λx O ⟨e,U⟩ v H1 G j z=>⟨FK j z e,?_⟩) q⟩;calc⟨ρ,O,rs.mono (G.stab rm),j,mt _ _ _ _ (λds M2 F3 vs H2 J B F=>?_) U⟩;show L v vs H2 Q ⟨x,ds,M2,B,z.mono (J.stab j),F,hr _ _ _ _ _ (λd M' k=>k.ext (G.trans J)) F3⟩
abbrev im:D->List D->Mem->QD->Prop:=λx ds M Q=>∃a xs y,x=.ref a/\ds=[y]/\M a=S (.lst xs)/\xs.length<Ls/\Q .non (ad M a (.lst (xs++[y])))
def j6:ko im:=λ_ _ _ _ _ h j=>(by let⟨a,xs,y,e1,e2,B,z,q⟩:=j;show⟨a,xs,y,e1,e2,B,z,h _ _ q⟩)
def sM{o0:O}(rm:RM K M H)(m:M a=S o0)(rd:RDs K H ds vs)(r:RD K H d v)(q:KE' K M H Q d (ad M a (.lst ds)))(w:fz (S o0)=WY:=by rfl):
 Q v (upd H a (.lst vs)):=by
 let st:Stab H (upd H a (.lst vs)):=rm.stabPut m w;show q v _ (Ext.put m w) (rm.put m ⟨vs,aB,rd.mono st⟩ w) (r.mono st)
def zy(v:V)(vs:List V)(H:Hp)(Q:VK)(h:lMt K im v vs H Q):su v vs H Q:=by
 let⟨x,ds,M,rm,rx,rs,a,xs,y,rfl,rfl,e,z,q⟩:=h
 cases WA.mp rx
 let⟨w,rfl,rw'⟩:=rs.one;let⟨us,j,ru⟩:=rm _ _ e;show⟨a,us,w,rfl,rfl,j,by rw[ru.length];show z,sM rm e (ru.append (RDs.cons rw' RDs.nil)) (WH.mpr rfl) q⟩
noncomputable abbrev BT:=D->ax->Option ax
noncomputable abbrev BTs:=List D->ax->Option ax
abbrev b6(i:Nat):BT:=λd ρ=>S (ρ.set i (S d))
abbrev gK:BTs:=λds ρ=>match ds with|[]=>S ρ|_=>Y
abbrev bW(b:BT)(bs:BTs):BTs:=λds ρ=>match ds with|d::r=>(b d ρ).bind λρ'=>bs r ρ'|[]=>Y
abbrev ur(bs:BTs):BT:=λd ρ=>match d with|.tup ds=>bs ds ρ|_=>Y
abbrev lG(K:Frag)(b:BT):TG:=λv σ H Q=>∃d ρ ρ',RD K H d v/\RS K H σ ρ/\b d ρ=S ρ'/\∀σ',RS K H σ' ρ'->Q σ' H
abbrev lGs(K:Frag)(b:BTs):TGs:=λvs σ H Q=>∃ds ρ ρ',RDs K H ds vs/\RS K H σ ρ/\b ds ρ=S ρ'/\∀σ',RS K H σ' ρ'->Q σ' H
def PG.imp{t t':TG}(h:PG X e t)(i:∀v σ H Q,t' v σ H Q->t v σ H Q):PG X e t':=λpins s σ H v u Q I r q=>h pins s σ H v u Q I r (i _ _ _ _ q)
def PGs.imp{e:List Expr}{t t':TGs}(h:PGs X e t)(i:∀v σ H Q,t' v σ H Q->t v σ H Q):PGs X e t':=λpins s σ H v u Q I r q=>h pins s σ H v u Q I r (i _ _ _ _ q)
def C3{i:Nat}{x:Str}(j:X.N.Nodup)(hi:X.N[i]?=S x)(hx:Loc X.env.scope x)(hf:X.fn x=WX∨X.env.scope.names.lookup x=S .local):PG X (.Name x pos) (lG X.K (b6 i)):=
 PG.imp (sj j hi hx hf) λv σ H Q ⟨d,ρ,ρ',r,rs,e,q⟩=>by
  cases e
  show q _ (rs.set i r)
def C4:PGs X [] (lGs X.K gK):=PGs.imp sk λvs σ H Q ⟨ds,ρ,ρ',r,rs,e,q⟩=>by
 cases ds with
 |nil=>cases e;show⟨RDs.nil_iff.mp r,q σ rs⟩
 |cons _ _=>cases e
def zz{es:List Expr}{b:BT}{bs:BTs}(h1:PG X e (lG X.K b))(h2:PGs X es (lGs X.K bs))(hs:(Of (e::es) X.env).map (·.2)=assign e X.env::(Of es X.env).map (·.2)):
 PGs X (e::es) (lGs X.K (bW b bs)):=PGs.imp (jc h1 h2 hs) λvs σ H Q ⟨ds,ρ,ρ',r,rs,e,q⟩=>by
 cases ds with
 |nil=>cases e
 |cons d ds=>
  let⟨v,vr,rfl,j,z⟩:=WC.mp r;simp only[bW]at e
  cases e1:b d ρ with
  |none=>rw[e1]at e;cases e
  |some ρ1=>rw[e1]at e;show⟨v,vr,rfl,d,ρ,ρ1,j,rs,e1,λσ' rs'=>⟨ds,ρ1,ρ',z,rs',e,q⟩⟩
def Eg{es:List Expr}{k:Nat}{bs:BTs}{n:Nat}(z:X.calm=WX)(hlen:∀ds ρ ρ',bs ds ρ=S ρ'->ds.length=n)(h:PGs X es (lGs X.K bs))(B:(Of es X.env).length=n)(j:(Of es X.env).findIdx? (·.1)=Y):
 PG X (.Tuple es k pos) (lG X.K (ur bs)):=PG.imp (vN z h B j) λv σ H Q ⟨d,ρ,ρ',r,rs,e,q⟩=>by
 cases d with
 |tup ds=>let⟨a,vs,rfl,F,rv⟩:=WE r;show⟨a,vs,rfl,F,by rw[rv.length];show hlen _ _ _ e,ds,ρ,ρ',rv,rs,e,q⟩
 |_=>cases e
noncomputable abbrev TId:=ax->Mem->(List D->(Mem->Prop)->Mem->Prop)->Prop
abbrev ck(T:TId):Prop:=∀ρ M Q Q',(∀xs c M',Q xs c M'->Q' xs c M')->T ρ M Q->T ρ M Q'
abbrev Yl(H H':Hp):Prop:=H'=H∨∃q vs,H q=Y/\H'=upd H q (.tup vs)
abbrev gL(K:Frag)(H1:Hp)(xs:List D)(chk:Mem->Prop)(J:It):Prop:=∀M H,Stab H1 H->RM K M H->chk M->∀i,(xs.length<=i->J.stop i H)/\(i<xs.length->J.go i H /\
 ∀x H',J.yld i H x H'->Yl H H'/\∃d,xs[i]?=S d/\RD K H' d x)
abbrev lI(K:Frag)(T:TId):TI:=λσ H R=>∃ρ M,RS K H σ ρ/\RM K M H/\T ρ M (λxs chk M1=>∀J H1,Ext M H M1 H1->RM K M1 H1->gL K H1 xs chk J->R J H1)
def PI.imp{t t':TI}(h:PI X tg e t)(i:∀σ H Q,t' σ H Q->t σ H Q):PI X tg e t':=λpins s σ H Q I q=>h pins s σ H Q I (i _ _ _ q)
def Yl.ext{H':Hp}(rm:RM K M H)(y:Yl H H'):Ext M H M H'/\RM K M H':=by
 rcases y with rfl|⟨q,vs,n,rfl⟩
 ·show⟨Ext.refl,rm⟩
 ·show⟨WK n,rm.new n⟩
abbrev GN(K:Frag)(tl:TE):TI:=λσ H R=>tl σ H λx H1=>∃a,x=.ref a/\(((∃xs,SqL K H1 a xs)/\R (Itl K a) H1)∨((∃xs,SqT K H1 a xs)/\R (Itt K a) H1))
def Eh{l:Expr}{tl:TE}(F:PE X l tl):PI X tg l (GN X.K tl):=by
 intro pins s σ H R I h;calc thn (F pins s σ H _ I h) λv s1 G=>?_;let⟨x,H1,j,J,L⟩:=G;let⟨a,e,q⟩:=L;subst e
 cases J
 rcases q with⟨⟨xs,z⟩,q⟩|⟨⟨xs,z⟩,q⟩
 ·let⟨its,rv,p,hz⟩:=j.list z;calc Oq p.isList ?_;calc⟨s1.heap.objs.size,[s1.heap.objs.size],_,_,H1,rfl,j.kept (t':=s1.toks) λb o e=>h7 _ e,vP a _,⟨_,Lu _ rfl,rfl,rfl⟩,λb B=>?_,q⟩;let e:b=s1.heap.objs.size:=by simpa using B
  subst e;show j.fpOk (Lz _) (j.hok.fresh (Lz _))
 ·let⟨its,rv,p,hz⟩:=j.tuple z;calc NV (show s1.heap.IsTuple a its.toArray from p) ?_;calc⟨s1.heap.objs.size,[s1.heap.objs.size],_,_,H1,rfl,j.kept (t':=s1.toks) λb o e=>h7 _ e,tT a _,⟨_,Lu _ rfl,rfl,rfl⟩,λb B=>?_,q⟩;let e:b=s1.heap.objs.size:=by simpa using B
  subst e;show j.fpOk (Lz _) (j.hok.fresh (Lz _))
abbrev uu(ta:TEd):TId:=λρ M R=>ta ρ M λx M1=>∃ds,aC M1 x=S ds/\R ds (λM=>aC M x=S ds) M1
def zA(h:ae ta):ck (uu ta):=λρ M Q Q' i q=>h _ _ _ _ (λx B j=>(by let⟨ds,e,z⟩:=j;show⟨ds,e,i _ _ _ z⟩)) q
def wD{chk:Mem->Prop}(h:∀M H,Stab H1 H->RM K M H->chk M->∃vs,SqL K H a vs/\RDs K H ds vs):gL K H1 ds chk (Itl K a):=λM H st rm c i=>by
 let⟨vs,sq,r⟩:=h M H st rm c;let l:=r.length;refine⟨λhi=>⟨vs,sq,∅⟩,λhi=>⟨⟨vs,vs[i]'∅,sq,D1 ∅⟩,λx H' y=>?_⟩⟩
 let⟨e,y⟩:=y;subst e;show⟨.inl rfl,r.getV (y vs sq)⟩
def Ei{chk:Mem->Prop}(h:∀M H,Stab H1 H->RM K M H->chk M->∃vs,SqT K H a vs/\RDs K H ds vs):gL K H1 ds chk (Itt K a):=λM H st rm c i=>by
 let⟨vs,sq,r⟩:=h M H st rm c;let l:=r.length;refine⟨λhi=>⟨vs,sq,∅⟩,λhi=>⟨⟨vs,vs[i]'∅,sq,D1 ∅⟩,λx H' y=>?_⟩⟩
 let⟨e,y⟩:=y;subst e;show⟨.inl rfl,r.getV (y vs sq)⟩
def Ej{l:Expr}(m:ae ta)(G:PE X l (lE X.K ta)):PI X tg l (lI X.K (uu ta)):=by
 calc PI.imp (Eh G) λσ H R h=>?_;let⟨ρ,M,rs,rm,q⟩:=h;calc⟨ρ,M,rs,rm,m _ _ _ _ (λx L g9 v H1 F j rd1=>?_) q⟩;let⟨ds,e,B⟩:=g9
 cases x with
 |tup es=>
  cases e
  let⟨a,vs,rfl,z,rv⟩:=WE rd1;show⟨a,rfl,.inr ⟨⟨vs,z⟩,B _ H1 F j (Ei λM' H' st _ _=>⟨vs,st.sqT z,rv.mono st⟩)⟩⟩
 |con es=>
  cases e
  let⟨a,vs,rfl,z,rv⟩:=WG.mp rd1;show⟨a,rfl,.inl ⟨⟨vs,z.sq⟩,B _ H1 F j (wD λM' H' st _ _=>⟨vs,(st.sqF z).sq,rv.mono st⟩)⟩⟩
 |ref a=>
  cases WA.mp rd1
  let get:∀{M':Mem} {es:List D},aC M' (.ref a)=S es->M' a=S (.lst es):=λ{M' es} e=>by
   simp only[aC]at e
   cases e0:M' a with
   |none=>rw[e0]at e;cases e
   |some o=>
    rw[e0]at e
    cases o with
    |dct _ _=>cases e
    |fdc _=>cases e
    |dcn _=>cases e
    |fdn _=>cases e
    |lst es'=>cases e;rfl
  let⟨vs,z,rv⟩:=j _ _ (get e);show⟨a,rfl,.inl ⟨⟨vs,SqL.of z⟩,B _ H1 F j (wD λM' H' st rm' c=>by let⟨us,J,ru⟩:=rm' _ _ (get c);show⟨us,SqL.of J,ru⟩)⟩⟩
 |_=>cases e
abbrev aW(lo:Int)(n:Nat):List D:=(LO n).map λi=>.int (lo+(i:Nat))
def wF{lo:Int}{n:Nat}:gL K H1 (aW lo n) (λ_=>True) (Itr lo n):=λM H st rm c i=>by
 let l:(aW lo n).length=n:=by simp[aW]
 refine⟨λhi=>by change n<=i;lia,λhi=>⟨by change i<n;lia,λx H' y=>?_⟩⟩
 let⟨e,y⟩:=y;subst e y;calc⟨.inl rfl,.int (lo+i),?_,Wz.mpr rfl⟩;simp only[aW,Ly,Qb (show i<n by lia),Pz]
abbrev nZ(ta:TAd):TId:=λρ M R=>ta ρ M λds M1=>∃j:Int,ds=[.int j] /\ -(2^62)<=j/\j<2^62/\R (aW 0 j.toNat) (λ_=>True) M1
abbrev oa(ta:TAd):TId:=λρ M R=>ta ρ M λds M1=>∃i j:Int,ds=[.int i,.int j]/\(-(2^62)<=i/\i<2^62 /\ -(2^62)<=j/\j<2^62)/\R (aW i (j-i).toNat) (λ_=>True) M1
def wG{ta:TAd}(h:bd ta):ck (nZ ta):=λρ M Q Q' i q=>h _ _ _ _ (λx F z=>(by let⟨j,e,a,b,B⟩:=z;show⟨j,e,a,b,i _ _ _ B⟩)) q
def wH{ta:TAd}(h:bd ta):ck (oa ta):=λρ M Q Q' i q=>h _ _ _ _ (λx F z=>(by let⟨k,j,e,a,B⟩:=z;show⟨k,j,e,a,i _ _ _ B⟩)) q
def C5{a:Expr}{ta:TAd}(m:bd ta)(B:Gl X "range")(hm:X.mg "range"=Y)(F:PA X [a] (lA X.K ta))(hs:LV [a] X.env=[(WY,eval a X.env)]):PI X tg (.Call (.Name "range" p) [a] [] pos) (lI X.K (nZ ta)):=by
 calc PI.imp (vQ B hm F hs) λσ H R h=>?_;let⟨ρ,M,rs,rm,q⟩:=h;calc⟨ρ,M,rs,rm,m _ _ _ _ (λds U g9 vs H1 O z rd1=>?_) q⟩;let⟨j,e,G,J,L⟩:=g9;subst e;let⟨v,rfl,r⟩:=rd1.one
 cases Wz.mp r
 show⟨j,rfl,G,J,L _ H1 O z wF⟩
def C6{a b:Expr}{ta:TAd}(m:bd ta)(G:Gl X "range")(hm:X.mg "range"=Y)(J:PA X [a,b] (lA X.K ta))(hs:LV [a,b] X.env=[(WY,eval a X.env),(WY,eval b X.env)])(B:LV [b] X.env=[(WY,eval b X.env)]):
 PI X tg (.Call (.Name "range" p) [a,b] [] pos) (lI X.K (oa ta)):=by
 calc PI.imp (vR G hm J hs B) λσ H R h=>?_;let⟨ρ,M,rs,rm,q⟩:=h;calc⟨ρ,M,rs,rm,m _ _ _ _ (λds Z g9 vs H1 O F rd1=>?_) q⟩;let⟨i,j,e,z,L⟩:=g9;subst e;let⟨v,u,rfl,U,F3⟩:=rd1.two
 cases Wz.mp U
 cases Wz.mp F3
 show⟨i,j,rfl,z,L _ H1 O F wF⟩
end
end
variable{b:BT}{xs:List D}
section
section
variable{X:Cx}
abbrev isT:D->Bool|.tup _=>WX|_=>WY
def fu(rm:RM K M H)(r:RD K H x v)(e:aC M x=S ds):∃p vs,v=.ref p/\SqV K (isT x) H p vs/\RDs K H ds vs:=by
 cases x with
 |tup es=>
  cases e
  let⟨a,vs,rfl,j,rv⟩:=WE r;show⟨a,vs,rfl,j,rv⟩
 |con es=>
  cases e
  let⟨a,vs,rfl,j,rv⟩:=WG.mp r;show⟨a,vs,rfl,j.sq,rv⟩
 |ref a=>
  cases WA.mp r
  simp only[aC]at e
  cases e0:M a with
  |none=>rw[e0]at e;cases e
  |some o=>
   rw[e0]at e
   cases o with
   |dct _ _=>cases e
   |fdc _=>cases e
   |dcn _=>cases e
   |fdn _=>cases e
   |lst es=>
    cases e
    let⟨vs,j,rv⟩:=rm _ _ e0;show⟨a,vs,rfl,SqL.of j,rv⟩
 |_=>cases e
abbrev fU(x y:D):D:=.tup [x,y]
abbrev ln(ta tb:TEd):TId:=λρ M R=>au ta (au tb aY) ρ M λds M1=>∃x y xs ys,ds=[x,y]/\aC M1 x=S xs/\aC M1 y=S ys/\R (OB fU xs ys) (λM=>aC M x=S xs/\aC M y=S ys) M1
def zB{tb:TEd}(j:ae ta)(z:ae tb):ck (ln ta tb):=λρ M Q Q' i q=>aw j (aw z ay) _ _ _ _ (λds G B=>(by let⟨x,y,xs,ys,e,e1,e2,F⟩:=B;show⟨x,y,xs,ys,e,e1,e2,i _ _ _ F⟩)) q
def pV{p:WZ}{o:HO}(n:H p=Y):Stab H (upd H p o):=⟨λa xs e=>by rw[av (λz=>by rw[z,n]at e;cases e)];show e,λa o u e=>by rw[av (λz=>by rw[z,n]at e;cases e)];show e⟩
def Ek{y:D}{ys:List D}{b:WZ}(rx:RD K H1 x (.ref a))(ry:RD K H1 y (.ref b)):gL K H1 (OB fU xs ys) (λM=>aC M x=S xs/\aC M y=S ys) (Itz K (isT x) (isT y) a b):=λM H st rm c i=>by
 let⟨O,vs,e1,j,G⟩:=fu rm (rx.mono st) c.1;let⟨p2,us,e2,q,J⟩:=fu rm (ry.mono st) c.2
 cases e1
 cases e2
 let l1:=G.length;let l2:=J.length;let lz:(OB fU xs ys).length=min xs.length ys.length:=List.length_zipWith;refine⟨λhi=>⟨vs,us,j,q,∅⟩,λhi=>⟨⟨vs,us,vs[i]'∅,us[i]'∅,j,q,D1 ∅,D1 ∅⟩,λv H' L=>?_⟩⟩
 let⟨p,v1,v2,n,rfl,rfl,g⟩:=L;let⟨g1,g2⟩:=g vs us j q;let⟨d1,z,B⟩:=G.getV g1;let⟨d2,hd2,F⟩:=J.getV g2;let sb:=pV (o:=.tup [v1,v2]) n;calc⟨.inr ⟨p,[v1,v2],n,rfl⟩,.tup [d1,d2],?_,WJ ⟨p,[v1,v2],rfl,aB,RDs.cons (B.mono sb) (RDs.cons (F.mono sb) RDs.nil)⟩⟩;rw[Tz,z,hd2];rfl
def El{elts:List Expr}{cx}{pos':Pos}{a b:Expr}{tb:TEd}(ma:ae ta)(mb:ae tb)(G:Gl X "zip")(hm:X.mg "zip"=Y)(J:PA X [a,b] (lA X.K (au ta (au tb aY))))(hs:LV [a,b] X.env=[(WY,eval a X.env),(WY,eval b X.env)])(z:LV [b] X.env=[(WY,eval b X.env)]):
 PI X (.Tuple elts cx pos) (.Call (.Name "zip" p) [a,b] [] pos') (lI X.K (ln ta tb)):=by
 calc PI.imp (E1 G hm J hs z) λσ H R h=>?_;let⟨ρ,M,rs,rm,q⟩:=h;calc⟨ρ,M,rs,rm,aw ma (aw mb ay) _ _ _ _ (λds F3 g9 vs H1 O j rd1=>?_) q⟩;let⟨x,y,xs,ys,e,e1,e2,L⟩:=g9;subst e;let⟨v,u,rfl,B,F⟩:=rd1.two;let⟨U,vs,rfl,s1,_⟩:=fu j B e1;let⟨p2,us,rfl,s2,_⟩:=fu j F e2;show⟨U,p2,isT x,isT y,vs,us,rfl,s1,s2,L _ H1 O j (Ek B F)⟩
end
end
section
section
variable{X:Cx}
abbrev eN(xs:List D):List D:=xs.mapIdx λi x=>.tup [.int (i:Nat),x]
abbrev og(ta:TEd):TId:=λρ M R=>ta ρ M λx M1=>∃xs,aC M1 x=S xs/\R (eN xs) (λM=>aC M x=S xs) M1
def wJ(h:ae ta):ck (og ta):=λρ M Q Q' i q=>h _ _ _ _ (λx B j=>(by let⟨ds,e,z⟩:=j;show⟨ds,e,i _ _ _ z⟩)) q
def Em(rx:RD K H1 x (.ref a)):gL K H1 (eN xs) (λM=>aC M x=S xs) (Ite K (isT x) a):=λM H st rm c i=>by
 let⟨G,vs,e1,j,B⟩:=fu rm (rx.mono st) c
 cases e1
 let l1:=B.length;let lz:(eN xs).length=xs.length:=by simp[eN]
 refine⟨λhi=>⟨vs,j,∅⟩,λhi=>⟨⟨vs,vs[i]'∅,j,D1 ∅⟩,λv H' F=>?_⟩⟩
 let⟨p,v1,n,rfl,rfl,g⟩:=F;let⟨d1,q,z⟩:=B.getV (g vs j);let sb:=pV (o:=.tup [.int (i:Nat),v1]) n;calc⟨.inr ⟨p,[.int (i:Nat),v1],n,rfl⟩,.tup [.int (i:Nat),d1],?_,WJ ⟨p,[.int (i:Nat),v1],rfl,aB,RDs.cons (Wz.mpr rfl) (RDs.cons (z.mono sb) RDs.nil)⟩⟩;simp[eN,OV,q]
def C7{elts:List Expr}{cx}{pos':Pos}{a:Expr}(ma:ae ta)(B:Gl X "enumerate")(hm:X.mg "enumerate"=Y)(F:PA X [a] (lA X.K (au ta aY)))(hs:LV [a] X.env=[(WY,eval a X.env)]):
 PI X (.Tuple elts cx pos) (.Call (.Name "enumerate" p) [a] [] pos') (lI X.K (og ta)):=by
 calc PI.imp (BB B hm F hs) λσ H R h=>?_;let⟨ρ,M,rs,rm,q⟩:=h;calc⟨ρ,M,rs,rm,ma _ _ _ _ (λx O g9 vs H1 J j rd1=>?_) q⟩;let⟨xs,e1,G⟩:=g9;let⟨v,rfl,z⟩:=rd1.one;let⟨L,us,rfl,s1,_⟩:=fu j z e1;show⟨L,isT x,us,rfl,s1,G _ H1 J j (Em z)⟩
end
end
variable{te:TEd}{src:TId}
section
noncomputable abbrev NC:=ax->Mem->List D->Prop
noncomputable abbrev TCd:=ax->Mem->List D->NC->Prop
abbrev cm(T:TCd):Prop:=∀ρ M acc N N',(∀ρ' M' acc',N ρ' M' acc'->N' ρ' M' acc')->T ρ M acc N->T ρ M acc N'
structure ExtP(p:WZ)(M:Mem)(H:Hp)(M':Mem)(H':Hp):Prop where
 kp:∀a o,a≠p->fz (M a)=WX->H a=S o->H' a=S o
 nw:∀a o,fz (M a)=WX->H a=S o->M' a=M a
section
variable{K:Frag}{M M' M'':Mem}{H H' H'':Hp}{p:WZ}
def ExtP.new(x:ExtP p M H M' H')(a:WZ)(o:HO)(n:M a=Y)(e:H a=S o):M' a=Y:=(x.nw a o (by rw[n];rfl) e).trans n
def Ext.toP(x:Ext M H M' H'):ExtP p M H M' H':=⟨λa o _=>x.kp a o,x.nw⟩
def ExtP.refl:ExtP p M H M H:=⟨λ_ _ _ _ h=>h,λ_ _ _ _=>rfl⟩
def ExtP.trans(a:ExtP p M H M' H')(q:H p=S (.lst vs))(j:∃vs',H' p=S (.lst vs'))(b:ExtP p M' H' M'' H''):ExtP p M H M'' H'':=
 ⟨fun c o ne n h=>b.kp c o ne (by rw[a.nw c o n h];show n) (a.kp c o ne n h),fun c o n h=>by
  let n':fz (M' c)=WX:=by rw[a.nw c o n h];show n
  refine Eq.trans ?_ (a.nw c o n h)
  by_cases z:c=p
  ·subst z;let⟨vs',e⟩:=j;show b.nw c _ n' e
  ·show b.nw c o n' (a.kp c o z n h)⟩
def ExtP.stab(r:RM K M H)(j:H p=S (.lst vs))(x:ExtP p M H M' H'):Stab H H' where
 tup:=λa xs e=>x.kp a _ (λz=>by subst z;rw[j]at e;cases e) (by rw[r.fzT e];rfl) e
 frz:=λa o u e=>x.kp a _ (λz=>by subst z;rw[j]at e;cases e) (r.fzF e) e
def pW{ho:HO}(j:H p=S (.lst vs)):Stab H (upd H p ho):=⟨λa xs e=>by rw[av (λz=>by subst z;rw[j]at e;cases e)];show e,λa o u e=>by rw[av (λz=>by subst z;rw[j]at e;cases e)];show e⟩
def RM.side{ho:HO}(r:RM K M H)(n:M p=Y)(j:H p=S (.lst vs)):RM K M (upd H p ho):=λa o e=>by
 let ne:a≠p:=λz=>by subst z;rw[n]at e;cases e
 show(r a o e).mono (pW j) λB q=>by rw[av ne];show q
end
abbrev io(K:Frag)(H:Hp)(p:WZ)(acc:List D):Prop:=∃vs,H p=S (.lst vs)/\RDs K H acc vs
abbrev KC(K:Frag)(p:WZ)(M:Mem)(H:Hp)(N:St->Hp->Prop):NC:=λρ' M' acc'=>∀σ' H',ExtP p M H M' H'->RS K H' σ' ρ'->RM K M' H'->io K H' p acc'->N σ' H'
abbrev lC(K:Frag)(p:WZ)(T:TCd):TC:=λσ H N=>∃ρ M acc,RS K H σ ρ/\RM K M H/\M p=Y/\io K H p acc/\T ρ M acc (KC K p M H N)
def KC.ext{p:WZ}{M2 M':Mem}{H2:Hp}{N:St->Hp->Prop}{ρ:ax}{acc:List D}(q:H p=S (.lst vs))(j:∃vs',H2 p=S (.lst vs'))(x:ExtP p M H M2 H2)(h:KC K p M H N ρ M' acc):KC K p M2 H2 N ρ M' acc:=λσ' H' y=>h σ' H' (x.trans q j y)
abbrev bv(te:TEd):TCd:=λρ M acc N=>te ρ M λx M1=>acc.length<Ls/\N ρ M1 (acc++[x])
abbrev aX:List TTd->TCd->TCd
 |[],tb=>tb
 |t::r,tb=>λρ M acc N=>t ρ M λb M1=>if b=WX then aX r tb ρ M1 acc N else N ρ M1 acc
abbrev aU(b:BT)(tb:TCd)(chk:Mem->Prop)(N:NC):List D->NC
 |[]=>λρ M acc=>chk M/\N ρ M acc
 |x::xs=>λρ M acc=>chk M/\∃ρ',b x ρ=S ρ'/\tb ρ' M acc (aU b tb chk N xs)
abbrev ed(src:TId)(b:BT)(tb:TCd):TCd:=λρ M acc N=>src ρ M λxs chk M1=>aU b tb chk N xs ρ M1 acc
abbrev iq(fr:List (Option Nat))(src:TId)(b:BT)(tb:TCd):TEd:=λρ M Q=>src ρ M λxs chk M1=>aU b tb chk (λ_ M' acc=>∀p,M' p=Y->Q (.ref p) (ad M' p (.lst acc))) xs (uf fr ρ) M1 []
def bI(h:ae te):cm (bv te):=λρ M acc N N' i q=>h _ _ _ _ (λx F j=>(by let⟨z,B⟩:=j;show⟨z,i _ _ _ B⟩)) q
def aV{tb:TCd}(z:cm tb):∀{ts:List TTd},(∀t∈ts,aM t)->cm (aX ts tb)
 |[],_=>z
 |t::r,h=>fun ρ M acc N N' i q=>h t Nk _ _ _ _ (fun b B j=>by
  cases b with
  |true=>rw[if_pos rfl]at j⊢;show aV z (λt' ht=>h t' (Mf _ ht)) _ _ _ _ _ i j
  |false=>rw[if_neg Lq]at j⊢;show i _ _ _ j) q
def gM{b:BT}{tb:TCd}(z:cm tb){chk:Mem->Prop}{N N':NC}(i:∀ρ' M' acc',N ρ' M' acc'->N' ρ' M' acc'):∀(xs:List D) (ρ:ax) (M:Mem) (acc:List D),aU b tb chk N xs ρ M acc->aU b tb chk N' xs ρ M acc
 |[],ρ,M,acc,h=>⟨h.1,i _ _ _ h.2⟩
 |x::xs,ρ,M,acc,⟨c,ρ',e,q⟩=>⟨c,ρ',e,z _ _ _ _ _ (λρ2 M2 j B=>gM z i xs ρ2 M2 j B) q⟩
def j7{tb:TCd}(hs:ck src)(j:cm tb):cm (ed src b tb):=λρ M acc N N' i q=>hs _ _ _ _ (λxs c B z=>gM j i xs _ _ _ z) q
def mW{fr:List (Option Nat)}{tb:TCd}(hs:ck src)(j:cm tb):ae (iq fr src b tb):=λρ M Q Q' i q=>hs _ _ _ _ (λxs c F z=>gM j (λ_ M' acc B p n=>i _ _ (B p n)) xs _ _ _ z) q
section
variable{K:Frag}{p:WZ}
def gN(m:ae te)(σ:St)(H:Hp)(N:St->Hp->Prop)(h:lC K p (bv te) σ H N):B0 p (lE K te) σ H N:=by
 let⟨ρ,M,acc,rs,rm,n,⟨vs,L,ra⟩,q⟩:=h;calc⟨ρ,M,rs,rm,m _ _ _ _ (λx F3 g9 v H1 F G J=>?_) q⟩;let⟨z,O⟩:=g9;let j:=F.keep p _ n L;let U:=F.new p _ n L;let st:=F.stab rm;let B:Stab H1 (upd H1 p (.lst (vs++[v]))):=pW j;refine⟨vs,j,by rw[ra.length];show z,O σ _ ⟨λa o ne m' e=>?_,F.nw⟩ ((rs.mono st).mono B) (G.side U j) ⟨vs++[v],aB,((ra.mono st).mono B).append (RDs.cons (J.mono B) RDs.nil)⟩⟩
 rw[av ne];show F.kp a o m' e
def kr{tb:TCd}(mb:cm tb):∀{ts:List TTd},(∀t∈ts,aM t)->∀(σ:St) (H:Hp) (N:St->Hp->Prop),lC K p (aX ts tb) σ H N->jW (ts.map (lT K)) (lC K p tb) σ H N
 |[],_,σ,H,N,h=>h
 |t::r,hm,σ,H,N,h=>by
  let⟨ρ,M,acc,rs,rm,n,⟨vs,G,ra⟩,q⟩:=h;calc⟨ρ,M,rs,rm,hm t Nk _ _ _ _ (λb J F H1 z B=>?_) q⟩;let j:=z.keep p _ n G;let L:=z.new p _ n G;let st:=z.stab rm
  cases b with
  |false=>rw[if_neg Lq]at F;dsimp only;rw[if_neg Lq];show F σ H1 z.toP (rs.mono st) B ⟨vs,j,ra.mono st⟩
  |true=>
   rw[if_pos rfl]at F;dsimp only;rw[if_pos rfl];show kr mb (λt' ht=>hm t' (Mf _ ht)) σ H1 N ⟨ρ,J,acc,rs.mono st,B,L,⟨vs,j,ra.mono st⟩,
    aV mb (λt' ht=>hm t' (Mf _ ht)) _ _ _ _ _ (λρ' M' acc' k=>k.ext G ⟨vs,j⟩ z.toP) F⟩
def mX{tb:TCd}(mb:cm tb){chk:Mem->Prop}{J:It}{B:Mem}{Nd:NC}{N:St->Hp->Prop}{σ:St}{ρ:ax}{acc:List D}(it:gL K H1 xs chk J)(rs:RS K H1 σ ρ)(rm:RM K B H1)(n:B p=Y)(ac:io K H1 p acc)(q:aU b tb chk Nd xs ρ B acc)(hN:∀ρ' M' acc' σ' H',ExtP p B H1 M' H'->RS K H' σ' ρ'->RM K M' H'->io K H' p acc'->Nd ρ' M' acc'->N σ' H'):
 cP J (lG K b) (lC K p tb) N σ H1:=by
 let⟨Ja,F,_⟩:=id ac;refine⟨λi m σ H=>m=xs.length-i/\i<=xs.length/\∃ρ M acc,RS K H σ ρ/\RM K M H/\M p=Y/\io K H p acc/\ExtP p B H1 M H/\aU b tb chk Nd (xs.drop i) ρ M acc,⟨xs.length,by simp,NM _,ρ,B,acc,rs,rm,n,ac,ExtP.refl,q⟩,?_⟩
 rintro i m σ H ⟨rfl,hi,ρ,M,acc,rs,j,n,ac,x,q⟩;let st:=x.stab rm F;let⟨vs,hp,ra⟩:=id ac
 by_cases z:i<xs.length
 ·rw[MK z]at q;let⟨c,ρ',hb,q⟩:=q;let⟨go,yl⟩:=(it M H st j c i).2 z;calc .inr ⟨go,λσ' H'=>∃m',m'<xs.length-i/\(m'=xs.length-(i+1)/\i+1<=xs.length/\∃ρ M acc,RS K H' σ' ρ/\RM K M H'/\M p=Y/\io K H' p acc/\ExtP p B H1 M H'/\aU b tb chk Nd (xs.drop (i+1)) ρ M acc),λσ' H' h=>h,λx' H' y=>?_⟩;let⟨yy,d,hd,rd⟩:=yl x' H' y;rw[D1 z]at hd
  cases hd
  let⟨xy,rmy⟩:=yy.ext j;let sty:=xy.stab j;let G:=xy.keep p _ n hp;calc⟨_,ρ,ρ',rd,rs.mono sty,hb,λσ2 O=>?_⟩;calc⟨ρ',M,acc,O,rmy,n,⟨vs,G,ra.mono sty⟩,mb _ _ _ _ _ (λρ3 M3 L q3 σ3 H3 x3 U F3 Z=>?_) q⟩;let n3:M3 p=Y:=x3.new p _ n G;show⟨xs.length-(i+1),∅,rfl,z,ρ3,M3,L,U,F3,n3,Z,(x.trans F ⟨vs,hp⟩ xy.toP).trans F ⟨vs,G⟩ x3,q3⟩
 ·let e:i=xs.length:=by lia
  subst e;rw[Vw]at q;show .inl ⟨(it M H st j q.1 _).1 (Lz _),hN ρ M acc σ H x rs j ac q.2⟩
def j8{tb:TCd}(ms:ck src)(mb:cm tb)(σ:St)(H:Hp)(N:St->Hp->Prop)(h:lC K p (ed src b tb) σ H N):(lI K src) σ H λJ H1=>cP J (lG K b) (lC K p tb) N σ H1:=by let⟨ρ,M,acc,rs,rm,n,⟨vs,B,ra⟩,q⟩:=h;calc⟨ρ,M,rs,rm,ms _ _ _ _ (λxs chk O G J H1 z F it=>?_) q⟩;let j:=z.keep p _ n B;let L:=z.new p _ n B;let st:=z.stab rm;show mX mb it (rs.mono st) F L ⟨vs,j,ra.mono st⟩ G λρ' M' acc' σ' H' x2 rs' rm' ac' k=>k σ' H' (z.toP.trans B ⟨vs,j⟩ x2) rs' rm' ac'
def eO{fr:List (Option Nat)}{tb:TCd}(ms:ck src)(mb:cm tb)(σ:St)(H:Hp)(Q:VK)(h:lE K (iq fr src b tb) σ H Q):uc (lI K src) (lG K b) (λp=>lC K p tb) fr σ H Q:=by
 let⟨ρ,M,rs,rm,q⟩:=h;calc⟨ρ,M,rs,rm,ms _ _ _ _ (λxs chk F O J H1 B j it p n=>?_) q⟩;let st:=B.stab rm;let xn:Ext F H1 F (upd H1 p (.lst [])):=WK n;let stn:=xn.stab j;let L:F p=Y:=j.out n;calc mX (p:=p) mb (xs:=xs) (chk:=chk) (λM' H' st'=>it M' H' ⟨λa xs e=>st'.tup _ _ (stn.tup _ _ e),λa o u e=>st'.frz _ _ _ (stn.frz _ _ _ e)⟩) (((rs.mono st).mono stn).inh fr) (j.new n) L ⟨[],aB,RDs.nil⟩ O λρ' M' acc' σ' H' G rs' rm' ac' k=>?_;let⟨vs,U,ra⟩:=ac';let n':M' p=Y:=G.new p _ L aB;refine k p n' (.ref p) H' ⟨λa o m e=>?_,λa o m e=>?_⟩ (λa o e=>?_) (WA.mpr rfl)
 ·let e1:=B.kp a o m e;let ne:a≠p:=λz=>by subst z;rw[n]at e1;cases e1
  show G.kp a o ne (by rw[B.nw a o m e];show m) (by rw[av ne];show e1)
 ·let e1:=B.kp a o m e;let ne:a≠p:=λz=>by subst z;rw[n]at e1;cases e1
  rw[aj ne];show(G.nw a o (by rw[B.nw a o m e];show m) (by rw[av ne];show e1)).trans (B.nw a o m e)
 ·by_cases z:a=p
  ·subst z;rw[aa]at e;cases e;show⟨vs,U,ra⟩
  ·rw[aj z]at e;show rm' a o e
end
end
variable{u:TSd}{c:TTd}
section
abbrev ku:TSd:=λD ρ M=>D.nx ρ M
abbrev zC(t u:TSd):TSd:=λD ρ M=>t {D with nx:=u D} ρ M
abbrev kx:TSd:=λD ρ M=>D.bk ρ M
abbrev oh:TSd:=λD ρ M=>D.ct ρ M
abbrev oi(te:TEd):TSd:=λD ρ M=>te ρ M λ_ M1=>D.nx ρ M1
abbrev uv(te:TEd):TSd:=λD ρ M=>te ρ M D.rt
abbrev sIf(c:TTd)(t u:TSd):TSd:=λD ρ M=>c ρ M λb M1=>if b=WX then t D ρ M1 else u D ρ M1
abbrev lu(te:TEd)(b:BT):TSd:=λD ρ M=>te ρ M λx M1=>∃ρ',b x ρ=S ρ'/\D.nx ρ' M1
abbrev uz(ta:TAd)(bs:BTs):TSd:=λD ρ M=>ta ρ M λxs M1=>∃ρ',bs xs ρ=S ρ'/\D.nx ρ' M1
abbrev bN(b:BT)(tb:TSd)(chk:Mem->Prop)(D:bV):List Mi.D->ax->Mem->Prop
 |[]=>λρ M=>chk M/\D.nx ρ M
 |x::xs=>λρ M=>chk M/\∃ρ',b x ρ=S ρ'/\tb {D with nx:=bN b tb chk D xs,ct:=bN b tb chk D xs,bk:=D.nx} ρ' M
abbrev uA(src:TId)(b:BT)(tb:TSd):TSd:=λD ρ M=>src ρ M λxs chk M1=>bN b tb chk D xs ρ M1
abbrev aN(c:TTd)(tb:TSd)(D:bV):Nat->ax->Mem->Prop
 |0=>λ_ _=>False
 |n+1=>λρ M=>c ρ M λb M1=>if b=WX then tb {D with nx:=aN c tb D n,ct:=aN c tb D n,bk:=D.nx} ρ M1 else D.nx ρ M1
abbrev kz(c:TTd)(tb:TSd):TSd:=λD ρ M=>∃n,aN c tb D n ρ M
def mY:aJ ku:=λ_ _ _ _ h q=>h.nx _ _ q
def uB:aJ kx:=λ_ _ _ _ h q=>h.bk _ _ q
def wK:aJ oh:=λ_ _ _ _ h q=>h.ct _ _ q
def wL{t:TSd}(ht:aJ t)(j:aJ u):aJ (zC t u):=λa b ρ M h q=>ht {a with nx:=u a} {b with nx:=u b} _ _ ⟨λρ' M' q'=>j _ _ _ _ h q',h.rt,h.bk,h.ct⟩ q
def wM(h:ae te):aJ (oi te):=λa b ρ M i q=>h _ _ _ _ (λ_ z j=>i.nx _ _ j) q
def zD(h:ae te):aJ (uv te):=λa b ρ M i q=>h _ _ _ _ (λd z j=>i.rt _ _ j) q
def zE{t:TSd}(z:aM c)(ht:aJ t)(B:aJ u):aJ (sIf c t u):=λa b ρ M i q=>z _ _ _ _ (λk F j=>by
 cases k with
 |true=>rw[if_pos rfl]at j⊢;show ht _ _ _ _ i j
 |false=>rw[if_neg Lq]at j⊢;show B _ _ _ _ i j) q
def zF{bt:BT}(h:ae te):aJ (lu te bt):=λa b ρ M i q=>h _ _ _ _ (λd B j=>(by let⟨ρ',e,z⟩:=j;show⟨ρ',e,i.nx _ _ z⟩)) q
def zG{ta:TAd}{bs:BTs}(h:bd ta):aJ (uz ta bs):=λa b ρ M i q=>h _ _ _ _ (λd B j=>(by let⟨ρ',e,z⟩:=j;show⟨ρ',e,i.nx _ _ z⟩)) q
def gO{bt:BT}{tb:TSd}(j:aJ tb){chk:Mem->Prop}{a b:bV}(i:LeD a b):∀(xs:List D) (ρ:ax) (M:Mem),bN bt tb chk a xs ρ M->bN bt tb chk b xs ρ M
 |[],ρ,M,h=>⟨h.1,i.nx _ _ h.2⟩
 |x::xs,ρ,M,⟨c,ρ',e,q⟩=>⟨c,ρ',e,j {a with nx:=bN bt tb chk a xs,ct:=bN bt tb chk a xs,bk:=a.nx} {b with nx:=bN bt tb chk b xs,ct:=bN bt tb chk b xs,bk:=b.nx} _ _ ⟨λρ2 M2 z=>gO j i xs ρ2 M2 z,i.rt,i.nx,λρ2 M2 z=>gO j i xs ρ2 M2 z⟩ q⟩
def zH{bt:BT}{tb:TSd}(hs:ck src)(j:aJ tb):aJ (uA src bt tb):=λa b ρ M i q=>hs _ _ _ _ (λxs c B z=>gO j i xs _ _ z) q
def eY{c:TTd}{tb:TSd}(q:aM c)(z:aJ tb){a b:bV}(i:LeD a b):∀(n:Nat) (ρ:ax) (M:Mem),aN c tb a n ρ M->aN c tb b n ρ M
 |0,ρ,M,h=>h
 |n+1,ρ,M,h=>q _ _ _ _ (fun k F j=>by
  cases k with
  |true=>rw[if_pos rfl]at j⊢;show z {a with nx:=aN c tb a n,ct:=aN c tb a n,bk:=a.nx} {b with nx:=aN c tb b n,ct:=aN c tb b n,bk:=b.nx} _ _ ⟨λρ2 M2 B=>eY q z i n ρ2 M2 B,i.rt,i.nx,λρ2 M2 B=>eY q z i n ρ2 M2 B⟩ j
  |false=>rw[if_neg Lq]at j⊢;show i.nx _ _ j) h
def uC{tb:TSd}(j:aM c)(z:aJ tb):aJ (kz c tb):=λa b ρ M i g9=>(by let⟨n,q⟩:=g9;show⟨n,eY j z i n _ _ q⟩)
section
variable{K:Frag}
def mZ(D:bJ)(σ:St)(H:Hp)(h:lS K ku D σ H):tP D σ H:=by let⟨ρ,M,A,rs,rm,l,q⟩:=h;show l.nx ρ M σ H Ext.refl rs rm q
def uD(D:bJ)(σ:St)(H:Hp)(h:lS K kx D σ H):vM D σ H:=by let⟨ρ,M,A,rs,rm,l,q⟩:=h;show l.bk ρ M σ H Ext.refl rs rm q
def wN(D:bJ)(σ:St)(H:Hp)(h:lS K oh D σ H):AR D σ H:=by let⟨ρ,M,A,rs,rm,l,q⟩:=h;show l.ct ρ M σ H Ext.refl rs rm q
def zI{t:TSd}(mt:aJ t)(mu:aJ u)(D:bJ)(σ:St)(H:Hp)(h:lS K (zC t u) D σ H):DD (lS K t) (lS K u) D σ H:=by let⟨ρ,M,A,rs,rm,l,q⟩:=h;show⟨ρ,M,{A with nx:=u A},rs,rm,⟨λρ' M' σ' H' x rs' rm' q'=>⟨ρ',M',A,rs',rm',l.ext x,q'⟩,l.rt,l.bk,l.ct⟩,q⟩
def wP(m:ae te)(D:bJ)(σ:St)(H:Hp)(h:lS K (oi te) D σ H):AS (lE K te) D σ H:=by let⟨ρ,M,A,rs,rm,l,q⟩:=h;show⟨ρ,M,rs,rm,m _ _ _ _ (λd B F v H1 z j G=>l.nx ρ B σ H1 z (rs.mono (z.stab rm)) j F) q⟩
def zJ(m:ae te)(D:bJ)(σ:St)(H:Hp)(h:lS K (uv te) D σ H):DE (lE K te) D σ H:=by let⟨ρ,M,A,rs,rm,l,q⟩:=h;show⟨ρ,M,rs,rm,m _ _ _ _ (λd B F v H1 G j z=>l.rt d B v H1 G j z F) q⟩
def C8{t:TSd}(mc:aM c)(D:bJ)(σ:St)(H:Hp)(h:lS K (sIf c t u) D σ H):DG (lT K c) (lS K t) (lS K u) D σ H:=by
 let⟨ρ,M,A,rs,rm,l,q⟩:=h;refine⟨ρ,M,rs,rm,mc _ _ _ _ (λk F z H1 B j=>?_) q⟩
 cases k with
 |true=>rw[if_pos rfl]at z⊢;show⟨ρ,F,A,rs.mono (B.stab rm),j,l.ext B,z⟩
 |false=>rw[if_neg Lq]at z⊢;show⟨ρ,F,A,rs.mono (B.stab rm),j,l.ext B,z⟩
def zK(m:ae te)(D:bJ)(σ:St)(H:Hp)(h:lS K (lu te b) D σ H):tR (lE K te) (lG K b) D σ H:=by let⟨ρ,M,A,rs,rm,l,q⟩:=h;calc⟨ρ,M,rs,rm,m _ _ _ _ (λd F g9 v H1 B j z=>?_) q⟩;let⟨ρ',e,G⟩:=g9;show⟨d,ρ,ρ',z,rs.mono (B.stab rm),e,λσ' rs'=>l.nx ρ' F σ' H1 B rs' j G⟩
def n6{i:Nat}(m:ae te)(D:bJ)(σ:St)(H:Hp)(h:lS K (lu te (b6 i)) D σ H):tR (lE K te) (jN i) D σ H:=by
 let⟨ρ,M,A,rs,rm,l,q⟩:=h;calc⟨ρ,M,rs,rm,m _ _ _ _ (λd z g9 v H1 j rm1 rd1=>?_) q⟩;let⟨ρ',e,B⟩:=g9
 cases e
 show l.nx _ z _ H1 j ((rs.mono (j.stab rm)).set i rd1) rm1 B
def zL{tb:TSd}(ms:ck src)(mb:aJ tb)(D:bJ)(σ:St)(H:Hp)(h:lS K (uA src b tb) D σ H):DJ (lI K src) (lG K b) (lS K tb) D σ H:=by
 let⟨ρ,M,A,rs,rm,l,q⟩:=h;calc⟨ρ,M,rs,rm,ms _ _ _ _ (λxs chk M1 q1 J H1 x1 G it=>?_) q⟩;refine⟨λi m σ H'=>m=xs.length-i/\i<=xs.length/\∃ρ M2,RS K H' σ ρ/\RM K M2 H'/\Ext M1 H1 M2 H'/\bN b tb chk A (xs.drop i) ρ M2,⟨xs.length,by simp,NM _,ρ,M1,rs.mono (x1.stab rm),G,Ext.refl,q1⟩,?_⟩
 rintro i m σ2 H2 ⟨rfl,hi,ρ2,M2,L,j,x2,O⟩;let U:=x2.stab G
 by_cases B:i<xs.length
 ·rw[MK B]at O;let⟨c,ρ',hb,q3⟩:=O;let⟨go,yl⟩:=(it M2 H2 U j c i).2 B;calc .inr ⟨go,λσ' H'=>∃m',m'<xs.length-i/\(m'=xs.length-(i+1)/\i+1<=xs.length/\∃ρ M,RS K H' σ' ρ/\RM K M H'/\Ext M1 H1 M H'/\bN b tb chk A (xs.drop (i+1)) ρ M),λσ' H' h=>h,λx' H' y=>?_⟩;let⟨yy,d,hd,rd⟩:=yl x' H' y;rw[D1 B]at hd
  cases hd
  let⟨xy,rmy⟩:=yy.ext j;let F3:=x1.trans (x2.trans xy);calc⟨_,ρ2,ρ',rd,L.mono (xy.stab j),hb,λσ3 Ja=>?_⟩;let nx:∀ρ5 F σ5 z,Ext M2 H' F z->RS K z σ5 ρ5->RM K F z->bN b tb chk A (xs.drop (i+1)) ρ5 F->∃m',m'<xs.length-i/\(m'=xs.length-(i+1)/\i+1<=xs.length/\∃ρ M,RS K z σ5 ρ/\RM K M z/\Ext M1 H1 M z/\bN b tb chk A (xs.drop (i+1)) ρ M):=λρ5 F σ5 z Z Jb Jc q5=>⟨xs.length-(i+1),∅,rfl,B,ρ5,F,Jb,Jc,(x2.trans xy).trans Z,q5⟩
  refine⟨ρ',M2,{A with nx:=bN b tb chk A (xs.drop (i+1)),ct:=bN b tb chk A (xs.drop (i+1)),bk:=A.nx},Ja,rmy,⟨nx,λd F v z Z=>l.rt d F v z (F3.trans Z),λρ5 F σ5 z Z=>l.nx ρ5 F σ5 z (F3.trans Z),nx⟩,q3⟩
 ·let e:i=xs.length:=by lia
  subst e;rw[Vw]at O;show .inl ⟨(it M2 H2 U j O.1 _).1 (Lz _),l.nx ρ2 M2 σ2 H2 (x1.trans x2) L j O.2⟩
def uE{tb:TSd}(mc:aM c)(mb:aJ tb)(D:bJ)(σ:St)(H:Hp)(h:lS K (kz c tb) D σ H):vO (lT K c) (lS K tb) D σ H:=by
 let⟨ρ,M,A,rs,rm,l,n,q⟩:=h;calc⟨λm σ' H'=>∃ρ' M',RS K H' σ' ρ'/\RM K M' H'/\Ext M H M' H'/\aN c tb A m ρ' M',⟨n,ρ,M,rs,rm,Ext.refl,q⟩,?_⟩;rintro m σ1 H1 ⟨ρ1,M1,J,L,x1,q1⟩
 cases m with
 |zero=>show q1.elim
 |succ m=>
  calc⟨ρ1,M1,J,L,mc _ _ _ _ (λk M2 Z H2 x2 O=>?_) q1⟩;let j:=x1.trans x2;let U:=J.mono (x2.stab L)
  cases k with
  |false=>rw[if_neg Lq]at Z;dsimp only;rw[if_neg Lq];show l.nx ρ1 M2 σ1 H2 j U O Z
  |true=>
   rw[if_pos rfl]at Z;dsimp only;rw[if_pos rfl];refine⟨λσ' H'=>∃ρ' M',RS K H' σ' ρ'/\RM K M' H'/\Ext M H M' H'/\aN c tb A m ρ' M',λσ' H' h=>⟨m,Vx m,h⟩,ρ1,M2,{A with nx:=aN c tb A m,ct:=aN c tb A m,bk:=A.nx},U,O,⟨?_,λd z v F3 B=>l.rt d z v F3 (j.trans B),λρ5 z σ5 F3 B=>l.nx ρ5 z σ5 F3 (j.trans B),?_⟩,Z⟩
   ·showλρ5 z σ5 F3 B F G q5=>⟨ρ5,z,F,G,j.trans B,q5⟩
   ·showλρ5 z σ5 F3 B F G q5=>⟨ρ5,z,F,G,j.trans B,q5⟩
end
abbrev eP:D->D->D->Mem->(Mem->Prop)->Prop:=λo i v M Q=>∃a,o=.ref a /\
 ((∃xs k j,i=.int k/\M a=S (.lst xs)/\ixN xs.length k=S j/\Q (ad M a (.lst (xs.set j v)))) ∨
  ∃t kvs,M a=S (.dct t kvs)/\kh t i=WX/\kvs.length<Ls/\Q (ad M a (.dct t (gH kvs i v))))
abbrev uF(te to ti:TEd):TSd:=λD ρ M=>te ρ M λv M1=>to ρ M1 λo M2=>ti ρ M2 λi M3=>eP o i v M3 λM4=>D.nx ρ M4
def gQ{o i v:D}{Q Q':Mem->Prop}(h:∀M',Q M'->Q' M')(q:eP o i v M Q):eP o i v M Q':=by
 obtain⟨a,e,⟨xs,k,j,e1,e2,z,q⟩|⟨t,kvs,e1,e2,z,q⟩⟩:=q
 ·show⟨a,e,.inl ⟨xs,k,j,e1,e2,z,h _ q⟩⟩
 ·show⟨a,e,.inr ⟨t,kvs,e1,e2,z,h _ q⟩⟩
def zM{ti:TEd}(he:ae te)(ho:ae to)(hi:ae ti):aJ (uF te to ti):=λa b ρ M i q=>he _ _ _ _ (λv F j=>ho _ _ _ _ (λo M2 z=>hi _ _ _ _ (λk G B=>gQ (λM' q'=>i.nx _ _ q') B) z) j) q
section
variable{X:Cx}{K:Frag}
def pX(j:X.A.units+1<NW):PSet X (λo i v H Q=>∃a H',o=.ref a/\DPut H a i v H'/\Q H'):=by
 intro pins s σ H o i v ov iv u Q I ro ri rv h;let⟨a,H',rfl,g,q⟩:=h
 cases ro
 show wc j I g ri rv λs' I'=>⟨H',I',q⟩
def PSet.or{t t':tQ}(h:PSet X t)(h':PSet X t'):PSet X (λo i v H Q=>t o i v H Q∨t' o i v H Q):=by
 intro pins s σ H o i v ov iv u Q I ro ri rv q
 rcases q with q|q
 ·show h pins s σ H o i v ov iv u Q I ro ri rv q
 ·show h' pins s σ H o i v ov iv u Q I ro ri rv q
section
variable{κ:Type}[DecidableEq κ]{H:Hp}{RK:D->κ->Prop}(inj:∀{d e:D} {k:κ},RK d k->RK e k->d=e)(fn:∀{d:D} {k k':κ},RK d k->RK d k'->k=k')
include inj fn
def sN{k:D}{q:κ}(j:RK k q):∀{kvs:List (D×D)} {ps:List (κ×V)},N6 (λp r=>RK p.1 r.1/\RD K H p.2 r.2) kvs ps->
 (kvs.any λp=>decide (p.1=k))=(ps.any λp=>decide (p.1=q))
 |_,_,.nil=>rfl
 |_,_,.cons (a:=p) (b:=r) hr t=>by
  rw[O6,O6,sN j t];congr 1
  by_cases e:p.1=k
  ·let e':r.1=q:=by let h1:=hr.1;rw[e]at h1;show fn h1 j
   rw[decide_eq_true e,decide_eq_true e']
  ·let e':¬r.1=q:=λz=>e (by let h1:=hr.1;rw[z]at h1;show inj h1 j)
   rw[decide_eq_false e,decide_eq_false e']
def sP{k:D}{q:κ}(j:RK k q){d:D}{v:V}(B:RD K H d v):∀{kvs:List (D×D)} {ps:List (κ×V)},N6 (λp r=>RK p.1 r.1/\RD K H p.2 r.2) kvs ps->
 N6 (λp r=>RK p.1 r.1/\RD K H p.2 r.2) (kvs.map λp=>if p.1=k then(p.1,d)else p) (ps.map λp=>if p.1=q then(p.1,v)else p)
 |_,_,.nil=>.nil
 |_,_,.cons (a:=p) (b:=r) hr t=>by
  refine .cons ?_ (sP j B t)
  by_cases e:p.1=k
  ·let e':r.1=q:=by let h1:=hr.1;rw[e]at h1;show fn h1 j
   dsimp only;rw[if_pos e,if_pos e'];show⟨hr.1,B⟩
  ·let e':¬r.1=q:=λz=>e (by let h1:=hr.1;rw[z]at h1;show inj h1 j)
   dsimp only;rw[if_neg e,if_neg e'];show hr
def pY{k:D}{q:κ}(j:RK k q)(z:RD K H d v){ps:List (κ×V)}(r:N6 (λp r=>RK p.1 r.1/\RD K H p.2 r.2) kvs ps):
 N6 (λp r=>RK p.1 r.1/\RD K H p.2 r.2) (gH kvs k d) (cu ps q v):=by
 unfold gH cu;rw[sN (K:=K) (H:=H) (RK:=RK) inj fn j r]
 by_cases e:(ps.any λp=>decide (p.1=q))=WX
 ·rw[if_pos e,if_pos e];show sP (RK:=RK) inj fn j z r
 ·rw[if_neg e,if_neg e];show r.snoc ⟨j,z⟩
end
def jo{o i v:D}{ov iv vv:V}{Qd:Mem->Prop}{Q:Hp->Prop}(rm:RM K M H)(ro:RD K H o ov)(ri:RD K H i iv)(rv:RD K H v vv)(h:eP o i v M Qd)(J:∀M' H',Ext M H M' H'->RM K M' H'->Qd M'->Q H'):
 AW ov iv vv H Q∨∃a H',ov=.ref a/\DPut H a iv vv H'/\Q H':=by
 obtain⟨a,rfl,⟨xs,k,j,rfl,e2,G,q⟩|⟨t,kvs,e1,e2,G,q⟩⟩:=h
 ·cases WA.mp ro
  cases Wz.mp ri
  let⟨vs,U,rs⟩:=rm _ _ e2;let st:Stab H (upd H a (.lst (vs.set j vv))):=rm.stabPut e2;show .inl ⟨a,vs,k,j,rfl,rfl,U,by rw[rs.length];show G,J _ _ (Ext.put e2) (rm.put (o:=.lst (xs.set j v)) e2 ⟨_,aB,(rs.set j rv).mono st⟩) q⟩
 ·cases WA.mp ro
  let ro':=rm _ _ e1
  cases t with
  |false=>let⟨ps,L,pr⟩:=ro';let⟨kq,F⟩:=pD (show fS i=WX from e2);let st:Stab H (upd H a (.dK (cu ps kq vv))):=rm.stabPut e1;let B:=pY (RK:=RKey) RKey.inj RKey.fun F rv pr;rw[lj F ri];refine .inr ⟨a,_,rfl,DPut.k L (by rw[<-OD pr];show G),J _ _ (Ext.put e1) (rm.put (o:=.dct WY (gH kvs i v)) e1 ⟨_,aB,WD B λ_ _ z=>⟨z.1,z.2.mono st⟩⟩) q⟩
  |true=>
   let⟨ps,L,pr⟩:=ro';let⟨kq,F⟩:=sC (show dw i=WX from e2);let st:Stab H (upd H a (.dT (cu ps kq vv))):=rm.stabPut e1;let B:=pY (RK:=RKeys) RKeys.inj RKeys.fun F rv pr
   cases i<;>first
    |show F.elim
    | (let⟨b,us,rfl,O,ru⟩:=WQ (sD e2) ri
       rw[jj F ru]at O;show .inr ⟨a,_,rfl,DPut.t L O (by rw[<-OD pr];show G),J _ _ (Ext.put e1) (rm.put (o:=.dct WX (gH kvs _ v)) e1 ⟨_,aB,WD B λ_ _ z=>⟨z.1,z.2.mono st⟩⟩) q⟩)
def Eo {o i:Expr}{ti:TEd}{tpos:Pos}(hu:X.A.units+1<NW)(me:ae te)(mo:ae to)(mi:ae ti)(he:PE X e (lE X.K te))(ho:PE X o (lE X.K to))(hi:PE X i (lE X.K ti))(hs:OZ [.Subscript o i tpos] e pos.line X.env=pure WY)(hw:NP [.Subscript o i tpos] e X.env=pure Y)(ha:∀v,assign (.Subscript o i tpos) X.env v=(do
   let ov <-holding [v] (eval o X.env)
   let iv <-holding [v,ov] (eval i X.env)
   QC tpos
   holding [v,ov,iv] (T7 ov iv v)
   release [v,ov,iv] [])):PS X (.Assign [.Subscript o i tpos] e pos) (lS X.K (uF te to ti)):=by
 calc PS.imp (jP he (jO ho hi (PSet.or oP (pX hu)) ha) hs hw rfl) λD σ H h=>?_;let⟨ρ,M,A,rs,rm,l,q⟩:=h;calc⟨ρ,M,rs,rm,me _ _ _ _ (λv M1 q1 vv H1 F j G=>?_) q⟩;calc⟨ρ,M1,rs.mono (F.stab rm),j,mo _ _ _ _ (λov M2 q2 vo H2 J z L=>?_) q1⟩;calc⟨ρ,M2,(rs.mono (F.stab rm)).mono (J.stab j),z,mi _ _ _ _ (λiv M3 q3 vi H3 O U F3=>?_) q2⟩;let B:=F.trans (J.trans O);show jo U (L.mono (O.stab z)) F3 ((G.mono (J.stab j)).mono (O.stab z)) q3 λM' H' x4 Z q4=>l.nx ρ M' σ H' (B.trans x4) (rs.mono ((B.trans x4).stab rm)) Z q4
end
end
end Mi
namespace Mi
variable{K:Frag}
def wQ{ta:TAd}{i j:Nat}(m:bd ta)(D:bJ)(σ:St)(H:Hp)(h:lS K (uz ta (bW (b6 i) (bW (b6 j) gK))) D σ H):DH i j (lA K ta) D σ H:=by
 let⟨ρ,M,A,rs,rm,l,q⟩:=h;calc⟨ρ,M,rs,rm,m _ _ _ _ (λds G g9 vs H1 F B z=>?_) q⟩;let⟨ρ',e,J⟩:=g9
 match ds,e,z with
 |[d1,d2],e,z=>let⟨v,u,rfl,L,O⟩:=z.two;simp only[bW,b6,gK,R4,Sv]at e;subst e;show⟨v,u,rfl,l.nx _ G _ H1 F (((rs.mono (F.stab rm)).set i L).set j O) B J⟩
end Mi
namespace Mi
end Mi
namespace Mi
variable{A:Mq}{s:tv}{v:V}{b:Bool}{H:Hp}{u:gV}{r r':R2d}{ta tb tc:TEd}{pos:Pos}
section
section
variable{X:Cx}
abbrev isD:D->D->Option Bool
 |x,.non=>S (match x with|.non=>WX|_=>WY)
 |x,.bl b=>S (match x with|.bl c=>c==b|_=>WY)
 |_,_=>Y
abbrev wIs:R2d:=λx y M Q=>∃k,isD x y=S k/\Q (.bl k) M
abbrev lw:R2d:=λx y M Q=>∃k,isD x y=S k/\Q (.bl (!k)) M
def C9:aE wIs:=λ_ _ _ _ _ h j=>(by let⟨k,e,q⟩:=j;show⟨k,e,h _ _ q⟩)
def zN:aE lw:=λ_ _ _ _ _ h j=>(by let⟨k,e,q⟩:=j;show⟨k,e,h _ _ q⟩)
def Ca{M:QB}{E Q:gV->tv->Prop}{v:gV}(j:∀id,v≠.builtin id)(h:Q (.bool (v==.bool b)) s):LD M A (Mu .Is v (.bool b)) Q E s:=by cases v<;>first|show D2 h|show absurd rfl (j _)
def zO{M:QB}{E Q:gV->tv->Prop}{v:gV}(j:∀id,v≠.builtin id)(h:Q (.bool (!(v==.bool b))) s):LD M A (Mu .IsNot v (.bool b)) Q E s:=by cases v<;>first|show D2 h|show absurd rfl (j _)
def wR{K:Frag}{x y:D}{w:V}{t:gV}{k:Bool}(e:isD x y=S k)(rx:RD K H x v)(ry:RD K H y w)(ru:RelV v u)(rt:RelV w t):(t=.none/\(u==.none)=k)∨∃b,t=.bool b/\(u==.bool b)=k/\∀id,u≠.builtin id:=by
 cases y with
 |non=>
  cases WH.mp ry
  cases rt
  refine .inl ⟨rfl,?_⟩
  cases x with
  |non=>cases WH.mp rx;cases ru;cases e;rfl
  |bl c=>cases WB.mp rx;cases ru;cases e;rfl
  |int i=>cases Wz.mp rx;let⟨tk,rfl⟩:=ru;cases e;rfl
  |str z=>cases WI.mp rx;let⟨tk,rfl⟩:=ru;cases e;rfl
  |tup ds=>let⟨a,vs,rfl,_⟩:=WE rx;cases ru;cases e;rfl
  |con ds=>let⟨a,vs,rfl,_⟩:=WG.mp rx;cases ru;cases e;rfl
  |ref a=>cases WA.mp rx;cases ru;cases e;rfl
  |fn z=>let⟨a,rfl,_⟩:=WV.mp rx;cases ru;cases e;rfl
 |bl b=>
  cases WB.mp ry
  cases rt
  refine .inr ⟨b,rfl,?_⟩
  cases x with
  |non=>cases WH.mp rx;cases ru;cases e;show⟨rfl,λ_ z=>by cases z⟩
  |bl c=>cases WB.mp rx;cases ru;cases e;show⟨by cases b<;>cases c<;>rfl,λ_ z=>by cases z⟩
  |int i=>cases Wz.mp rx;let⟨tk,rfl⟩:=ru;cases e;show⟨rfl,λ_ z=>by cases z⟩
  |str z=>cases WI.mp rx;let⟨tk,rfl⟩:=ru;cases e;show⟨rfl,λ_ z=>by cases z⟩
  |tup ds=>let⟨a,vs,rfl,_⟩:=WE rx;cases ru;cases e;show⟨rfl,λ_ z=>by cases z⟩
  |con ds=>let⟨a,vs,rfl,_⟩:=WG.mp rx;cases ru;cases e;show⟨rfl,λ_ z=>by cases z⟩
  |ref a=>cases WA.mp rx;cases ru;cases e;show⟨rfl,λ_ z=>by cases z⟩
  |fn z=>let⟨a,rfl,_⟩:=WV.mp rx;cases ru;cases e;show⟨rfl,λ_ z=>by cases z⟩
 |_=>cases e
def Cb:OpR X (Mu .Is) (l2 X.K wIs):=by
 intro pins s σ H v w u t Q I ru rt h;let⟨x,y,M,rm,rx,ry,k,e,q⟩:=h;let fin:EP X pins σ Q (.bool k) s:=⟨.bl k,H,I,rfl,q _ H Ext.refl rm (WB.mpr rfl)⟩
 rcases wR e rx ry ru rt with⟨rfl,e2⟩|⟨b,rfl,e2,nb⟩
 ·show is_none_gen (by rw[e2];show fin)
 ·show Ca nb (by rw[e2];show fin)
def zP:OpR X (Mu .IsNot) (l2 X.K lw):=by
 intro pins s σ H v w u t Q I ru rt h;let⟨x,y,M,rm,rx,ry,k,e,q⟩:=h;let fin:EP X pins σ Q (.bool (!k)) s:=⟨.bl (!k),H,I,rfl,q _ H Ext.refl rm (WB.mpr rfl)⟩
 rcases wR e rx ry ru rt with⟨rfl,e2⟩|⟨b,rfl,e2,nb⟩
 ·show isnot_none_gen (by rw[e2];show fin)
 ·show zO nb (by rw[e2];show fin)
abbrev dy(r r':R2d)(ta tb tc:TEd):TEd:=λρ M Q=>ta ρ M λx M1=>tb ρ M1 λy M2=>r x y M2 λz M3=>∃k,z=.bl k/\(if k=WX then tc ρ M3 λw M4=>r' y w M4 Q else Q (.bl WY) M3)
def fV(hr:aE r)(B:aE r')(F:ae ta)(G:ae tb)(J:ae tc):ae (dy r r' ta tb tc):=λρ M Q Q' i q=>
 F _ _ _ _ (λx F3 L=>G _ _ _ _ (λy M2 O=>hr _ _ _ _ _ (λz Z ⟨k,e,j⟩=>⟨k,e,by
  cases k with
  |true=>rw[if_pos rfl]at j⊢;show J _ _ _ _ (λw M4 U=>B _ _ _ _ _ i U) j
  |false=>rw[if_neg Lq]at j⊢;show i _ _ j⟩) O) L) q
def kA(hr:aE r)(F3:aE r')(ma:ae ta)(mb:ae tb)(mc:ae tc)(σ:St)(H:Hp)(Q:VK)(h:lE X.K (dy r r' ta tb tc) σ H Q):oM (l2 X.K r) (l2 X.K r') (lE X.K ta) (lE X.K tb) (lE X.K tc) σ H Q:=by
 let⟨ρ,M,rs,rm,q⟩:=h;calc⟨ρ,M,rs,rm,ma _ _ _ _ (λx M1 q1 v H1 J j Z=>?_) q⟩;calc⟨ρ,M1,rs.mono (J.stab rm),j,mb _ _ _ _ (λy M2 q2 w H2 L B G=>?_) q1⟩;calc⟨x,y,M2,B,Z.mono (L.stab j),G,hr _ _ _ _ _ (λz M3 g9 v3 H3 U F Ja=>?_) q2⟩;let⟨k,e,O⟩:=g9;subst e;refine⟨k,WB.mp Ja,?_⟩
 cases k with
 |true=>rw[if_pos rfl]at O⊢;calc⟨ρ,M3,(((rs.mono (J.stab rm)).mono (L.stab j)).mono (U.stab B)),F,mc _ _ _ _ (λw4 M4 q4 v4 H4 x4 Jb Jc=>?_) O⟩;show⟨y,w4,M4,Jb,(G.mono (U.stab B)).mono (x4.stab F),Jc,F3 _ _ _ _ _ (λd M5 k5=>k5.ext (((J.trans L).trans U).trans x4)) q4⟩
 |false=>rw[if_neg Lq]at O⊢;show O (.bl WY) H3 ((J.trans L).trans U) F (WB.mpr rfl)
abbrev jq:D->Option Bool
 |.bl b=>S b
 |.int i=>S (i != 0)
 |_=>Y
abbrev pZ:RAd:=λxs M Q=>∃x ds ts,xs=[x]/\aC M x=S ds/\aD jq ds=S ts/\Q (.bl (ts.all id)) M
abbrev uG:RAd:=λxs M Q=>∃x ds ts,xs=[x]/\aC M x=S ds/\aD jq ds=S ts/\Q (.bl (ts.any id)) M
def q8:b8 pZ:=λ_ _ _ _ h j=>(by let⟨x,ds,ts,e,e1,e2,q⟩:=j;show⟨x,ds,ts,e,e1,e2,h _ _ q⟩)
def q9:b8 uG:=λ_ _ _ _ h j=>(by let⟨x,ds,ts,e,e1,e2,q⟩:=j;show⟨x,ds,ts,e,e1,e2,h _ _ q⟩)
def qc{α β:Type}{f:α->Option β}:∀{xs:List α} {ys:List β},aD f xs=S ys->ys.length=xs.length/\∀(i:Nat) x,xs[i]?=S x->∃y,ys[i]?=S y/\f x=S y
 |[],ys,h=>by cases h;show⟨rfl,λi x e=>by simp at e⟩
 |x::xs,ys,h=>by
  simp only[aD]at h
  cases e1:f x with
  |none=>rw[e1]at h;cases h
  |some y=>
   rw[e1]at h;simp only[R4]at h
   cases e2:aD f xs with
   |none=>rw[e2]at h;cases h
   |some r=>
    rw[e2]at h;cases h;let⟨l,g⟩:=qc e2;refine⟨by simp[l],λi z e=>?_⟩
    cases i with
    |zero=>simp at e;subst e;show⟨y,rfl,e1⟩
    |succ i=>simp at e;simpa using g i z e
def Cc{P:LR}{w:Mn}{E:gV->tv->Prop}{K:Frag}{d:D}{Q:Bool->tv->Prop}(e:jq d=S b)(rd:RD K H d v)(ru:RelV v u)(q:Q b s):LD (model P w) A (truthy u) Q E s:=by
 cases d with
 |bl c=>cases WB.mp rd;cases ru;cases e;show Nu q
 |int i=>cases Wz.mp rd;let⟨t,rfl⟩:=ru;cases e;show PyProof.Rows.truthy_int q
 |_=>cases e
def range_all{ts:List Bool}:(LO ts.length).all (λi=>ts.getD i WY)=ts.all id/\(LO ts.length).any (λi=>ts.getD i WY)=ts.any id:=by
 let e:(LO ts.length).map (λi=>ts.getD i WY)=ts:=by
  apply List.ext_getElem
  ·simp
  ·intro i h1 h2;simp[MQ,D1 h2]
 constructor
 ·conv=>rhs;rw[<-e]
  rw[List.all_map];rfl
 ·conv=>rhs;rw[<-e]
  rw[List.any_map];rfl
def qd(J:X.calm=WX){pins:List (WZ×Obj)}{σ:St}{M:Mem}{x:D}{ds:List D}{ts:List Bool}{Q:gV->tv->Prop}{g:List Bool->Bool}(I:Inv X pins σ H s)(rm:RM X.K M H)(rd:RD X.K H x v)(ru:RelV v u)(e1:aC M x=S ds)(e2:aD jq ds=S ts)(fin:∀h' tk,Inv X pins σ H {s with heap:=h',toks:=tk}->Q (.bool (g ts)) {s with heap:=h',toks:=tk})(gg:Nat->(Nat->Bool)->Bool)(L:gg ts.length (λi=>ts.getD i WY)=g ts):
 LD (model X.prog X.w) X.A.in1 (Sx u) (λit s₂=>∃I fp wr n P St tr,it=.ref I/\Walks X.prog X.w X.A.in1 I fp wr n P St/\St 0 s₂.heap/\TruthOf X.prog X.w X.A.in1 P tr /\
  ∀h' tk,(∀b o,b∉wr->s₂.heap.get? b=S o->h'.get? b=S o)->Q (.bool (gg n tr)) {s₂ with heap:=h',toks:=tk}) X.xe s:=by
 let⟨p,vs,rfl,sq,O⟩:=kl rm rd e1
 cases ru
 let⟨lt,get⟩:=qc e2;let lv:=O.length;let tr:∀(its:List gV),Vals vs its->TruthOf X.prog X.w X.A.in1 (λi w=>its.toArray[i]?=S w) (λi=>ts.getD i WY):=by
  intro its rv i w s' Q' E' U B;let q:its[i]?=S w:=by simpa using U
  let li:=rv.length;let hi:i<its.length:=(J4.mp q).1;obtain⟨d,hd⟩:∃d,ds[i]?=S d:=⟨ds[i]'∅,D1 ∅⟩
  let⟨v',F,rd'⟩:=O.get hd;let⟨u',z,ru'⟩:=rv.get F;rw[q]at z;cases z;let⟨b,F3,eb⟩:=get i d hd;let:ts.getD i WY=b:=by rw[MQ,F3];rfl
  let B:Q' (ts.getD i WY) s':=B;rw[this]at B;show Cc eb rd' ru' B
 rcases sq with sq|sq
 ·let⟨its,rv,pl,hz⟩:=I.list sq;let li:=rv.length;let j:p<s.heap.objs.size:=by let⟨o,n,e,_⟩:=pl;show LB e
  refine Oq pl.isList ⟨s.heap.objs.size,_,_,_,_,_,_,rfl,Walks.list (by rw[UM];show I.ok.hd J) s.heap.objs.size p (Mh j) its.toArray,⟨⟨_,Lu _ rfl,rfl,rfl⟩,pl.isList.at λo e=>h7 _ e⟩,tr its rv,λh' tk k=>?_⟩
  let G:its.toArray.size=ts.length:=by rw[LA];lia
  rw[G,L];show fin h' tk (I.kept (t':=tk) λb o e=>k b o (by simp;show Mh (LB e)) (h7 _ e))
 ·let⟨its,rv,pl,hz⟩:=I.tuple sq;let li:=rv.length;let j:p<s.heap.objs.size:=by let⟨o,e,_⟩:=pl;show LB e
  let pt:s.heap.IsTuple p its.toArray:=pl;refine NV pt ⟨s.heap.objs.size,_,_,_,_,_,_,rfl,Walks.tuple (by rw[UM];show I.ok.hd J) s.heap.objs.size p (Mh j) its.toArray,⟨⟨_,Lu _ rfl,rfl,rfl⟩,pt.push _⟩,tr its rv,λh' tk k=>?_⟩
  let G:its.toArray.size=ts.length:=by rw[LA];lia
  rw[G,L];show fin h' tk (I.kept (t':=tk) λb o e=>k b o (by simp;show Mh (LB e)) (h7 _ e))
def uH(j:X.calm=WX):CallR X (.builtin "all") (lR X.K pZ):=by intro pins s σ H xs us Q I rv h;let⟨ds,M,rm,rs,x,es,ts,rfl,e1,e2,q⟩:=h;let⟨v,rfl,r⟩:=rs.one;let⟨u,rfl,ru⟩:=cO rv;show call_all_walk (qd j I rm r ru e1 e2 (g:=λts=>ts.all id) (λh' tk I'=>⟨.bl _,H,I',rfl,q _ H Ext.refl rm (WB.mpr rfl)⟩) (λn tr=>(LO n).all tr) range_all.1)
def uI(j:X.calm=WX):CallR X (.builtin "any") (lR X.K uG):=by intro pins s σ H xs us Q I rv h;let⟨ds,M,rm,rs,x,es,ts,rfl,e1,e2,q⟩:=h;let⟨v,rfl,r⟩:=rs.one;let⟨u,rfl,ru⟩:=cO rv;show call_any_walk (qd j I rm r ru e1 e2 (g:=λts=>ts.any id) (λh' tk I'=>⟨.bl _,H,I',rfl,q _ H Ext.refl rm (WB.mpr rfl)⟩) (λn tr=>(LO n).any tr) range_all.2)
abbrev oj(t:Bool):TEd:=λ_ M Q=>∀p,M p=Y->Q (.ref p) (ad M p (.dct t []))
def wU{t:Bool}:ae (oj t):=λ_ _ _ _ i q p n=>i _ _ (q p n)
def Cd{t:Bool}:PE X (.Dict [] [] pos) (lE X.K (oj t)):=by
 cases t with
 |false=>calc PE.imp za λσ H Q g9 p n=>?_;let⟨ρ,M,rs,rm,q⟩:=g9;show q p (rm.out n) (.ref p) _ (Ext.lay n) (rm.lay n ⟨[],aB,.nil⟩) (WA.mpr rfl)
 |true=>calc PE.imp zb λσ H Q g9 p n=>?_;let⟨ρ,M,rs,rm,q⟩:=g9;show q p (rm.out n) (.ref p) _ (Ext.lay n) (rm.lay n ⟨[],aB,.nil⟩) (WA.mpr rfl)
def zQ{op op':Uk}{a b c:Expr}(ho:OpR X (Mu op) (l2 X.K r))(j:OpR X (Mu op') (l2 X.K r'))(hr:aE r)(q:aE r')(ma:ae ta)(mb:ae tb)(mc:ae tc)(z:PE X a (lE X.K ta))(B:PE X b (lE X.K tb))(F:PE X c (lE X.K tc))(hm:SI [op,op'] [b,c]=WY):PE X (.Compare a [op,op'] [b,c] pos) (lE X.K (dy r r' ta tb tc)):=PE.imp (yL ho j z B F hm) (kA hr q ma mb mc)
def zR{op op':Uk}{a b c:Expr}(ho:OpR X (Mu op) (l2 X.K r))(q:OpR X (Mu op') (l2 X.K r'))(hr:aE r)(j:aE r')(ma:ae ta)(mb:ae tb)(mc:ae tc)(z:PE X a (lE X.K ta))(B:PE X b (lE X.K tb))(F:PE X c (lE X.K tc))(hm:SI [op,op'] [b,c]=WY):PT X (.Compare a [op,op'] [b,c] pos) (lT X.K (cv (dy r r' ta tb tc))):=PT.imp (yM ho q z B F hm) λσ H Q h=>kA hr j ma mb mc σ H _ (pG (fV hr j ma mb mc) σ H Q h)
end
end
end Mi
namespace Srt
structure Cm(prog:LR)(w:Mn)(A:Mq)(s:tv)(kd:Qj)(P:Lx->Prop)(lt:Lx->Lx->Bool):Prop where
 asym:∀x y,lt x y=WX->lt y x=WY
 neg:∀x y z,lt x z=WX->lt x y=WX∨lt y z=WX
 run:∀(x y:Lx) (E:gV->tv->Prop) (Q:Bool->tv->Prop),P x->P y->Q (lt x y) s->LD (LN prog w) A (keyLt' kd x.1 y.1) Q E s
variable{M:QB}{x y:Lx}{st:MY}{i:Nat}
section
variable{prog:LR}{w:Mn}{A:Mq}{E:gV->tv->Prop}{s:tv}{kd:Qj}{P:Lx->Prop}{lt:Lx->Lx->Bool}
def ab{σ α:Type}{x:α}{st:σ}{Q:α->σ->Prop}(q:Q x st):wpS M A E s (pure x) Q st:=λ_ _ _=>⟨rfl,q⟩
def de{σ:Type}{tag:String}{st:σ}{Q:Unit->σ->Prop}(q:Q () st):wpS M A E s (liftM (PySem.rule tag)) Q st:=wpS_lift (NI ⟨rfl,q⟩)
def Ce{σ:Type}{st st':σ}{Q:PUnit->σ->Prop}(q:Q PUnit.unit st'):wpS M A E s (set st') Q st:=λ_ _ _=>⟨rfl,q⟩
def kB(c:Cm prog w A s kd P lt){Q:Option Bool->MY->Prop}(j:NJ st=kd)(hx:P x)(z:P y)(q:Q (S (lt x y)) st):wpS (LN prog w) A E s (lt' x y) Q st:=by rw[lt'_eq];calc Lr (Qs ?_);calc Lr (wpS_lift ?_);rw[j];intro Γ p hp;rw[Sem.wp_attempt];show c.run x y (λe s'=>s'=s/\wpS (LN prog w) A E s (do modify λs=>R5 (NJ s) (Mx s) (LM s) (gallopOf s) (S e);pure Y) Q st) (λb s'=>s'=s/\wpS (LN prog w) A E s (pure (S b)) Q st) hx z ⟨rfl,ab q⟩ Γ p hp
def aG{arr:Array Lx}{Q:Lx->MY->Prop}(h:arr[i]?=S x)(q:Q x st):wpS (LN prog w) A E s (elem' arr i) Q st:=by rw[elem'_eq,h];show ab q
def Cm.le_trans(c:Cm prog w A s kd P lt){z:Lx}(h:lt y x=WY)(h2:lt z y=WY):lt z x=WY:=by
 cases e:lt z x with
 |false=>rfl
 |true=>rcases c.neg z y x e with q|q<;>simp_all
def Cm.irr(c:Cm prog w A s kd P lt):lt x x=WY:=by
 cases e:lt x x with
 |false=>rfl
 |true=>let:=c.asym x x e;rw[e]at this;show this
def aH{σ α:Type}{m:StateT σ Sem α}{st:σ}{Q Q':α->σ->Prop}(h:wpS M A E s m Q st)(q:∀a st',Q a st'->Q' a st'):wpS M A E s m Q' st:=NH h (λa s' z=>⟨z.1,q _ _ z.2⟩) λ_ _ z=>z
end
noncomputable abbrev Ep:=Bool->Lx->Array Lx->Nat->Nat->Nat->StateT MY Sem (Option Nat)
noncomputable abbrev Er:=Array Lx->Array Lx->StateT MY Sem (Array Lx)
abbrev bey(lt:Lx->Lx->Bool)(left:Bool)(key x:Lx):Bool:=if left=WX then lt x key else !(lt key x)
structure Same(st st':MY):Prop where
 arr:Mx st'=Mx st
 kind:NJ st'=NJ st
 pend:LM st'=LM st
 fail:Oy st'=Oy st
abbrev iu(prog:LR)(w:Mn)(A:Mq)(E:gV->tv->Prop)(s:tv)(kd:Qj)(P:Lx->Prop)(lt:Lx->Lx->Bool)(g:Ep):Prop:=
 ∀(left:Bool) (key:Lx) (arr:Array Lx) (L xs R:List Lx) (base n hint:Nat) (st:MY) (Q:Option Nat->MY->Prop),NJ st=kd->P key->arr.toList=L++xs++R->base=L.length->n=xs.length->(∀x∈xs,P x)->hint<n->
  xs.Pairwise (λx y=>lt y x=WY)->
  (∀X F3,xs=X++F3->(∀x∈X,bey lt left key x=WX)->(∀x∈F3,bey lt left key x=WY)->Q (S X.length) st)->
  wpS (LN prog w) A E s (g left key arr base n hint) Q st
abbrev iw(prog:LR)(w:Mn)(A:Mq)(E:gV->tv->Prop)(s:tv)(kd:Qj)(P:Lx->Prop)(lt:Lx->Lx->Bool)(m:Er):Prop:=
 ∀(a b:Array Lx) (st:MY) (Q:Array Lx->MY->Prop),NJ st=kd->(∀x∈a.toList,P x)->(∀x∈b.toList,P x)->0<a.size->0<b.size->
  a.toList.Pairwise (λx y=>lt y x=WY)->b.toList.Pairwise (λx y=>lt y x=WY)->(∀x y,a[0]?=S x->b[0]?=S y->lt x y=WY)->(∀x y,a[a.size-1]?=S x->b[b.size-1]?=S y->lt x y=WY)->
  (∀r st',r.toList.Perm (a.toList++b.toList)->r.toList.Pairwise (λx y=>lt y x=WY)->Same st st'->Q r st')->
  wpS (LN prog w) A E s (m a b) Q st
variable{left:Bool}{key:Lx}{j ia ib n na nb:Nat}{xs X l F3 la lb:List Lx}{a b:Array Lx}
section
variable{prog:LR}{w:Mn}{A:Mq}{E:gV->tv->Prop}{s:tv}{kd:Qj}{P:Lx->Prop}{lt:Lx->Lx->Bool}
def gS(c:Cm prog w A s kd P lt){arr:Array Lx}{Q:Option Bool->MY->Prop}(z:NJ st=kd)(hx:P key)(B:P x)(e:arr[j]?=S x)(q:Q (S (bey lt left key x)) st):
 wpS (LN prog w) A E s (do
  let x <-elem' arr j
  if left=WX then lt' x key else do
   let r <-lt' key x
   pure (Option.map (λx=>!x) r)) Q st:=by
 refine Lr (aG e ?_)
 cases left with
 |true=>show kB c z B hx q
 |false=>show Lr (kB c z hx B (ab q))
def qe(c:Cm prog w A s kd P lt)(h:lt y x=WY)(j:bey lt left key y=WX):bey lt left key x=WX:=by
 unfold bey at j⊢
 cases left with
 |true=>
  rw[if_pos rfl]at j⊢
  rcases c.neg y x key j with q|q
  ·rw[h]at q;cases q
  ·show q
 |false=>
  simp at j⊢
  cases e:lt key x with
  |false=>rfl
  |true=>
   rcases c.neg key y x e with q|q
   ·rw[j]at q;cases q
   ·rw[h]at q;cases q
structure Gal(lt:Lx->Lx->Bool)(left:Bool)(key:Lx)(xs:List Lx)(lo hi:Nat):Prop where
 le:lo<=hi
 len:hi<=xs.length
 up:∀i x,i<lo->xs[i]?=S x->bey lt left key x=WX
 dn:∀i x,hi<=i->xs[i]?=S x->bey lt left key x=WY
def fA{R:Lx->Lx->Prop}(h:xs.Pairwise R)(q:i<j)(hx:xs[i]?=S x)(z:xs[j]?=S y):R x y:=by let⟨h1,e1⟩:=J4.mp hx;let⟨h2,e2⟩:=J4.mp z;rw[<-e1,<-e2];show Sg.mp h i j h1 h2 q
def iy(c:Cm prog w A s kd P lt)(h:xs.Pairwise (λx y=>lt y x=WY))(q:xs[j]?=S y)(z:bey lt left key y=WX):∀i x,i<j+1->xs[i]?=S x->bey lt left key x=WX:=by
 intro i x hi hx
 by_cases e:i=j
 ·subst e;rw[hx]at q;cases q;show z
 ·show qe c (fA h ∅ hx q) z
def iz(c:Cm prog w A s kd P lt)(h:xs.Pairwise (λx y=>lt y x=WY))(z:xs[j]?=S y)(B:bey lt left key y=WY):∀i x,j<=i->xs[i]?=S x->bey lt left key x=WY:=by
 intro i x hi hx
 by_cases e:i=j
 ·subst e;rw[hx]at z;cases z;show B
 ·cases q:bey lt left key x with
  |false=>rfl
  |true=>let:=qe c (fA h ∅ z hx) q;rw[B]at this;cases this
def Gal.out{k:Nat}(g:Gal lt left key xs k k):∃X F3,xs=X++F3/\X.length=k/\(∀x∈X,bey lt left key x=WX)/\(∀x∈F3,bey lt left key x=WY):=by
 refine⟨xs.take k,xs.drop k,(MV k xs).symm,by rw[LS];show NU g.len,λx hx=>?_,λx hx=>?_⟩
 ·let⟨i,hi,e⟩:=Oi.mp hx;rw[LS]at hi;show g.up i x ∅ (by rw[List.getElem_take]at e;rw[<-e];show D1 _)
 ·let⟨i,hi,e⟩:=Oi.mp hx;rw[NX]at hi;refine g.dn (k+i) x ∅ ?_
  rw[List.getElem_drop]at e;rw[<-e];show D1 _
noncomputable abbrev Ord(lt:Lx->Lx->Bool)(l:List Lx):Prop:=l.Pairwise λx y=>lt y x=WY
def qf{out A' B:List Lx}(h1:Ord lt (out++(X++A')))(h2:Ord lt (out++B))(h:∀x∈X,∀y∈B,lt y x=WY):Ord lt ((out++X)++A')/\Ord lt ((out++X)++B):=by
 refine⟨by rw[LH];show h1,?_⟩
 rw[LH];let⟨j,q,F⟩:=Lp.mp h1;let⟨O,p2,G⟩:=Lp.mp h2;let⟨J,U,F3⟩:=Lp.mp q;refine Lp.mpr ⟨j,Lp.mpr ⟨J,p2,h⟩,λx hx y L=>?_⟩
 rcases Lv.mp L with z|z
 ·show F x hx y (N7 _ z)
 ·show G x hx y z
structure ML(lt:Lx->Lx->Bool)(la lb out:List Lx)(ia ib:Nat):Prop where
 pa:Ord lt (out++la.drop ia)
 pb:Ord lt (out++lb.drop ib)
 pm:(out++(la.drop ia++lb.drop ib)).Perm (la++lb)
def sQ(c:Cm prog w A s kd P lt)(h:Ord lt (l.drop i))(j:l[i]?=S y)(hx:lt y x=WY):∀z∈l.drop i,lt z x=WY:=by
 let⟨hi,e⟩:=J4.mp j;rw[MK hi,e]at h⊢;intro z hz
 rcases Lw.mp hz with q|q
 ·rw[q];show hx
 ·show c.le_trans hx ((S8.mp h).1 z q)
def eE(e:l.drop i=X++F3):l.drop (i+X.length)=F3:=by rw[<-QM,e,TY]
def ML.galA(c:Cm prog w A s kd P lt){out:List Lx}(m:ML lt la lb out ia ib)(e:la.drop ia=X++F3)(j:lb[ib]?=S y)(h:∀x∈X,lt y x=WY):ML lt la lb (out++X) (ia+X.length) ib:=by
 let p2:=(Lp.mp m.pb).2.1;let q:=qf (X:=X) (A':=F3) (by rw[<-e];show m.pa) m.pb λx hx=>sQ c p2 j (h x hx)
 refine⟨by rw[eE e];show q.1,q.2,?_⟩
 rw[eE e];calc OH.trans (PF ?_) m.pm;rw[e];simp
def ML.galB(c:Cm prog w A s kd P lt){out:List Lx}(m:ML lt la lb out ia ib)(e:lb.drop ib=X++F3)(j:la[ia]?=S y)(h:∀x∈X,lt y x=WY):ML lt la lb (out++X) ia (ib+X.length):=by
 let p2:=(Lp.mp m.pa).2.1;let q:=qf (X:=X) (A':=F3) (by rw[<-e];show m.pb) m.pa λx hx=>sQ c p2 j (h x hx)
 refine⟨q.2,by rw[eE e];show q.1,?_⟩
 rw[eE e];calc OH.trans ?_ m.pm;rw[e,LH];calc MW _ ?_;rw[<-LH,<-LH];show Na _ PR
def eF(h:l[i]?=S x):l.drop i=[x]++l.drop (i+1):=by let⟨hi,e⟩:=J4.mp h;rw[MK hi,e];rfl
def ML.pushA(c:Cm prog w A s kd P lt){out:List Lx}(m:ML lt la lb out ia ib)(hx:la[ia]?=S x)(j:lb[ib]?=S y)(h:lt y x=WY):ML lt la lb (out++[x]) (ia+1) ib:=m.galA c (eF hx) j (by simpa using h)
def ML.pushB(c:Cm prog w A s kd P lt){out:List Lx}(m:ML lt la lb out ia ib)(hx:la[ia]?=S x)(j:lb[ib]?=S y)(h:lt x y=WY):ML lt la lb (out++[y]) ia (ib+1):=m.galB c (eF j) hx (by simpa using h)
abbrev Res(lt:Lx->Lx->Bool)(la lb r:List Lx):Prop:=r.Perm (la++lb)/\Ord lt r
def ML.fin{out:List Lx}(m:ML lt la lb out ia ib)(h:lb.length<=ib):Res lt la lb (out++la.drop ia++lb.drop ib):=by rw[OC h,MN];calc⟨?_,m.pa⟩;let:=m.pm;rw[OC h,MN]at this;show this
def ML.finE{out:List Lx}(m:ML lt la lb out ia ib)(h:la.length<=ia):Res lt la lb (out++la.drop ia++lb.drop ib):=by rw[OC h,MN];calc⟨?_,m.pb⟩;let:=m.pm;rw[OC h,Tq]at this;show this
def ML.finA{out:List Lx}(m:ML lt la lb out ia ib)(h:∀x∈lb,∀y∈la.drop ia,lt y x=WY):Res lt la lb (out++lb.drop ib++la.drop ia):=by
 refine⟨?_,?_⟩
 ·calc OH.trans ?_ m.pm;rw[LH];show MW _ PR
 ·let⟨F,q,B⟩:=Lp.mp m.pa;refine Lp.mpr ⟨m.pb,q,λx hx y j=>?_⟩
  rcases Lv.mp hx with z|z
  ·show B x z y j
  ·show h x (OW z) y j
def ML.size{out:List Lx}(m:ML lt la lb out ia ib)(j:ia<=la.length)(q:ib<=lb.length):out.length=ia+ib:=by let:=m.pm.length_eq;simp only[I7,NX]at this;lia
def aK(h:i<a.size):∃x,a[i]?=S x/\a.toList[i]?=S x/\x∈a.toList:=by calc⟨a[i],Mm h,?_,Array.getElem_mem_toList h⟩;rw[Ma];show Mm h
def bO:(a.extract i).toList=a.toList.drop i:=by rw[Oj];simp only[QN];show NF (_)
def Cf(e:a.toList.drop i=X++F3):(a.extract i (i+X.length)).toList=X:=by rw[Oj];simp[QN,e]
def Same.refl:Same st st:=⟨rfl,rfl,rfl,rfl⟩
def Same.trans{a b c:MY}(h:Same a b)(g:Same b c):Same a c:=⟨g.arr.trans h.arr,g.kind.trans h.kind,g.pend.trans h.pend,g.fail.trans h.fail⟩
def n8{O A' B:List Lx}(h1:Ord lt (A'++(F3++O)))(h2:Ord lt (B++O))(h:∀y∈F3,∀x∈B,lt y x=WY):Ord lt (B++(F3++O)):=by
 let⟨J,j,L⟩:=Lp.mp h1;let⟨q,p2,F⟩:=Lp.mp h2;refine Lp.mpr ⟨q,j,λx hx y G=>?_⟩
 rcases Lv.mp G with z|z
 ·show h y z x hx
 ·show F x hx y z
structure MH(lt:Lx->Lx->Bool)(la lb out:List Lx)(na nb:Nat):Prop where
 pa:Ord lt (la.take na++out.reverse)
 pb:Ord lt (lb.take nb++out.reverse)
 pm:(la.take na++lb.take nb++out.reverse).Perm (la++lb)
def iA(c:Cm prog w A s kd P lt)(h:Ord lt (l.take n))(F:0<n)(B:l[n-1]?=S y)(hx:lt x y=WY):∀z∈l.take n,lt x z=WY:=by
 intro z hz;let⟨i,hi,e⟩:=Oi.mp hz;let j:(l.take n)[i]?=S z:=by rw[<-e];show D1 hi
 let q:(l.take n)[n-1]?=S y:=by rw[Qe ∅];show B
 rw[LS]at hi
 by_cases hin:i=n-1
 ·subst hin;rw[q]at j;cases j;show hx
 ·show c.le_trans (fA h ∅ j q) hx
def eG(e:l.take n=X++F3):l.take X.length=X:=by
 let h:X.length<=n:=by let:=congrArg OE e;simp only[LS,I7]at this;lia
 let h2:(l.take n).take X.length=X:=by rw[e,TZ]
 rw[List.take_take,NU h]at h2;show h2
def MH.galA(c:Cm prog w A s kd P lt){out:List Lx}(m:MH lt la lb out na nb)(e:la.take na=X++F3)(j:0<nb)(z:lb[nb-1]?=S y)(h:∀x∈F3,lt x y=WY):MH lt la lb (out++F3.reverse) X.length nb:=by
 let p2:=(Lp.mp m.pb).1;let h1:Ord lt (X++(F3++out.reverse)):=by rw[<-LH,<-e];show m.pa
 let q:=n8 h1 m.pb λx hx=>iA c p2 j z (h x hx);refine⟨by rw[eG e];simpa using h1,by simpa using q,?_⟩
 rw[eG e];calc OH.trans ?_ m.pm;rw[e];simp only[List.reverse_append,List.reverse_reverse,LH];calc MW _ ?_;rw[<-LH,<-LH];show Na _ PR
def MH.galB(c:Cm prog w A s kd P lt){out:List Lx}(m:MH lt la lb out na nb)(e:lb.take nb=X++F3)(j:0<na)(z:la[na-1]?=S y)(h:∀x∈F3,lt x y=WY):MH lt la lb (out++F3.reverse) na X.length:=by
 let p2:=(Lp.mp m.pa).1;let h1:Ord lt (X++(F3++out.reverse)):=by rw[<-LH,<-e];show m.pb
 let q:=n8 h1 m.pa λx hx=>iA c p2 j z (h x hx);refine⟨by simpa using q,by rw[eG e];simpa using h1,?_⟩
 rw[eG e];calc OH.trans (PF ?_) m.pm;rw[e];simp
def df(j:0<n)(h:l[n-1]?=S x):l.take n=l.take (n-1)++[x]:=by
 obtain⟨k,rfl⟩:∃k,n=k+1:=⟨n-1,∅⟩
 rw[Nat.add_sub_cancel]at h⊢;rw[V8,h];rfl
def sR(j:0<n)(h:l[n-1]?=S x):(l.take (n-1)).length=n-1:=by let⟨hi,_⟩:=J4.mp h;rw[LS];lia
def MH.pushA(c:Cm prog w A s kd P lt){out:List Lx}(m:MH lt la lb out na nb)(j:0<na)(z:0<nb)(hx:la[na-1]?=S x)(B:lb[nb-1]?=S y)(h:lt x y=WY):MH lt la lb (out++[x]) (na-1) nb:=by
 let q:=m.galA c (df j hx) z B (by simpa using h)
 rw[sR j hx]at q;simpa using q
def MH.pushB(c:Cm prog w A s kd P lt){out:List Lx}(m:MH lt la lb out na nb)(B:0<na)(j:0<nb)(hx:la[na-1]?=S x)(z:lb[nb-1]?=S y)(h:lt y x=WY):MH lt la lb (out++[y]) na (nb-1):=by
 let q:=m.galB c (df j z) B hx (by simpa using h)
 rw[sR j z]at q;simpa using q
def MH.fin{out:List Lx}(m:MH lt la lb out na nb)(h:na=0∨nb=0):Res lt la lb (la.take na++lb.take nb++out.reverse):=by
 refine⟨m.pm,?_⟩
 rcases h with rfl|rfl
 ·simpa using m.pb
 ·simpa using m.pa
def MH.finB{out:List Lx}(m:MH lt la lb out na nb)(h:∀x∈lb.take nb,∀y∈la,lt y x=WY):Res lt la lb (lb.take nb++la.take na++out.reverse):=by
 calc⟨OH.trans (Na _ PR) m.pm,?_⟩;let⟨j,F,q⟩:=Lp.mp m.pb;rw[LH];refine Lp.mpr ⟨j,m.pa,λx hx y B=>?_⟩
 rcases Lv.mp B with z|z
 ·show h x hx y (OX z)
 ·show q x hx y z
def MH.size{out:List Lx}(m:MH lt la lb out na nb)(j:na<=la.length)(q:nb<=lb.length):out.length+na+nb=la.length+lb.length:=by let:=m.pm.length_eq;simp only[I7,LS,Ug]at this;lia
def eQ:a.toList.take a.size=a.toList:=NF (_)
def bo:(a.extract 0 i).toList=a.toList.take i:=by rw[Oj];simp[QN]
def zS(e:a.toList.take n=X++F3):(a.extract X.length n).toList=F3:=by rw[Oj];simp only[QN];rw[<-List.drop_take,e,TY]
def zT:∀(m old L R:List Lx) (a:Array Lx),a.toList=L++old++R->m.length=old.length->(QZ (λa x=>a.setIfInBounds (L.length+x.snd) x.fst) a m.zipIdx).toList=L++m++R:=by
 let g:∀(m old L R:List Lx) (k:Nat) (a:Array Lx),a.toList=L++old++R->m.length=old.length->∀b:Nat,b+k=L.length->(QZ (λa x=>a.setIfInBounds (b+x.snd) x.fst) a (m.zipIdx k)).toList=L++m++R:=by
  intro m
  induction m with
  |nil=>intro old L R k a e h b j;let:old=[]:=Mp.mp h.symm;subst this;simpa using e
  |cons x m ih=>
   intro old L R k a e h b j
   cases old with
   |nil=>simp at h
   |cons y old=>
    rw[SO,Tp];let e2:(a.setIfInBounds (b+k) x).toList=(L++[x])++old++R:=by rw[S9,e,j];simp
    let:=ih old (L++[x]) R (k+1) _ e2 (by simpa using h) b (by simp;lia)
    rw[this];simp
 showλm old L R a e h=>g m old L R 0 a e h L.length ∅
set_option tactic.hygienic true
def ai{σ α:Type}{p:Prop}[Decidable p]{j q:StateT σ Sem α}{st:σ}{Q:α->σ->Prop}(h1:p->wpS M A E s j Q st)(h2:¬p->wpS M A E s q Q st):wpS M A E s (if p then j else q) Q st:=by
 split
 ·next h=>show h1 h
 ·next h=>show h2 h
set_option tactic.hygienic false
def ML.cut{out:Array Lx}(m:ML lt la lb (out.toList++X) i j)(e:a.toList.drop n=X++F3):ML lt la lb (out++a.extract n (n+X.length)).toList i j:=by rw[LF,Cf e];show m
def MH.cut{out:Array Lx}(m:MH lt la lb (out.toList++F3.reverse) i j)(e:a.toList.take n=X++F3):MH lt la lb (out++(a.extract X.length n).reverse).toList i j:=by rw[LF,Mt,zS e];show m
def wV{σ α:Type}{m:StateT σ Sem α}{st:σ}{Q:α->σ->Prop}{P:σ->Prop}(j:P st)(h:∀st',P st'->wpS M A E s m Q st'):wpS M A E s m Q st:=h st j
def B6{σ α:Type}{m:StateT σ Sem α}{st:σ}{Q:α->σ->Prop}(h:∀Q':α->σ->Prop,(∀a st',Q a st'->Q' a st')->wpS M A E s m Q' st):wpS M A E s m Q st:=h Q λ_ _ h=>h
def B7(h:bey lt WY key x=WX):lt key x=WY:=by simpa[bey]using h
def wW(h:bey lt WY key x=WY):lt key x=WX:=by simpa[bey]using h
def B8(h:bey lt WX key x=WX):lt x key=WX:=by simpa[bey]using h
def wX(h:bey lt WX key x=WY):lt x key=WY:=by simpa[bey]using h
def qg(e:l.drop i=X++F3)(h:l[i+X.length]?=S x):x∈F3:=by rw[<-eE e,eF h];simp
def qh(e:l.take n=X++F3)(h0:0<X.length)(h:l[X.length-1]?=S x):x∈X:=by let:=df h0 h;rw[eG e]at this;rw[this];simp
def qi(e:a.toList.drop i=X++F3):X.length<=a.size-i:=by let:=congrArg OE e;simp at this;lia
def n9(e:a.toList.take n=X++F3)(h:n<=a.size):X.length+F3.length=n:=by let:=congrArg OE e;simp at this;lia
def fW(h:n<=a.size):n=(a.toList.take n).length:=by simp;lia
def ML.finR{out:Array Lx}(m:ML lt a.toList b.toList out.toList ia ib)(h:b.size<=ib):Res lt a.toList b.toList (out++a.extract ia++b.extract ib).toList:=by
 let:=m.fin (by simpa using h)
 simpa only[LF,bO]using this
def ML.finS{out:Array Lx}(m:ML lt a.toList b.toList out.toList ia ib)(h:a.size<=ia):Res lt a.toList b.toList (out++a.extract ia++b.extract ib).toList:=by
 let:=m.finE (by simpa using h)
 simpa only[LF,bO]using this
def ML.finL{out:Array Lx}(m:ML lt a.toList b.toList out.toList ia ib)(h:∀x∈b.toList,∀y∈a.toList.drop ia,lt y x=WY):Res lt a.toList b.toList (out++b.extract ib++a.extract ia).toList:=by let:=m.finA h;simpa only[LF,bO]using this
def MH.finR{out:Array Lx}(m:MH lt a.toList b.toList out.toList na nb)(h:∀x∈b.toList.take nb,∀y∈a.toList,lt y x=WY):Res lt a.toList b.toList (b.extract 0 nb++a.extract 0 na++out.reverse).toList:=by let:=m.finB h;simpa only[LF,Mt,bo]using this
def MH.finL{out:Array Lx}(m:MH lt a.toList b.toList out.toList na nb)(h:na=0∨nb=0):Res lt a.toList b.toList (a.extract 0 na++b.extract 0 nb++out.reverse).toList:=by let:=m.fin h;simpa only[LF,Mt,bo]using this
def FL(c:Cm prog w A s kd P lt):
 ∃(g:Ep) (lo hi:Er),(iu prog w A E s kd P lt g/\(iu prog w A E s kd P lt g->iw prog w A E s kd P lt lo)/\(iu prog w A E s kd P lt g->iw prog w A E s kd P lt hi))/\(iu prog w A E s kd P lt g->iw prog w A E s kd P lt lo->iw prog w A E s kd P lt hi->
  ∀(i sa na pa sb nb pb:Nat) (L r1 r2 R:List Lx) (st:MY) (Q:Bool->MY->Prop),NJ st=kd->Oy st=Y->(LM st)[i]?=S (sa,na,pa)->(LM st)[i+1]?=S (sb,nb,pb)->
   (Mx st).toList=L++(r1++r2)++R->sa=L.length->na=r1.length->sb=L.length+r1.length->nb=r2.length->r1≠[]->r2≠[]->(∀x∈r1,P x)->(∀x∈r2,P x)->Ord lt r1->Ord lt r2->
   (∀m st',(Mx st').toList=L++m++R->m.Perm (r1++r2)->Ord lt m->NJ st'=kd->Oy st'=Y->LM st'=((LM st).setIfInBounds i (sa,na+nb,pa)).eraseIdxIfInBounds (i+1)->Q WX st')->
   wpS (LN prog w) A E s (Wj i) Q st):=by
 apply V9;apply V9;apply V9;apply R0
 rotate_left
 ·intro hg L6 L7 i sa na pa sb nb pb L r1 r2 R st Q hk hf h1 h2 Z Ko JN Kq K2 L8 L9 KB KD o1 o2 q;unfold Wj;calc Lr (Qs ?_);rw[h1,h2];dsimp only;calc Lr (Ce ?_);obtain⟨y0,t2,rfl⟩:∃y t,r2=y::t:=by cases r2 with|nil=>show absurd rfl L9|cons y t=>show⟨y,t,rfl⟩
  let hz:(Mx st)[sb]?=S y0:=by rw[<-Ma,Z,Kq];simp
  calc Lr (aG hz ?_);refine Lr (hg WY y0 (Mx st) L r1 (y0::t2++R) sa na 0 _ _ hk (KD _ (_)) (by rw[Z];simp) Ko JN KB (by rw[JN];show Mz.mpr L8) o1 λX F3 e hX hY=>?_)
  dsimp only;let lX:∀x∈X,lt y0 x=WY:=λx hx=>by let:=hX x hx;simpa[bey]using this
  let lY:∀x∈F3,lt x y0=WY:=λx hx=>c.asym _ _ (by let:=hY x hx;simpa[bey]using this)
  let hlen:na-X.length=F3.length:=by rw[JN,e];simp
  subst e;let⟨oX,oY,oXY⟩:=Lp.mp o1;let oy:=S8.mp o2;let Kr:∀x∈X,∀z∈y0::t2,lt z x=WY:=λx hx z hz=>by
   rcases Lw.mp hz with h|h
   ·rw[h];show lX x hx
   ·show c.le_trans (lX x hx) (oy.1 z h)
  refine ai (λh=>?_) (λh=>?_)
  ·let Ks:F3=[]:=Mp.mp (by rw[<-hlen];simpa using h)
   subst Ks;refine ab (q (X++(y0::t2)) _ (by simpa using Z) (_) ?_ hk hf rfl)
   show Lp.mpr ⟨oX,o2,Kr⟩
  ·let Ks:0<F3.length:=by
    let:na-X.length≠0:=by simpa using h
    lia
   obtain⟨Y0,xl,rfl⟩:∃Y0 xl,F3=Y0++[xl]:=⟨F3.dropLast,F3.getLast (by intro z;rw[z]at Ks;simp at Ks),(Ox _).symm⟩
   let La:(Mx st)[sa+X.length+(na-X.length)-1]?=S xl:=by
    rw[<-Ma,Z,hlen,Ko];simp only[LH,I7,LY];rw[Lo ∅,Lo ∅,Lo ∅]
    rw[show L.length+X.length+(Y0.length+1)-1-L.length-X.length-Y0.length=0 by lia];rfl
   calc Lr (aG La ?_);refine Lr (hg WX xl (Mx st) (L++(X++(Y0++[xl]))) (y0::t2) R sb nb (nb-1) _ _ hk (KB _ (_)) (by rw[Z];simp) (by rw[Kq];simp) K2 KD (by rw[K2];simp) o2 λX2 Y2 e2 JO JP=>?_)
   dsimp only;let Lb:∀x∈X2,lt xl x=WY:=λx hx=>c.asym _ _ (by let:=JO x hx;simpa[bey]using this)
   let KN:∀x∈Y2,lt x xl=WY:=λx hx=>by let:=JP x hx;simpa[bey]using this
   let Lc:Ord lt (X2++Y2):=by rw[<-e2];show o2
   let⟨Ld,Le,KO⟩:=Lp.mp Lc;let⟨Lm,_,oYl⟩:=Lp.mp oY;let lYY:∀x∈Y0++[xl],∀z∈Y2,lt z x=WY:=λx hx z hz=>by
    rcases Lv.mp hx with h|h
    ·show c.le_trans (oYl x h xl (_)) (KN z hz)
    ·simp at h;subst h;show KN z hz
   refine ai (λh=>?_) (λh=>?_)
   ·let JH:X2=[]:=Mp.mp (by simpa using h)
    subst JH;let e2:y0::t2=Y2:=by simpa using e2
    refine ab (q (X++(Y0++[xl])++(y0::t2)) _ (by simpa using Z) (Sa _) ?_ hk hf rfl)
    refine Lp.mpr ⟨o1,o2,λx hx z hz=>?_⟩
    rcases Lv.mp hx with g|g
    ·show Kr x g z hz
    ·show lYY x g z (by rw[<-e2];show hz)
   ·let JH:X2≠[]:=λz=>h (by rw[z];rfl)
    let hx:((Mx st).extract (sa+X.length) sb).toList=Y0++[xl]:=by
     rw[Oj,Z,Ko,Kq];simp only[QN];let e1:(L++(X++(Y0++[xl])++y0::t2)++R).drop (L.length+X.length)=(Y0++[xl])++(y0::t2++R):=by rw[<-QM];simp
     rw[e1,show L.length+(X++(Y0++[xl])).length-(L.length+X.length)=(Y0++[xl]).length by simp only[I7];lia,TZ]
    let hy:((Mx st).extract sb (sb+X2.length)).toList=X2:=by
     rw[Oj,Z,Kq];simp only[QN];let e1:(L++(X++(Y0++[xl])++y0::t2)++R).drop (L.length+(X++(Y0++[xl])).length)=(y0::t2)++R:=by rw[<-QM];simp
     rw[e1,e2];simp
    let G:∀(r:Array Lx) (Jd:MY),r.toList.Perm ((Y0++[xl])++X2)->Ord lt r.toList->Same (PyProof.Rows.SortSt.mk' (NJ st) (Mx st) (((LM st).setIfInBounds i (sa,na+nb,pa)).eraseIdxIfInBounds (i+1)) (gallopOf st) (Oy st)) Jd->∀Ja:MY,Mx Ja=QZ (λa x=>a.setIfInBounds (sa+X.length+x.snd) x.fst) (Mx Jd) r.toList.zipIdx->NJ Ja=NJ Jd->Oy Ja=Oy Jd->LM Ja=LM Jd->Q (Oy Ja).isNone Ja:=by
     intro r Jd hp ho hs Ja g1 g2 g3 g4;let KP:Oy Ja=Y:=g3.trans (hs.fail.trans hf);rw[KP];refine q (X++r.toList++Y2) Ja ?_ ?_ ?_ (g2.trans (hs.kind.trans hk)) KP (g4.trans hs.pend)
     ·rw[g1,hs.arr];let e3:(Mx st).toList=(L++X)++((Y0++[xl])++X2)++(Y2++R):=by
       rw[Z,e2];simp
      rw[show sa+X.length=(L++X).length by rw[Ko];simp]
      rw[zT _ _ _ _ _ e3 (hp.length_eq)];simp
     ·rw[e2];calc OH.trans (Na _ (MW _ hp)) ?_;simp
     ·refine Lp.mpr ⟨Lp.mpr ⟨oX,ho,λx hx z hz=>?_⟩,Le,λx hx z hz=>?_⟩
      ·rcases Lv.mp (hp.mem_iff.mp hz)with g|g
       ·show oXY x hx z g
       ·show Kr x hx z (by rw[e2];show N7 _ g)
      ·rcases Lv.mp hx with g|g
       ·show Kr x g z (by rw[e2];show LP _ hz)
       ·rcases Lv.mp (hp.mem_iff.mp g)with g|g
        ·show lYY x g z hz
        ·show KO x g z hz
    let Kz:∀x y,((Mx st).extract (sa+X.length) sb)[0]?=S x->((Mx st).extract sb (sb+X2.length))[0]?=S y->lt x y=WY:=by
     intro x y Jz K5;rw[<-Ma,hx]at Jz;rw[<-Ma,hy]at K5;let K6:=LJ Jz;let:y=y0:=by
      cases X2 with
      |nil=>show absurd rfl JH
      |cons z t=>simp at e2 K5;rw[<-K5,<-e2.1]
     subst this;show lY x K6
    let preL:∀x y,((Mx st).extract (sa+X.length) sb)[((Mx st).extract (sa+X.length) sb).size-1]?=S x->((Mx st).extract sb (sb+X2.length))[((Mx st).extract sb (sb+X2.length)).size-1]?=S y->lt x y=WY:=by
     intro x y Jz K5;rw[<-Ma,<-LX,hx]at Jz;rw[<-Ma,<-LX,hy]at K5;let JA:=LJ K5;let:x=xl:=by simp at Jz;show Jz.symm
     subst this;show Lb y JA
    let KQ:0<((Mx st).extract (sa+X.length) sb).size:=by rw[<-LX,hx];simp
    let KR:0<((Mx st).extract sb (sb+X2.length)).size:=by rw[<-LX,hy];show Mz.mpr JH
    let KS:∀x∈((Mx st).extract (sa+X.length) sb).toList,P x:=by rw[hx];showλx hx=>KB x (LP _ hx)
    let KU:∀x∈((Mx st).extract sb (sb+X2.length)).toList,P x:=by rw[hy];showλx hx=>KD x (by rw[e2];show N7 _ hx)
    let KW:Ord lt ((Mx st).extract (sa+X.length) sb).toList:=by rw[hx];show oY
    let KY:Ord lt ((Mx st).extract sb (sb+X2.length)).toList:=by rw[hy];show Ld
    refine ai (λh=>?_) (λh=>?_)
    ·calc Lr (L6 _ _ _ _ hk KS KU KQ KR KW KY Kz preL λr Jd hp ho hs=>?_);rw[hx,hy]at hp;calc Lr (Og ?_);calc Lr (Qs ?_);show ab (G r Jd hp ho hs _ rfl rfl rfl rfl)
    ·calc Lr (L7 _ _ _ _ hk KS KU KQ KR KW KY Kz preL λr Jd hp ho hs=>?_);rw[hx,hy]at hp;calc Lr (Og ?_);calc Lr (Qs ?_);show ab (G r Jd hp ho hs _ rfl rfl rfl rfl)
 apply R0
 ·intro left key arr L xs R base n hint st Q hk JI Z KF hn hP hh hs q;subst KF hn;let at_:∀i,i<xs.length->∃x,xs[i]?=S x/\arr[L.length+i]?=S x/\P x:=by
   intro i hi;calc⟨xs[i],D1 hi,?_,hP _ (OI _)⟩;rw[<-Ma,Z,LH,Lo ∅,LC ∅]
   rw[show L.length+i-L.length=i by lia]
   show D1 hi
  let⟨x0,Jz,K7,Lf⟩:=at_ hint hh;refine Lr (gS c hk JI Lf K7 ?_)
  try dsimp only
  refine ai (λhb=>?_) (λhb=>?_)
  ·skip
   refine Lr (aH (Q:=λr st'=>st'=st/\∃la ofs,r=(Y,la,ofs)/\hint+la<xs.length/\la<ofs/\(∀j x,j<hint+la+1->xs[j]?=S x->bey lt left key x=WX)/\(xs.length<=hint+ofs∨∀j x,hint+ofs<=j->xs[j]?=S x->bey lt left key x=WY))
    (MX (λi r st'=>st'=st/\∃la ofs,r=(Y,la,ofs)/\hint+la<xs.length/\la<ofs/\i+1<=ofs/\(∀j x,j<hint+la+1->xs[j]?=S x->bey lt left key x=WX)) ?_ ?_ ⟨rfl,0,1,rfl,hh,∅,∅,iy c hs Jz hb⟩) ?_)
   ·rintro i r st' _ hi ⟨rfl,la,ofs,rfl,h1,h2,h3,h4⟩
    try dsimp only
    refine ai (λJQ=>?_) (λJQ=>?_)
    ·show ab ⟨rfl,la,ofs,rfl,h1,h2,h4,.inl ∅⟩
    ·skip
     let⟨x1,Ju,JR,JS⟩:=at_ (hint+ofs) ∅
     refine Lr (gS c hk JI JS JR ?_)
     try dsimp only
     refine ai (λhf=>?_) (λhf=>?_)
     ·show ab ⟨rfl,la,ofs,rfl,h1,h2,h4,.inr (iz c hs Ju (by simpa using hf))⟩
     ·show ab ⟨rfl,ofs,2*ofs+1,rfl,∅,∅,∅,iy c hs Ju (by simpa using hf)⟩
   ·rintro r st' ⟨rfl,la,ofs,rfl,h1,h2,h3,h4⟩;show⟨rfl,la,ofs,rfl,h1,h2,h4,.inl ∅⟩
   ·rintro r st' ⟨rfl,la,ofs,rfl,h1,h2,h3,h4⟩
    try dsimp only
    let hG:Gal lt left key xs (hint+la+1) (hint+min ofs (xs.length-hint)):=by
     refine⟨∅,∅,h3,λi x hi hx=>?_⟩
     let Ln:i<xs.length:=(J4.mp hx).1
     rcases h4 with h4|h4
     ·lia
     ·show h4 i x ∅ hx
    generalize hint+la+1=lo at hG;generalize hint+min ofs (xs.length-hint)=hi at hG;refine Lr (aH (Q:=λr st''=>st''=st'/\∃k,r=(Y,k,k)/\Gal lt left key xs k k)
     (MX (λi r st''=>st''=st'/\∃lo hi,r=(Y,lo,hi)/\Gal lt left key xs lo hi/\hi-lo+i<=xs.length) ?_ ?_ ⟨rfl,lo,hi,rfl,hG,by let:=hG.len;lia⟩) ?_)
    ·rintro i r st'' _ hi ⟨rfl,lo,hi,rfl,hG,hm⟩
     try dsimp only
     let hl:=hG.le;let K8:=hG.len;refine ai (λJQ=>?_) (λJQ=>?_)
     ·show ab ⟨rfl,hi,by rw[show lo=hi by lia],by rw[show lo=hi by lia]at hG;show hG⟩
     ·skip
      let⟨x1,Ju,JR,JS⟩:=at_ (lo+(hi-lo) / 2) ∅
      refine Lr (gS c hk JI JS JR ?_)
      try dsimp only
      refine ai (λhf=>?_) (λhf=>?_)
      ·show ab ⟨rfl,_,_,rfl,⟨∅,K8,iy c hs Ju hf,hG.dn⟩,∅⟩
      ·show ab ⟨rfl,_,_,rfl,⟨∅,∅,hG.up,iz c hs Ju (by simpa using hf)⟩,∅⟩
    ·rintro r st'' ⟨rfl,lo,hi,rfl,hG,hm⟩;let hl:=hG.le;show⟨rfl,hi,by rw[show lo=hi by lia],by rw[show lo=hi by lia]at hG;show hG⟩
    ·rintro r st'' ⟨rfl,k,rfl,hG⟩;let⟨X,F3,e,hl,hX,hY⟩:=hG.out;subst hl;show ab (q X F3 e hX hY)
  ·skip
   refine Lr (aH (Q:=λr st'=>st'=st/\∃la ofs,r=(Y,la,ofs)/\la<=hint/\la<ofs/\(∀j x,hint-la<=j->xs[j]?=S x->bey lt left key x=WY)/\(hint<ofs∨∀j x,j<hint-ofs+1->xs[j]?=S x->bey lt left key x=WX))
    (MX (λi r st'=>st'=st/\∃la ofs,r=(Y,la,ofs)/\la<=hint/\la<ofs/\i+1<=ofs/\(∀j x,hint-la<=j->xs[j]?=S x->bey lt left key x=WY)) ?_ ?_ ⟨rfl,0,1,rfl,∅,∅,∅,iz c hs Jz (by simpa using hb)⟩) ?_)
   ·rintro i r st' _ hi ⟨rfl,la,ofs,rfl,h1,h2,h3,h4⟩
    try dsimp only
    refine ai (λJQ=>?_) (λJQ=>?_)
    ·show ab ⟨rfl,la,ofs,rfl,h1,h2,h4,.inl ∅⟩
    ·skip
     let⟨x1,Ju,JR,JS⟩:=at_ (hint-ofs) ∅
     refine Lr (gS c hk JI JS JR ?_)
     try dsimp only
     refine ai (λhf=>?_) (λhf=>?_)
     ·show ab ⟨rfl,la,ofs,rfl,h1,h2,h4,.inr (iy c hs Ju hf)⟩
     ·show ab ⟨rfl,ofs,2*ofs+1,rfl,∅,∅,∅,iz c hs Ju (by simpa using hf)⟩
   ·rintro r st' ⟨rfl,la,ofs,rfl,h1,h2,h3,h4⟩;show⟨rfl,la,ofs,rfl,h1,h2,h4,.inl ∅⟩
   ·rintro r st' ⟨rfl,la,ofs,rfl,h1,h2,h3,h4⟩
    try dsimp only
    let hG:Gal lt left key xs (hint+1-min ofs (hint+1)) (hint-la):=by
     refine⟨∅,∅,λi x hi hx=>?_,h3⟩
     rcases h4 with h4|h4
     ·lia
     ·show h4 i x ∅ hx
    generalize hint+1-min ofs (hint+1)=lo at hG;generalize hint-la=hi at hG;refine Lr (aH (Q:=λr st''=>st''=st'/\∃k,r=(Y,k,k)/\Gal lt left key xs k k)
     (MX (λi r st''=>st''=st'/\∃lo hi,r=(Y,lo,hi)/\Gal lt left key xs lo hi/\hi-lo+i<=xs.length) ?_ ?_ ⟨rfl,lo,hi,rfl,hG,by let:=hG.len;lia⟩) ?_)
    ·rintro i r st'' _ hi ⟨rfl,lo,hi,rfl,hG,hm⟩
     try dsimp only
     let hl:=hG.le;let K8:=hG.len;refine ai (λJQ=>?_) (λJQ=>?_)
     ·show ab ⟨rfl,hi,by rw[show lo=hi by lia],by rw[show lo=hi by lia]at hG;show hG⟩
     ·skip
      let⟨x1,Ju,JR,JS⟩:=at_ (lo+(hi-lo) / 2) ∅
      refine Lr (gS c hk JI JS JR ?_)
      try dsimp only
      refine ai (λhf=>?_) (λhf=>?_)
      ·show ab ⟨rfl,_,_,rfl,⟨∅,K8,iy c hs Ju hf,hG.dn⟩,∅⟩
      ·show ab ⟨rfl,_,_,rfl,⟨∅,∅,hG.up,iz c hs Ju (by simpa using hf)⟩,∅⟩
    ·rintro r st'' ⟨rfl,lo,hi,rfl,hG,hm⟩;let hl:=hG.le;show⟨rfl,hi,by rw[show lo=hi by lia],by rw[show lo=hi by lia]at hG;show hG⟩
    ·rintro r st'' ⟨rfl,k,rfl,hG⟩;let⟨X,F3,e,hl,hX,hY⟩:=hG.out;subst hl;show ab (q X F3 e hX hY)
 apply R0
 ·intro hg a b st Q hk JT JU Ku Kv sa sb K9 Ka q;calc Lr (de ?_);let⟨b0,Kw,Kb,Lh⟩:=aK Kv;let⟨a0,K7,K0,Li⟩:=aK Ku;calc Lr (aG Kw ?_);let m0:ML lt a.toList b.toList [] 0 0:=⟨sa,sb,by simp⟩
  let m1:ML lt a.toList b.toList [b0] 0 1:=m0.pushB c K0 Kb (K9 a0 b0 K7 Kw);let JB:∀x∈b.toList,∀(i:Nat),i+1=a.size->∀y∈a.toList.drop i,lt y x=WY:=by
   intro x hx i hi y hy;let⟨aL,Kx,Kc,_⟩:=aK (a:=a) (i:=i) ∅
   let⟨bL,KG,K1,_⟩:=aK (a:=b) (i:=b.size-1) ∅
   let e:a.toList.drop i=[aL]:=by rw[eF Kc,OC (by simp;lia)];rfl
   rw[e]at hy;simp at hy;subst hy;let hl:=Ka y bL (by rw[show a.size-1=i by lia];show Kx) KG
   let⟨j,hj,e⟩:=Oi.mp hx;let JV:b.toList[j]?=S x:=by rw[<-e];show D1 hj
   by_cases hjb:j=b.size-1
   ·subst hjb;rw[K1]at JV;cases JV;show hl
   ·let:=fA sb (show j<b.size-1 by simp at hj;lia) JV K1
    show c.le_trans this hl
  try dsimp -zeta -zetaHave -zetaUnused only
  refine ai (λh=>?_) (λh=>?_)
  ·skip
   let h:1=b.size:=by simpa using h
   calc ab ?_;let r:=m1.fin (by simp;lia)
   show q _ _ (by simpa only[LF,LK,Me,bO]using r.1) (by simpa only[LF,LK,Me,bO]using r.2) Same.refl
  ·skip
   refine ai (λh2=>?_) (λh2=>?_)
   ·skip
    let h2:0+1=a.size:=by simpa using h2
    calc ab ?_;let r:=m1.finA (JB · · 0 h2);show q _ _ (by simpa only[LF,LK,Me,bO]using r.1) (by simpa only[LF,LK,Me,bO]using r.2) Same.refl
   ·skip
    let h:1≠b.size:=by simpa using h
    let h2:0+1≠a.size:=by simpa using h2
    refine Lr (Qs ?_)
    try dsimp -zeta -zetaHave -zetaUnused only
    refine Lr (aH (Q:=λr st'=>Same st st'/\∃res t,r=(S res,t)/\Res lt a.toList b.toList res.toList)
     (MX (λi r st'=>Same st st'/\∃out ia ib mg,r=(Y,out,ia,ib,mg)/\ML lt a.toList b.toList out.toList ia ib/\ia+1<a.size/\ib<b.size/\i+1<=out.size) ?_ ?_ ⟨Same.refl,_,_,_,_,rfl,m1,∅,∅,by simp⟩) ?_)
    ·rintro i r Jv _ hi ⟨sm,out,ia,ib,mg,rfl,m,KH,KI,hsz⟩
     try dsimp -zeta -zetaHave -zetaUnused only
     refine Lr (aH (Q:=λr st'=>st'=Jv/\((∃B Jn Jr ac bc,r=(Y,B,Jn,Jr,ac,bc)/\ML lt a.toList b.toList B.toList Jn Jr/\Jn+1<a.size/\Jr<b.size/\i+2<=B.size)∨∃res t,r=(S res,t)/\Res lt a.toList b.toList res.toList))
      (MX (λj r st'=>st'=Jv/\∃B Jn Jr ac bc,r=(Y,B,Jn,Jr,ac,bc)/\ML lt a.toList b.toList B.toList Jn Jr/\Jn+1<a.size/\Jr<b.size/\i+1+j<=B.size) ?_ ?_ ⟨rfl,_,_,_,_,_,rfl,m,KH,KI,∅⟩) ?_)
     ·rintro j r Jd _ hj ⟨rfl,B,Jn,Jr,ac,bc,rfl,m2,h1,h2,h3⟩
      try dsimp only
      let⟨y,hy,Jw,JA⟩:=aK (a:=b) h2;let⟨x,hx,Kd,K6⟩:=aK (a:=a) (i:=Jn) ∅
      refine Lr (aG hy (Lr (aG hx (Lr (kB c (sm.kind.trans hk) (JU _ JA) (JT _ K6) ?_)))))
      try dsimp only
      refine ai (λhl=>?_) (λhl=>?_)
      ·skip
       refine Lr (aG hy ?_)
       try dsimp only
       let m3:=m2.pushB c Kd Jw (c.asym _ _ hl);refine ai (λh=>?_) (λh=>?_)
       ·skip
        let h:Jr+1=b.size:=by simpa using h
        show ab ⟨rfl,.inr ⟨_,_,rfl,by simpa only[LF,LK,Me,bO]using m3.fin (by simp;lia)⟩⟩
       ·skip
        let h:Jr+1≠b.size:=by simpa using h
        refine ai (λ_=>?_) (λ_=>?_)
        ·show ab ⟨rfl,.inl ⟨_,_,_,_,_,rfl,by simpa only[LF,LK]using m3,h1,∅,by simp;lia⟩⟩
        ·show ab ⟨rfl,_,_,_,_,_,rfl,by simpa only[LF,LK]using m3,h1,∅,by simp;lia⟩
      ·skip
       refine Lr (aG hx ?_)
       try dsimp only
       let m3:=m2.pushA c Kd Jw (by simpa using hl)
       refine ai (λh=>?_) (λh=>?_)
       ·skip
        let h:Jn+1+1=a.size:=by simpa using h
        show ab ⟨rfl,.inr ⟨_,_,rfl,by simpa only[LF,LK,Me,bO]using m3.finA (JB · · _ h)⟩⟩
       ·skip
        let h:Jn+1+1≠a.size:=by simpa using h
        refine ai (λ_=>?_) (λ_=>?_)
        ·show ab ⟨rfl,.inl ⟨_,_,_,_,_,rfl,by simpa only[LF,LK]using m3,∅,h2,by simp;lia⟩⟩
        ·show ab ⟨rfl,_,_,_,_,_,rfl,by simpa only[LF,LK]using m3,∅,h2,by simp;lia⟩
     ·rintro r Jd ⟨rfl,B,Jn,Jr,ac,bc,rfl,m2,h1,h2,h3⟩;show⟨rfl,.inl ⟨_,_,_,_,_,rfl,m2,h1,h2,∅⟩⟩
     ·rintro r Jd ⟨rfl,⟨B,Jn,Jr,ac,bc,rfl,m2,h1,h2,h3⟩|⟨res,t,rfl,J⟩⟩
      ·dsimp -zeta -zetaHave -zetaUnused only;calc Lr (de ?_);refine Lr (aH (Q:=fun r st'=>Same st st'/\((∃F Jf Jb Jo ac bc,r=(Y,F,Jf,Jb,Jo,ac,bc)/\ML lt a.toList b.toList F.toList Jf Jb/\Jf+1<a.size/\Jb<b.size/\i+2<=F.size)∨∃res t,r=(S res,t)/\Res lt a.toList b.toList res.toList))
        (MX (λj r st'=>Same st st'/\∃F Jf Jb Jo ac bc,r=(Y,F,Jf,Jb,Jo,ac,bc)/\ML lt a.toList b.toList F.toList Jf Jb/\Jf+1<a.size/\Jb<b.size/\i+2<=F.size) ?_ ?_ ⟨sm,_,_,_,_,_,_,rfl,m2,h1,h2,h3⟩) ?_)
       ·rintro j r Ja _ hj ⟨Jp,F,Jf,Jb,Jo,Ke,Kf,rfl,m3,h1,h2,h5⟩;let⟨y,hy,Jw,JA⟩:=aK (a:=b) h2;calc B6 λQQ hQ=>?_;let G:∀(st':MY) (res:Array Lx) t,Same st st'->Res lt a.toList b.toList res.toList->QQ (.done (S res,t)) st':=λst' res t hs hr=>hQ _ _ ⟨hs,.inr ⟨_,_,rfl,hr⟩⟩;let KJ:∀(st':MY) (out:Array Lx) ia ib mg ac bc,Same st st'->ML lt a.toList b.toList out.toList ia ib->ia+1<a.size->ib<b.size->i+2<=out.size->QQ (.done (Y,out,ia,ib,mg,ac,bc)) st'/\QQ (.yield (Y,out,ia,ib,mg,ac,bc)) st':=λst' out ia ib mg ac bc hs p1 p2 p3 p4=>⟨hQ _ _ ⟨hs,.inl ⟨_,_,_,_,_,_,rfl,p1,p2,p3,p4⟩⟩,hQ _ _ ⟨hs,_,_,_,_,_,_,rfl,p1,p2,p3,p4⟩⟩;clear hQ hj
        extract_lets -underBinder s0 vout s1 via s2 vib s3 vmg s4 vac vbc jp vmx
        let Kg:∀mg,wpS (LN prog w) A E s (jp () mg) QQ Ja:=by
         intro mg;dsimp -zeta -zetaHave -zetaUnused only[jp,s0,vout,s1,via,s2,vib,s3,vmg,s4,vac,vbc];clear vmx jp vbc vac s4 vmg s3 vib s2 via s1 vout s0;calc Lr (Og ?_);calc wV (P:=Same st) (Jp.trans ⟨rfl,rfl,rfl,rfl⟩) λJW Jg=>?_;let Kh:=Jg.kind.trans hk;calc Lr (aG hy ?_);refine Lr (hg WY y a (a.toList.take Jf) (a.toList.drop Jf) [] _ _ _ _ _ Kh (JU _ JA) (_) (fW ∅) (_) (λx hx=>JT x (OW hx)) ∅ ((Lp.mp m3.pa).2.1) λX F3 e hX hY=>?_)
         dsimp -zeta -zetaHave -zetaUnused only;let m4:=m3.galA c e Jw λx hx=>B7 (hX x hx);let Jh:∀x4,a.toList[Jf+X.length]?=S x4->lt x4 y=WY:=λx4 JC=>c.asym _ _ (wW (hY x4 (qg e JC)));let JX:=qi e
         extract_lets -underBinder +onlyGivenNames vac JD
         clear_value vac
         let JJ:∀(O:Array Lx) (Jx:Nat),ML lt a.toList b.toList O.toList Jx Jb->(∀x4,a.toList[Jx]?=S x4->lt x4 y=WY)->Jx+1<a.size->i+2<=O.size->wpS (LN prog w) A E s (JD () O Jx) QQ JW:=by
          intro O Jx KK JE Lj Ki;dsimp -zeta -zetaHave -zetaUnused only[JD];clear JD JX Jh m4 hX hY;let⟨x4,JC,Jl,Kj⟩:=aK (a:=a) (i:=Jx) ∅
          calc Lr (aG hy ?_);let m5:=KK.pushB c Jl Jw (JE x4 Jl);rw[<-LK]at m5;let Jm:i+2<=(O.push y).size:=by rw[Ru];lia
          try dsimp -zeta -zetaHave -zetaUnused only
          extract_lets -underBinder +onlyGivenNames vo5 vi5
          dsimp -zeta -zetaHave -zetaUnused only[vo5];clear vo5;let e5:vi5=Jb+1:=rfl
          clear_value vi5
          subst e5
          revert m5 Jm
          generalize O.push y=out5;intro m5 Jm;refine ai (λh=>?_) (λh=>?_)
          ·show ab (G _ _ _ Jg (m5.finR (by let h:=OR h;lia)))
          ·let h:Jb+1≠b.size:=by simpa using h
           calc Lr (aG JC ?_);refine Lr (hg WX x4 b (b.toList.take (Jb+1)) (b.toList.drop (Jb+1)) [] _ _ _ _ _ Kh (JT _ Kj) (_) (fW ∅) (_) (λx hx=>JU x (OW hx)) ∅ ((Lp.mp m5.pb).2.1) λX2 Y2 e2 JO JP=>?_)
           dsimp -zeta -zetaHave -zetaUnused only;let m6:=m5.galB c e2 Jl λx hx=>c.asym _ _ (B8 (JO x hx));let Ji:∀y6,b.toList[Jb+1+X2.length]?=S y6->lt y6 x4=WY:=λy6 Kk=>wX (JP y6 (qg e2 Kk));let JY:=qi e2
           extract_lets -underBinder +onlyGivenNames vbc JF
           clear_value vbc
           let JK:∀(Jc:Array Lx) (JZ:Nat),ML lt a.toList b.toList Jc.toList Jx JZ->(∀y6,b.toList[JZ]?=S y6->lt y6 x4=WY)->JZ<b.size->i+2<=Jc.size->wpS (LN prog w) A E s (JF () Jc JZ) QQ JW:=by
            intro Jc JZ KL JG KA KZ;dsimp -zeta -zetaHave -zetaUnused only[JF];clear JF JY Ji m6 JO JP m5 Jm Ki h5 h1 h2 hsz KI KH h3;let⟨y6,Kk,JL,L4⟩:=aK (a:=b) (i:=JZ) KA;calc Lr (aG JC ?_);let m7:=KL.pushA c Jl JL (JG y6 JL);rw[<-LK]at m7;dsimp only;refine ai (λh=>?_) (λh=>?_)
            ·show ab (G _ _ _ Jg (m7.finL (JB · · (Jx+1) (OR h))))
            ·let h:Jx+1+1≠a.size:=by simpa using h
             let:=KJ JW (Jc.push x4) (Jx+1) JZ mg vac vbc Jg m7 ∅ KA (by rw[Ru];lia)
             show ai (λ_=>ab this.1) (λ_=>ab this.2)
           clear_value JF
           refine ai (λh0=>?_) (λh0=>?_)
           ·dsimp only;let m6:=m6.cut (a:=b) e2;refine ai (λh=>?_) (λh=>?_)
            ·show ab (G _ _ _ Jg (m6.finR (by let h:=OR h;lia)))
            ·let h:Jb+1+X2.length≠b.size:=by simpa using h
             show JK _ _ m6 Ji ∅ (by rw[PU];lia)
           ·let JH:X2=[]:=Mp.mp ∅
            subst JH;show JK _ _ m5 Ji ∅ Jm
         clear_value JD
         refine ai (λh0=>?_) (λh0=>?_)
         ·dsimp only;let m4:=m4.cut (a:=a) e;refine ai (λh=>?_) (λh=>?_)
          ·show ab (G _ _ _ Jg (m4.finL (JB · · _ (OR h))))
          ·let h:Jf+X.length+1≠a.size:=by simpa using h
           refine ai (λh=>?_) (λh9=>?_)
           ·show ab (G _ _ _ Jg (m4.finS (by let h:=OR h;lia)))
           ·let h9:Jf+X.length≠a.size:=by simpa using h9
            show JJ _ _ m4 Jh ∅ (by rw[PU];lia)
         ·let JH:X=[]:=Mp.mp ∅
          subst JH;show JJ _ _ m3 Jh h1 h5
        clear_value jp
        show ai (λ_=>Kg _) (λ_=>Kg _)
       ·rintro r Ja ⟨Jp,F,Jf,Jb,Jo,Ke,Kf,rfl,m3,h1,h2,h5⟩;show⟨Jp,.inl ⟨_,_,_,_,_,_,rfl,m3,h1,h2,h5⟩⟩
       ·rintro r Ja ⟨Jp,⟨F,Jf,Jb,Jo,Ke,Kf,rfl,m3,h1,h2,h5⟩|⟨res,t,rfl,J⟩⟩
        ·dsimp -zeta -zetaHave -zetaUnused only;calc Lr (Og ?_);show ab ⟨Jp.trans ⟨rfl,rfl,rfl,rfl⟩,_,_,_,_,rfl,m3,h1,h2,∅⟩
        ·show ab ⟨Jp,_,_,rfl,J⟩
      ·show ab ⟨sm,_,_,rfl,J⟩
    ·rintro r Jv ⟨sm,out,ia,ib,mg,rfl,m,KH,KI,hsz⟩;let:=m.size (by simp;lia) (by simp;lia)
     simp at this;lia
    ·rintro r Jv ⟨sm,res,t,rfl,J⟩;show ab (q res Jv J.1 J.2 sm)
 ·intro hg a b st Q hk JT JU Ku Kv sa sb K9 Ka q;calc Lr (de ?_);let⟨bL,KG,K1,Lk⟩:=aK (a:=b) (i:=b.size-1) ∅
  let⟨aL,Kx,Kc,Ll⟩:=aK (a:=a) (i:=a.size-1) ∅
  calc Lr (aG Kx ?_);let m0:MH lt a.toList b.toList [] a.size b.size:=⟨by rw[eQ];simpa using sa,by rw[eQ];simpa using sb,by rw[eQ,eQ];simp⟩
  let m1:MH lt a.toList b.toList [aL] (a.size-1) b.size:=m0.pushA c Ku Kv Kc K1 (Ka aL bL Kx KG);let Jt:∀x∈b.toList.take 1,∀y∈a.toList,lt y x=WY:=by
   intro x hx y hy;let⟨b0,Kw,Kb,_⟩:=aK Kv;let⟨a0,K7,K0,_⟩:=aK Ku;let ex:x=b0:=by
    rw[df ∅ Kb]at hx
    simpa using hx
   subst ex;let h:=K9 a0 x K7 Kw;let⟨j,hj,e⟩:=Oi.mp hy;let JV:a.toList[j]?=S y:=by rw[<-e];show D1 hj
   by_cases hj0:j=0
   ·subst hj0;rw[K0]at JV;cases JV;show h
   ·show c.le_trans h (fA sa ∅ K0 JV)
  try dsimp -zeta -zetaHave -zetaUnused only
  refine ai (λh=>?_) (λh=>?_)
  ·skip
   let h:a.size-1=0:=by simpa using h
   calc ab ?_;let r:=m1.fin (.inl h);show q _ _ (by simpa only[LF,LK,Mt,Me,bo]using r.1) (by simpa only[LF,LK,Mt,Me,bo]using r.2) Same.refl
  ·skip
   refine ai (λh2=>?_) (λh2=>?_)
   ·skip
    let h2:b.size=1:=by simpa using h2
    calc ab ?_;let r:=m1.finB (by rw[h2];show Jt)
    show q _ _ (by simpa only[LF,LK,Mt,Me,bo]using r.1) (by simpa only[LF,LK,Mt,Me,bo]using r.2) Same.refl
   ·skip
    let h:a.size-1≠0:=by simpa using h
    let h2:b.size≠1:=by simpa using h2
    refine Lr (Qs ?_)
    try dsimp -zeta -zetaHave -zetaUnused only
    refine Lr (aH (Q:=λr st'=>Same st st'/\∃res t,r=(S res,t)/\Res lt a.toList b.toList res.toList)
     (MX (λi r st'=>Same st st'/\∃na nb out mg,r=(Y,na,nb,out,mg)/\MH lt a.toList b.toList out.toList na nb/\0<na/\1<nb/\na<a.size/\nb<=b.size/\i+1<=out.size) ?_ ?_ ⟨Same.refl,_,_,_,_,rfl,m1,∅,∅,∅,∅,by simp⟩) ?_)
    ·rintro i r Jv _ hi ⟨sm,na,nb,out,mg,rfl,m,JN,K2,Kl,Km,hsz⟩
     try dsimp -zeta -zetaHave -zetaUnused only
     refine Lr (aH (Q:=λr st'=>st'=Jv/\((∃Jj Jk B ac bc,r=(Y,Jj,Jk,B,ac,bc)/\MH lt a.toList b.toList B.toList Jj Jk/\0<Jj/\1<Jk/\Jj<a.size/\Jk<=b.size/\i+2<=B.size)∨∃res t,r=(S res,t)/\Res lt a.toList b.toList res.toList))
      (MX (λj r st'=>st'=Jv/\∃Jj Jk B ac bc,r=(Y,Jj,Jk,B,ac,bc)/\MH lt a.toList b.toList B.toList Jj Jk/\0<Jj/\1<Jk/\Jj<a.size/\Jk<=b.size/\i+1+j<=B.size) ?_ ?_ ⟨rfl,_,_,_,_,_,rfl,m,JN,K2,Kl,Km,∅⟩) ?_)
     ·rintro j r Jd _ hj ⟨rfl,Jj,Jk,B,ac,bc,rfl,m2,h1,h2,Jq,Js,h3⟩
      try dsimp only
      let⟨y,hy,Jw,JA⟩:=aK (a:=b) (i:=Jk-1) ∅
      let⟨x,hx,Kd,K6⟩:=aK (a:=a) (i:=Jj-1) ∅
      refine Lr (aG hy (Lr (aG hx (Lr (kB c (sm.kind.trans hk) (JU _ JA) (JT _ K6) ?_)))))
      try dsimp only
      refine ai (λhl=>?_) (λhl=>?_)
      ·skip
       refine Lr (aG hx ?_)
       try dsimp only
       let m3:=m2.pushA c h1 ∅ Kd Jw (c.asym _ _ hl)
       refine ai (λh=>?_) (λh=>?_)
       ·skip
        let h:Jj-1=0:=by simpa using h
        show ab ⟨rfl,.inr ⟨_,_,rfl,by let r:=m3.fin (.inl h);simpa only[LF,LK,Mt,Me,bo]using r⟩⟩
       ·skip
        let h:Jj-1≠0:=by simpa using h
        refine ai (λ_=>?_) (λ_=>?_)
        ·show ab ⟨rfl,.inl ⟨_,_,_,_,_,rfl,by simpa only[LF,LK,Mt,Me,bo]using m3,∅,h2,∅,Js,by simp;lia⟩⟩
        ·show ab ⟨rfl,_,_,_,_,_,rfl,by simpa only[LF,LK,Mt,Me,bo]using m3,∅,h2,∅,Js,by simp;lia⟩
      ·skip
       refine Lr (aG hy ?_)
       try dsimp only
       let m3:=m2.pushB c h1 ∅ Kd Jw (by simpa using hl)
       refine ai (λh=>?_) (λh=>?_)
       ·skip
        let h:Jk-1=1:=by simpa using h
        show ab ⟨rfl,.inr ⟨_,_,rfl,by let r:=m3.finB (by rw[h];show Jt);simpa only[LF,LK,Mt,Me,bo]using r⟩⟩
       ·skip
        let h:Jk-1≠1:=by simpa using h
        refine ai (λ_=>?_) (λ_=>?_)
        ·show ab ⟨rfl,.inl ⟨_,_,_,_,_,rfl,by simpa only[LF,LK,Mt,Me,bo]using m3,h1,∅,Jq,∅,by simp;lia⟩⟩
        ·show ab ⟨rfl,_,_,_,_,_,rfl,by simpa only[LF,LK,Mt,Me,bo]using m3,h1,∅,Jq,∅,by simp;lia⟩
     ·rintro r Jd ⟨rfl,Jj,Jk,B,ac,bc,rfl,m2,h1,h2,Jq,Js,h3⟩;show⟨rfl,.inl ⟨_,_,_,_,_,rfl,m2,h1,h2,Jq,Js,∅⟩⟩
     ·rintro r Jd ⟨rfl,⟨Jj,Jk,B,ac,bc,rfl,m2,h1,h2,Jq,Js,h3⟩|⟨res,t,rfl,J⟩⟩
      ·try dsimp -zeta -zetaHave -zetaUnused only
       calc Lr (de ?_);refine Lr (aH (Q:=λr st'=>Same st st'/\((∃Je U F Jo ac bc,r=(Y,Je,U,F,Jo,ac,bc)/\MH lt a.toList b.toList F.toList Je U/\0<Je/\1<U/\Je<a.size/\U<=b.size/\i+2<=F.size)∨∃res t,r=(S res,t)/\Res lt a.toList b.toList res.toList))
        (MX (λj r st'=>Same st st'/\∃Je U F Jo ac bc,r=(Y,Je,U,F,Jo,ac,bc)/\MH lt a.toList b.toList F.toList Je U/\0<Je/\1<U/\Je<a.size/\U<=b.size/\i+2<=F.size) ?_ ?_ ⟨sm,_,_,_,_,_,_,rfl,m2,h1,h2,Jq,Js,h3⟩) ?_)
       ·rintro j r Ja _ hj ⟨Jp,Je,U,F,Jo,Ke,Kf,rfl,m3,h1,h2,Jq,Js,h5⟩;let⟨y,hy,Jw,JA⟩:=aK (a:=b) (i:=U-1) ∅
        calc B6 λQQ hQ=>?_;let G:∀(st':MY) (res:Array Lx) t,Same st st'->Res lt a.toList b.toList res.toList->QQ (.done (S res,t)) st':=λst' res t hs hr=>hQ _ _ ⟨hs,.inr ⟨_,_,rfl,hr⟩⟩;let KJ:∀(st':MY) (out:Array Lx) na nb mg ac bc,Same st st'->MH lt a.toList b.toList out.toList na nb->0<na->1<nb->na<a.size->nb<=b.size->i+2<=out.size->QQ (.done (Y,na,nb,out,mg,ac,bc)) st'/\QQ (.yield (Y,na,nb,out,mg,ac,bc)) st':=λst' out ia ib mg ac bc hs p1 p2 p3 p4 p5 p6=>⟨hQ _ _ ⟨hs,.inl ⟨_,_,_,_,_,_,rfl,p1,p2,p3,p4,p5,p6⟩⟩,hQ _ _ ⟨hs,_,_,_,_,_,_,rfl,p1,p2,p3,p4,p5,p6⟩⟩;clear hQ hj
        extract_lets -underBinder s0 vna s1 vnb s2 vout s3 vmg s4 vac vbc jp vmx
        let Kg:∀mg,wpS (LN prog w) A E s (jp () mg) QQ Ja:=by
         intro mg;dsimp -zeta -zetaHave -zetaUnused only[jp,s0,vna,s1,vnb,s2,vout,s3,vmg,s4,vac,vbc];clear vmx jp vbc vac s4 vmg s3 vout s2 vnb s1 vna s0;calc Lr (Og ?_);calc wV (P:=Same st) (Jp.trans ⟨rfl,rfl,rfl,rfl⟩) λJW Jg=>?_;let Kh:=Jg.kind.trans hk;calc Lr (aG hy ?_);refine Lr (hg WY y a [] (a.toList.take Je) (a.toList.drop Je) _ _ _ _ _ Kh (JU _ JA) (_) rfl (fW ∅) (λx hx=>JT x (OX hx)) ∅ ((Lp.mp m3.pa).1) λX F3 e hX hY=>?_)
         dsimp -zeta -zetaHave -zetaUnused only;let m4:=m3.galA c e ∅ Jw λx hx=>c.asym _ _ (wW (hY x hx))
         let Jh:0<X.length->∀x4,a.toList[X.length-1]?=S x4->lt y x4=WY:=λh0 x4 JC=>B7 (hX x4 (qh e h0 JC));let JX:=n9 e ∅
         extract_lets -underBinder +onlyGivenNames vk vac JD
         clear_value vac
         let JJ:∀(Jy:Nat) (O:Array Lx),MH lt a.toList b.toList O.toList Jy U->(∀x4,a.toList[Jy-1]?=S x4->lt y x4=WY)->0<Jy->Jy<a.size->i+2<=O.size->wpS (LN prog w) A E s (JD () Jy O) QQ JW:=by
          intro Jy O KK JE Kn Lg Ki;dsimp -zeta -zetaHave -zetaUnused only[JD];clear JD vk JX Jh m4 hX hY;let⟨x4,JC,Jl,Kj⟩:=aK (a:=a) (i:=Jy-1) ∅
          calc Lr (aG hy ?_);let m5:=KK.pushB c Kn ∅ Jl Jw (JE x4 Jl)
          rw[<-LK]at m5;let Jm:i+2<=(O.push y).size:=by rw[Ru];lia
          try dsimp -zeta -zetaHave -zetaUnused only
          extract_lets -underBinder +onlyGivenNames vo5
          dsimp -zeta -zetaHave -zetaUnused only[vo5];clear vo5
          revert m5 Jm
          generalize O.push y=out5;intro m5 Jm;refine ai (λh=>?_) (λh=>?_)
          ·show ab (G _ _ _ Jg (m5.finR (by rw[OR h];show Jt)))
          ·let h:U-1≠1:=by simpa using h
           calc Lr (aG JC ?_);refine Lr (hg WX x4 b [] (b.toList.take (U-1)) (b.toList.drop (U-1)) _ _ _ _ _ Kh (JT _ Kj) (_) rfl (fW ∅) (λx hx=>JU x (OX hx)) ∅ ((Lp.mp m5.pb).1) λX2 Y2 e2 JO JP=>?_)
           dsimp -zeta -zetaHave -zetaUnused only;let m6:=m5.galB c e2 Kn Jl λx hx=>wX (JP x hx);let Ji:0<X2.length->∀y6,b.toList[X2.length-1]?=S y6->lt x4 y6=WY:=λh0 y6 Kk=>c.asym _ _ (B8 (JO y6 (qh e2 h0 Kk)));let JY:=n9 e2 ∅
           extract_lets -underBinder +onlyGivenNames vk vbc JF
           clear_value vbc
           let JK:∀(JM:Nat) (Jc:Array Lx),MH lt a.toList b.toList Jc.toList Jy JM->(∀y6,b.toList[JM-1]?=S y6->lt x4 y6=WY)->1<JM->JM<=b.size->i+2<=Jc.size->wpS (LN prog w) A E s (JF () JM Jc) QQ JW:=by
            intro JM Jc KL JG L5 KM KZ;dsimp -zeta -zetaHave -zetaUnused only[JF];clear JF vk JY Ji m6 JO JP m5 Jm Ki h5 h1 h2 Jq Js hsz JN K2 Kl Km h3;let⟨y6,Kk,JL,L4⟩:=aK (a:=b) (i:=JM-1) ∅
            calc Lr (aG JC ?_);let m7:=KL.pushA c Kn ∅ Jl JL (JG y6 JL)
            rw[<-LK]at m7;dsimp only;refine ai (λh=>?_) (λh=>?_)
            ·show ab (G _ _ _ Jg (m7.finL (.inl (OR h))))
            ·let h:Jy-1≠0:=by simpa using h
             let:=λmg ac bc=>KJ JW (Jc.push x4) (Jy-1) JM mg ac bc Jg m7 ∅ L5 ∅ KM (by rw[Ru];lia)
             show ai (λ_=>ab (this _ _ _).1) (λ_=>ab (this _ _ _).2)
           clear_value JF
           refine ai (λh0=>?_) (λh0=>?_)
           ·dsimp only;let m6:=m6.cut (a:=b) e2;refine ai (λh=>?_) (λh=>?_)
            ·show ab (G _ _ _ Jg (m6.finR (by rw[OR h];show Jt)))
            ·let h:X2.length≠1:=by simpa using h
             refine ai (λh9=>?_) (λh9=>?_)
             ·show ab (G _ _ _ Jg (m6.finL (.inr (OR h9))))
             ·let h9:X2.length≠0:=by simpa using h9
              show JK _ _ m6 (Ji ∅) ∅ ∅ (by rw[PU];lia)
           ·let h0:¬(U-1-X2.length > 0):=h0;let hl:X2.length=U-1:=by lia
            let K8:0<X2.length:=∅
            let hr:=Ji K8;rw[hl]at hr;show JK _ _ m5 hr ∅ ∅ Jm
         clear_value JD
         refine ai (λh0=>?_) (λh0=>?_)
         ·dsimp only;let m4:=m4.cut (a:=a) e;refine ai (λh=>?_) (λh=>?_)
          ·show ab (G _ _ _ Jg (m4.finL (.inl (OR h))))
          ·let h:X.length≠0:=by simpa using h
           show JJ _ _ m4 (Jh ∅) ∅ ∅ (by rw[PU];lia)
         ·let h0:¬(Je-X.length > 0):=h0;let hl:X.length=Je:=by lia
          let hr:=Jh ∅
          rw[hl]at hr;show JJ _ _ m3 hr h1 Jq h5
        clear_value jp
        show ai (λ_=>Kg _) (λ_=>Kg _)
       ·rintro r Ja ⟨Jp,Je,U,F,Jo,Ke,Kf,rfl,m3,h1,h2,Jq,Js,h5⟩;show⟨Jp,.inl ⟨_,_,_,_,_,_,rfl,m3,h1,h2,Jq,Js,h5⟩⟩
       ·rintro r Ja ⟨Jp,⟨Je,U,F,Jo,Ke,Kf,rfl,m3,h1,h2,Jq,Js,h5⟩|⟨res,t,rfl,J⟩⟩
        ·try dsimp -zeta -zetaHave -zetaUnused only
         calc Lr (Og ?_);show ab ⟨Jp.trans ⟨rfl,rfl,rfl,rfl⟩,_,_,_,_,rfl,m3,h1,h2,Jq,Js,∅⟩
        ·show ab ⟨Jp,_,_,rfl,J⟩
      ·show ab ⟨sm,_,_,rfl,J⟩
    ·rintro r Jv ⟨sm,na,nb,out,mg,rfl,m,JN,K2,Kl,Km,hsz⟩;let:=m.size (by simp;lia) (by simp;lia)
     simp at this;lia
    ·rintro r Jv ⟨sm,res,t,rfl,J⟩;show ab (q res Jv J.1 J.2 sm)
end
end Srt
namespace Srt
variable{st:MY}{L R xs:List Lx}{i j n:Nat}{x:Lx}
section
variable{prog:LR}{w:Mn}{A:Mq}{E:gV->tv->Prop}{s:tv}{kd:Qj}{P:Lx->Prop}{lt:Lx->Lx->Bool}
structure Kp(st st':MY):Prop where
 kind:NJ st'=NJ st
 pend:LM st'=LM st
 fail:Oy st'=Oy st
def Kp.refl:Kp st st:=⟨rfl,rfl,rfl⟩
def Kp.trans{a b c:MY}(h:Kp a b)(g:Kp b c):Kp a c:=⟨g.kind.trans h.kind,g.pend.trans h.pend,g.fail.trans h.fail⟩
def rG{a:Array Lx}{B:List Lx}(e:a.toList=L++(B++R))(hi:i=L.length)(q:j=L.length+B.length):(mirror a i j ((j-i) / 2)).toList=L++(B.reverse++R):=by
 let hs:a.size=L.length+(B.length+R.length):=by rw[<-LX,e];simp
 apply OY;intro k;rw[Ma,getElem?_mirror_all ∅]
 let g:∀n:Nat,a[n]?=(L++(B++R))[n]?:=λn=>by rw[<-Ma,e]
 rw[g,g]
 by_cases h1:k<L.length
 ·rw[if_neg ∅,LC h1,LC h1]
 ·by_cases h2:k<j
  ·rw[if_pos ∅,Lo ∅,LC ∅,Lo ∅,LC (by simp;lia),List.getElem?_reverse ∅]
   congr 1;lia
  ·rw[if_neg ∅,Lo ∅,Lo ∅,Lo ∅,Lo (by simp;lia)]
   simp
def rH{a:Array Lx}{j q:List Lx}(e:a.toList=L++((j++q)++x::R)){src d:Nat}(hi:src=L.length+(j.length+q.length))(hd:d=q.length):(bubble a src d).toList=L++((j++x::q)++R):=by
 let hs:a.size=L.length+(j.length+q.length+(R.length+1)):=by rw[<-LX,e];simp;lia
 apply OY;intro k;rw[Ma,getElem?_bubble ∅ d ∅]
 let g:∀n:Nat,a[n]?=(L++((j++q)++x::R))[n]?:=λn=>by rw[<-Ma,e]
 rw[g,g,g]
 by_cases h1:k<L.length
 ·rw[if_neg ∅,if_neg ∅,LC h1,LC h1]
 ·by_cases h2:k<L.length+j.length
  ·rw[if_neg ∅,if_neg ∅,Lo ∅,LC (by simp;lia),LC ∅,Lo ∅,LC (by simp;lia),LC ∅]
  ·by_cases h3:k=L.length+j.length
   ·rw[if_pos ∅,Lo ∅,Lo (by simp;lia),Lo ∅,LC (by simp;lia),Lo ∅]
    let e1:src-L.length-(j++q).length=0:=by simp;lia
    let e2:k-L.length-j.length=0:=∅
    rw[e1,e2];rfl
   ·by_cases h4:k<=src
    ·rw[if_neg ∅,if_pos ∅,Lo ∅,LC (by simp;lia),Lo ∅,Lo ∅,LC (by simp;lia),Lo ∅]
     let e2:k-L.length-j.length=(k-1-L.length-j.length)+1:=∅
     rw[e2,Ot]
    ·rw[if_neg ∅,if_neg ∅,Lo ∅,Lo (by simp;lia),Lo ∅,Lo (by simp;lia)]
     let e2:k-L.length-(j++q).length=(k-L.length-(j++x::q).length)+1:=by simp;lia
     rw[e2,Ot]
def ee(c:Cm prog w A s kd P lt){y:Lx}{Q:Option Bool->MY->Prop}(z:NJ st=kd)(hx:(Mx st)[i]?=S x)(B:(Mx st)[j]?=S y)(px:P x)(py:P y)(q:Q (S (lt x y)) st):wpS (LN prog w) A E s (ltAt' i j) Q st:=by rw[ltAt'_eq];show Lr (Qs (Lr (aG hx (Lr (aG B (kB c z px py q))))))
def kC{Q:Unit->MY->Prop}{B:List Lx}(e:(Mx st).toList=L++(B++R))(hi:i=L.length)(z:j=L.length+B.length)(q:∀st',(Mx st').toList=L++(B.reverse++R)->Kp st st'->Q () st'):wpS (LN prog w) A E s (reverseSlice' i j) Q st:=by rw[reverseSlice'_eq];show Og (q _ (rG e hi z) ⟨rfl,rfl,rfl⟩)
def cz(e:(Mx st).toList=L++xs)(hi:i=L.length+n):(Mx st)[i]?=xs[n]?:=by
 rw[<-Ma,e,hi,Lo ∅]
 congr 1;lia
def qj(c:Cm prog w A s kd P lt){y:Lx}(h:Ord lt (xs.take n))(q:0<n)(hx:xs[n]?=S x)(B:xs[n-1]?=S y)(F:lt x y=WY):Ord lt (xs.take (n+1)):=by
 rw[V8,hx];refine Lp.mpr ⟨h,by simp,λz hz u j=>?_⟩
 simp at j;subst j;show iA c h q B F z hz
noncomputable abbrev dz(lt:Lx->Lx->Bool)(l:List Lx):Prop:=l.Pairwise λx y=>lt x y=WY
def jr(c:Cm prog w A s kd P lt){D:List Lx}{e:Lx}(h:dz lt (D++[e]))(hx:lt e x=WY):dz lt (D++[e]++[x]):=by
 refine Lp.mpr ⟨h,by simp,λz hz u j=>?_⟩
 simp at j;subst j;let⟨_,_,B⟩:=Lp.mp h
 rcases Lv.mp hz with g|g
 ·cases q:lt z u with
  |false=>rfl
  | true=>rcases c.neg z e u q with r|r
          ·rw[B z g e (_)]at r;cases r
          ·rw[hx]at r;cases r
 ·simp at g;subst g;show hx
def sU{q F:List Lx}(h:dz lt (q++F))(he:∀x∈F,∀y∈F,lt x y=WY):dz lt (q++F.reverse):=by let⟨h1,h2,z⟩:=Lp.mp h;calc Lp.mpr ⟨h1,?_,λx hx y j=>z x hx y (Q8.mp j)⟩;rw[TB];show h2.imp_of_mem λhx j _=>he _ j _ hx
def perm_take:(xs.take n++xs.drop n).Perm xs:=by rw[MV]
def rJ(c:Cm prog w A s kd P lt){Q:Option Nat->MY->Prop}(hk:NJ st=kd)(O:(Mx st).toList=L++xs)(h0:xs≠[])(hP:∀x∈xs,P x)(q:∀r R st',(Mx st').toList=L++(r++R)->(r++R).Perm xs->r≠[]->Ord lt r->Kp st st'->Q (S r.length) st'):wpS (LN prog w) A E s (countRun' L.length xs.length) Q st:=by
 let Jx:0<xs.length:=Mz.mpr h0;rw[countRun'_eq]
 try dsimp -zeta -zetaHave -zetaUnused only
 refine Lr (aH (Q:=λr st'=>st'=st/\∃n,r=(Y,n)/\1<=n/\n<=xs.length/\Ord lt (xs.take n)/\(n=xs.length∨∃x y,xs[n]?=S x/\xs[n-1]?=S y/\lt x y=WX))
  (MX (fun i r st'=>st'=st/\r=(Y,i)/\Ord lt (xs.take i)) ?_ ?_ ⟨rfl,rfl,by
   cases xs with
   |nil=>show absurd rfl h0
   |cons x t=>simp⟩) ?_)
 ·rintro i r st' h1 hi ⟨rfl,rfl,ho⟩;dsimp only;obtain⟨x,hx⟩:∃x,xs[i]?=S x:=⟨_,D1 hi⟩;obtain⟨y,hy⟩:∃y,xs[i-1]?=S y:=⟨_,D1 ∅⟩
  refine Lr (ee c hk ((cz O rfl).trans hx) ((cz O ∅).trans hy) (hP _ (LJ hx)) (hP _ (LJ hy)) ?_)
  dsimp only;refine ai (λh=>?_) (λh=>?_)
  ·show ab ⟨rfl,i,rfl,h1,∅,ho,.inr ⟨x,y,hx,hy,h⟩⟩
  ·show ab ⟨rfl,rfl,qj c ho ∅ hx hy (by simpa using h)⟩
 ·rintro r st' ⟨rfl,rfl,ho⟩;show⟨rfl,_,rfl,∅,∅,ho,.inl ∅⟩
 ·rintro r st' ⟨rfl,n,rfl,JU,Jy,ho,hc⟩;dsimp -zeta -zetaHave -zetaUnused only;let Jl:Q (S n) st':=by
   let:=q (xs.take n) (xs.drop n) st' (by rw[O,MV]) perm_take (λz=>by let h3:=congrArg OE z;rw[LS,Nm]at h3;lia) ho Kp.refl
   rw[LS,NU Jy]at this;show this
  extract_lets -underBinder +onlyGivenNames vr vn
  dsimp -zeta -zetaHave -zetaUnused only[vr];clear vr;let en:n=vn:=rfl
  clear_value vn
  subst en;calc ai (λh=>ab Jl) (λh=>?_);let JJ:n≠xs.length:=by simpa using h
  let⟨x,y,hx,hy,JK⟩:=hc.resolve_left JJ;let JV:n<xs.length:=∅
  let exs:xs=xs.take n++x::xs.drop (n+1):=by let h1:=(MV n xs).symm;rw[eF hx]at h1;show h1
  let Jz:y∈xs.take n:=by rw[df ∅ hy];simp
  extract_lets -underBinder +onlyGivenNames jp
  let JA:∀(B:List Lx) (Jb:MY),(Mx Jb).toList=L++(B++x::xs.drop (n+1))->B.Perm (xs.take n)->B.length=n->(∀u∈B,∀v∈B,lt u v=WY)->y∈B->Kp st' Jb->wpS (LN prog w) A E s (jp ()) Q Jb:=by
   intro B Jb e1 hB Jc Jd Je Jf;dsimp -zeta -zetaHave -zetaUnused only[jp];clear jp;refine Lr (de ?_)
   try dsimp -zeta -zetaHave -zetaUnused only
   extract_lets -underBinder +onlyGivenNames vn1 vq1
   let JL:vn1=n+1:=rfl;let eq1:vq1=0:=rfl
   clear_value vn1 vq1
   subst JL eq1;refine Lr (aH (Q:=λr U=>∃G F R neq,Kp st' U/\(Mx U).toList=L++((G++F)++R)/\((G++F)++R).Perm xs/\r=(Y,(G++F).length,neq)/\F.length=neq+1/\dz lt (G++F)/\(∀u∈F,∀v∈F,lt u v=WY))
    (MX (λi r U=>∃G F R neq,Kp st' U/\(Mx U).toList=L++((G++F)++R)/\((G++F)++R).Perm xs/\r=(Y,(G++F).length,neq)/\F.length=neq+1/\dz lt (G++F)/\(∀u∈F,∀v∈F,lt u v=WY)/\(G++F).length=i) ?_ ?_ ?_) ?_)
   ·rintro i r U JW hi ⟨G,F,R,neq,kp,ea,hp,rfl,hF,hN,hE,JB⟩;subst JB;let hlen:=hp.length_eq;rw[I7]at hlen;obtain⟨z,R',rfl⟩:∃z R',R=z::R':=by
     cases R with
     |nil=>simp at hlen;simp at hi;lia
     |cons z R'=>show⟨z,R',rfl⟩
    let JM:F≠[]:=λz=>by rw[z]at hF;simp at hF
    obtain⟨F0,e,rfl⟩:∃F0 e,F=F0++[e]:=⟨F.dropLast,F.getLast JM,(Ox _).symm⟩;let hz:(Mx U)[L.length+(G++(F0++[e])).length]?=S z:=by rw[cz ea rfl,Lo ∅,RC];rfl
    let he:(Mx U)[L.length+(G++(F0++[e])).length-1]?=S e:=by rw[cz ea (n:=(G++F0).length) (by simp<;>lia),LC (by simp<;>lia),<-LH,Lo ∅,RC];rfl
    let JC:P z:=hP z (hp.mem_iff.mp (_))
    let JD:P e:=hP e (hp.mem_iff.mp (_))
    dsimp only;calc Lr (ee c (kp.kind.trans hk) hz he JC JD ?_);dsimp only;let Jp:dz lt (G++F0++[e]):=by rw[LH];show hN
    refine ai (λJq=>?_) (λJq=>?_)
    ·let Jg:lt e z=WY:=c.asym _ _ Jq;refine ai (λJh=>?_) (λJh=>?_)
     ·refine Lr (kC (L:=L++G) (B:=F0++[e]) (R:=z::R') (by rw[ea];simp) (by simp only[I7]at hF⊢;simp only[LY]at hF⊢;lia) (by simp<;>lia) λZ e3 F3=>?_)
      refine ab ⟨G++(F0++[e]).reverse,[z],R',0,kp.trans F3,by rw[e3];simp,?_,by simp<;>lia,rfl,?_,?_,by simp<;>lia⟩
      ·calc OH.trans ?_ hp;rw[LH,LH,LH];show MW _ (Na _ (QO _))
      ·let h1:=sU hN hE;refine Lp.mpr ⟨h1,by simp,λu j v J=>?_⟩
       simp at J;subst J;let hm:=jr c Jp Jg;refine(Lp.mp hm).2.2 u ?_ v (_)
       rw[LH]
       rcases Lv.mp j with g|g
       ·show N7 _ g
       ·show LP _ (Q8.mp g)
      ·intro u j v J;simp at j J;subst j J;show c.irr
     ·refine ab ⟨G++(F0++[e]),[z],R',0,kp,by rw[ea];simp,by simpa using hp,by simp<;>lia,rfl,?_,?_,by simp<;>lia⟩
      ·let hm:=jr c Jp Jg;simpa using hm
      ·intro u j v J;simp at j J;subst j J;show c.irr
    ·let JN:lt z e=WY:=by simpa using Jq
     calc Lr (ee c (kp.kind.trans hk) he hz JD JC ?_);dsimp only;refine ai (λJE=>?_) (λJE=>?_)
     ·show ab ⟨G,F0++[e],z::R',neq,kp,ea,hp,rfl,hF,hN,hE⟩
     ·let Jg:lt e z=WY:=by simpa using JE
      refine ab ⟨G,(F0++[e])++[z],R',neq+1,kp,by rw[ea];simp,by simpa using hp,by simp<;>lia,by simp at hF⊢;lia,?_,?_,by simp<;>lia⟩
      ·let hm:=jr c Jp Jg;simpa using hm
      ·let JO:∀u∈F0++[e],lt u z=WY:=fun u j=>by
        cases q1:lt u z with
        |false=>rfl
        | true=>rcases c.neg u e z q1 with r|r
                ·rw[hE u j e (_)]at r;cases r
                ·rw[Jg]at r;cases r
       let JP:∀u∈F0++[e],lt z u=WY:=λu j=>by
        cases q1:lt z u with
        |false=>rfl
        | true=>rcases c.neg z e u q1 with r|r
                ·rw[JN]at r;cases r
                ·rw[hE e (_) u j]at r;cases r
       intro u j v J
       rcases Lv.mp j with g|g<;>rcases Lv.mp J with g2|g2
       ·show hE u g v g2
       ·simp at g2;subst g2;show JO u g
       ·simp at g;subst g;show JP v g2
       ·simp at g g2;subst g g2;show c.irr
   ·rintro r U ⟨G,F,R,neq,kp,ea,hp,hr,hF,hN,hE,JB⟩;show⟨G,F,R,neq,kp,ea,hp,hr,hF,hN,hE⟩
   ·refine⟨B,[x],xs.drop (n+1),0,Jf,by rw[e1];simp,?_,by simp[Jc],rfl,?_,?_,by simp[Jc]⟩
    ·let h9:(B++x::xs.drop (n+1)).Perm xs:=by
      let h9:=Na (x::xs.drop (n+1)) hB;rw[<-exs]at h9;show h9
     simpa using h9
    ·refine Lp.mpr ⟨Qk (λj J _=>Jd _ j _ J) (List.pairwise_of_forall_mem_list (r:=λ_ _=>True) λ_ _ _ _=>trivial),by simp,λu j v J=>?_⟩
     simp at J;subst J
     cases q1:lt u v with
     |false=>rfl
     | true=>rcases c.neg u y v q1 with r|r
             ·rw[Jd u j y Je]at r;cases r
             ·rw[c.asym _ _ JK]at r;cases r
    ·intro u j v J;simp at j J;subst j J;show c.irr
   ·rintro r U ⟨G,F,R,neq,kp,ea,hp,rfl,hF,hN,hE⟩;dsimp -zeta -zetaHave -zetaUnused only
    extract_lets -underBinder +onlyGivenNames vr vs vn2 vq2
    dsimp -zeta -zetaHave -zetaUnused only[vr];let JQ:vn2=(G++F).length:=rfl;let eq2:neq=vq2:=rfl
    clear_value vn2 vq2
    clear vs vr;subst JQ eq2
    extract_lets -underBinder +onlyGivenNames Ji
    let Jm:∀(D:List Lx) (Z:MY),(Mx Z).toList=L++(D++R)->dz lt D->(D++R).Perm xs->D.length=(G++F).length->0<D.length->Kp st' Z->wpS (LN prog w) A E s (Ji ()) Q Z:=by
     intro D Z e3 Jr Js Jj Jn F3;dsimp -zeta -zetaHave -zetaUnused only[Ji];clear Ji;let JR:0<D.length:=∅
     refine Lr (kC (L:=L) (B:=D) (R:=R) e3 rfl (by rw[Jj]) λJF e4 JG=>?_)
     let o4:Ord lt D.reverse:=TB.mpr Jr;let Jk:(D.reverse++R).Perm xs:=(Na _ (QO D)).trans Js;let JH:(D.reverse++R).length=xs.length:=Jk.length_eq;let Jt:Ord lt ((D.reverse++R).take D.length):=by rw[List.take_append_of_le_length (_),NF (_)];show o4
     let Ju:∀u∈D.reverse++R,P u:=λu j=>hP u (Jk.mem_iff.mp j);let JS:D.length<=xs.length:=by rw[<-JH];simp
     rw[<-Jj];generalize D.length=N0 at Jt JR JS;generalize D.reverse++R=ys at e4 Jk JH Jt Ju;refine Lr (aH (Q:=λr Ja=>Ja=JF/\∃n,r=(Y,n)/\1<=n/\n<=xs.length/\Ord lt (ys.take n))
      (MX (λi r Ja=>Ja=JF/\r=(Y,i)/\Ord lt (ys.take i)) ?_ ?_ ⟨rfl,rfl,Jt⟩) ?_)
     ·rintro i r Ja h1 hi ⟨rfl,rfl,ho⟩;dsimp only;obtain⟨u,j⟩:∃u,ys[i]?=S u:=⟨_,D1 ∅⟩
      obtain⟨v,J⟩:∃v,ys[i-1]?=S v:=⟨_,D1 ∅⟩
      refine Lr (ee c ((F3.trans JG).kind.trans hk) ((cz e4 rfl).trans j) ((cz e4 ∅).trans J) (Ju _ (LJ j)) (Ju _ (LJ J)) ?_)
      dsimp only;refine ai (λh=>?_) (λh=>?_)
      ·show ab ⟨rfl,i,rfl,∅,∅,ho⟩
      ·show ab ⟨rfl,rfl,qj c ho ∅ j J (by simpa using h)⟩
     ·rintro r Ja ⟨rfl,rfl,ho⟩;show⟨rfl,_,rfl,∅,∅,ho⟩
     ·rintro r Ja ⟨rfl,m,rfl,JX,JY,ho⟩;calc ab ?_;let:=q (ys.take m) (ys.drop m) Ja (by rw[e4,MV]) (perm_take.trans Jk) (fun z=>by
       let h3:=congrArg OE z;rw[LS,Nm]at h3;lia) ho (F3.trans JG)
      rw[LS,NU ∅]at this
      show this
    clear_value Ji
    refine ai (λJh=>?_) (λJh=>?_)
    ·refine Lr (kC (L:=L++G) (B:=F) (R:=R) (by rw[ea];simp) (by simp<;>lia) (by simp<;>lia) λZ e3 F3=>?_)
     let F3:=kp.trans F3;let e3:(Mx Z).toList=L++((G++F.reverse)++R):=by rw[e3];simp
     let Jr:=sU hN hE;let Js:((G++F.reverse)++R).Perm xs:=(Na _ (MW _ (QO _))).trans hp;let Jj:(G++F.reverse).length=(G++F).length:=by simp
     let Jn:0<(G++F.reverse).length:=by simp<;>lia
     show Jm _ _ e3 Jr Js Jj Jn F3
    ·show Jm _ _ ea hN hp rfl (by simp<;>lia) kp
  clear_value jp
  refine ai (λh1=>?_) (λh1=>?_)
  ·obtain⟨x0,Jv⟩:∃x0,xs[0]?=S x0:=⟨_,D1 Jx⟩;refine Lr (ee c hk ((cz O (n:=0) ∅).trans Jv) ((cz O ∅).trans hy) (hP _ (LJ Jv)) (hP _ (LJ hy)) ?_)
   dsimp only;calc ai (λhr=>ab Jl) (λhr=>?_);let hr:lt x0 y=WY:=by simpa using hr
   let JI:∀u∈xs.take n,lt u x0=WY:=λu j=>by
    let⟨i,hi,eu⟩:=Oi.mp j;let Jw:(xs.take n)[i]?=S u:=by rw[<-eu];show D1 hi
    let Jo:(xs.take n)[0]?=S x0:=by rw[Qe ∅];show Jv
    by_cases hi0:i=0
    ·subst hi0;rw[Jo]at Jw;cases Jw;show c.irr
    ·show fA ho ∅ Jo Jw
   let JT:∀u∈xs.take n,lt y u=WY:=iA c ho ∅ hy c.irr
   let heq:∀u∈xs.take n,∀v∈xs.take n,lt u v=WY:=λu j v J=>by show c.le_trans (c.le_trans (JT v J) hr) (JI u j)
   refine Lr (kC (L:=L) (B:=xs.take n) (R:=x::xs.drop (n+1)) (by rw[O];show congrArg (L ++ ·) exs) rfl (by rw[LS,NU Jy]) λJb e1 Jf=>?_)
   let hB:(xs.take n).reverse.Perm (xs.take n):=QO _;let Jc:(xs.take n).reverse.length=n:=by rw[Ug,LS];lia
   let Jd:∀u∈(xs.take n).reverse,∀v∈(xs.take n).reverse,lt u v=WY:=λu j v J=>heq u (Q8.mp j) v (Q8.mp J);let Je:y∈(xs.take n).reverse:=Q8.mpr Jz;show JA _ _ e1 hB Jc Jd Je Jf
  ·let Jb:=st';let hn:n=1:=by lia
   let Jf:Kp st' st':=Kp.refl;let e1:(Mx st').toList=L++(xs.take n++x::xs.drop (n+1)):=by rw[O];show congrArg (L ++ ·) exs
   let hB:(xs.take n).Perm (xs.take n):=Sa _;let Jc:(xs.take n).length=n:=by rw[LS];lia
   let Je:=Jz;let Jd:∀u∈xs.take n,∀v∈xs.take n,lt u v=WY:=λu j v J=>by
    let e0:xs.take n=[y]:=by subst hn;rw[df ∅ hy];rfl
    rw[e0]at j J;simp at j J;subst j J;show c.irr
   show JA _ _ e1 hB Jc Jd Je Jf
end
end Srt
namespace Srt
variable{R:List Lx}{st:MY}
section
variable{prog:LR}{w:Mn}{A:Mq}{E:gV->tv->Prop}{s:tv}{kd:Qj}{P:Lx->Prop}{lt:Lx->Lx->Bool}
def wY(c:Cm prog w A s kd P lt){L r:List Lx}{n:Nat}{Q:Bool->MY->Prop}(hk:NJ st=kd)(Z:(Mx st).toList=L++(r++R))(h0:r≠[])(ho:Ord lt r)(hn:r.length<=n)(Ja:n<=(r++R).length)(hP:∀x∈r++R,P x)(q:∀r' R' st',(Mx st').toList=L++(r'++R')->(r'++R').Perm (r++R)->r'.length=n->Ord lt r'->Kp st st'->Q WX st'):wpS (LN prog w) A E s (binarySort' L.length n r.length) Q st:=by
 let Jg:0<r.length:=Mz.mpr h0;rw[binarySort'_eq];refine Lr (aH (Q:=λx st'=>x=(Y,())/\∃D T,Kp st st'/\(Mx st').toList=L++(D++T)/\(D++T).Perm (r++R)/\D.length=n/\Ord lt D)
  (MX (λi x st'=>x=(Y,())/\∃D T,Kp st st'/\(Mx st').toList=L++(D++T)/\(D++T).Perm (r++R)/\D.length=i/\Ord lt D) ?_ ?_ ⟨rfl,r,R,Kp.refl,Z,Sa _,∅,ho⟩) ?_)
 ·rintro k x B Jh Ji ⟨rfl,D,T,kp,ea,J,hD,O⟩;dsimp only;subst hD;let hlen:=J.length_eq;rw[I7]at hlen;obtain⟨z,T',rfl⟩:∃z T',T=z::T':=by
   cases T with
   |nil=>simp at hlen Ja;lia
   |cons z T'=>show⟨z,T',rfl⟩
  let Jb:∀u∈D,P u:=λu G=>hP u (J.mem_iff.mp (N7 _ G));let Jc:P z:=hP z (J.mem_iff.mp (_))
  let hz:(Mx B)[L.length+D.length]?=S z:=by rw[cz ea rfl,Lo ∅,RC];rfl
  refine Lr (aH (Q:=λx st'=>st'=B/\∃k,x=(Y,k,k)/\Gal lt WY z D k k)
   (MX (fun i x st'=>st'=B/\∃lo hi,x=(Y,lo,hi)/\Gal lt WY z D lo hi/\hi-lo+i<=D.length) ?_ ?_ ⟨rfl,0,D.length,rfl,⟨∅,∅,fun _ _ h=>∅,fun i x hi hx=>by let:=(J4.mp hx).1;lia⟩,∅⟩) ?_)
  ·rintro i x U _ hi ⟨rfl,lo,j,rfl,F,hm⟩;dsimp only;let hl:=F.le;let Jd:=F.len;refine ai (λJe=>?_) (λJe=>?_)
   ·show ab ⟨rfl,j,by rw[show lo=j by lia],by rw[show lo=j by lia]at F;show F⟩
   ·obtain⟨u,G⟩:∃u,D[(lo+j) / 2]?=S u:=⟨_,D1 ∅⟩
    let Jf:(Mx U)[L.length+(lo+j) / 2]?=S u:=by rw[cz ea rfl,LC ∅];show G
    calc Lr (ee c (kp.kind.trans hk) hz Jf Jc (Jb _ (LJ G)) ?_);dsimp only;refine ai (λhf=>?_) (λhf=>?_)
    ·show ab ⟨rfl,_,_,rfl,⟨∅,∅,F.up,iz c O G (by simp[bey,hf])⟩,∅⟩
    ·show ab ⟨rfl,_,_,rfl,⟨∅,Jd,iy c O G (by simpa[bey]using hf),F.dn⟩,∅⟩
  ·rintro x U ⟨rfl,lo,j,rfl,F,hm⟩;let hl:=F.le;show⟨rfl,j,by rw[show lo=j by lia],by rw[show lo=j by lia]at F;show F⟩
  ·rintro x U ⟨rfl,l,rfl,F⟩;dsimp only;let⟨X,F3,e,hl,hX,hY⟩:=F.out;subst hl e;rw[moveDown'_eq];calc Lr (Og ?_);refine ab ⟨rfl,X++z::F3,T',kp.trans ⟨rfl,rfl,rfl⟩,rH ea (_) (by simp;lia),?_,by simp;lia,?_⟩
   ·calc OH.trans ?_ J;rw[LH,LH];calc MW _ ?_;rw[List.cons_append];show List.perm_middle.symm
   ·let⟨o1,o2,o3⟩:=Lp.mp O;refine Lp.mpr ⟨o1,S8.mpr ⟨λu G=>c.asym _ _ (by let:=hY u G;simpa[bey]using this),o2⟩,λu G v hv=>?_⟩
    rcases Lw.mp hv with g|g
    ·subst g;let:=hX u G;simpa[bey]using this
    ·show o3 u G v g
 ·rintro x B ⟨rfl,D,T,kp,ea,J,hD,O⟩;show⟨rfl,D,T,kp,ea,J,∅,O⟩
 ·rintro x B ⟨rfl,D,T,kp,ea,J,hD,O⟩;show ab (q D T B ea J hD O kp)
abbrev Pd:Nat->List (List Lx)->List (Nat×Nat×Nat)->Prop
 |_,[],ps=>ps=[]
 |s,r::rs,ps=>∃p t,ps=(s,r.length,p)::t/\Pd (s+r.length) rs t
def Pd.split:∀{l t:List (List Lx)} {s:Nat} {ps:List (Nat×Nat×Nat)},Pd s (l++t) ps->∃pl pt,ps=pl++pt/\pl.length=l.length/\Pd s l pl/\Pd (s+l.flatten.length) t pt
 |[],t,s,ps,h=>⟨[],ps,rfl,rfl,rfl,by simpa using h⟩
 |r::l,t,s,ps,h=>by
  let⟨p,q,e,h⟩:=h;let⟨pl,pt,e2,j,h1,h2⟩:=Pd.split h;refine⟨(s,r.length,p)::pl,pt,by rw[e,e2];rfl,by simp[j],⟨p,pl,rfl,h1⟩,?_⟩
  rw[N9,I7,<-PM];show h2
def Pd.join:∀{l t:List (List Lx)} {s:Nat} {pl pt:List (Nat×Nat×Nat)},Pd s l pl->Pd (s+l.flatten.length) t pt->Pd s (l++t) (pl++pt)
 |[],t,s,pl,pt,h,g=>by let:pl=[]:=h;subst this;simpa using g
 |r::l,t,s,pl,pt,h,g=>by let⟨p,q,e,h⟩:=h;subst e;calc⟨p,q++pt,rfl,Pd.join h ?_⟩;rw[N9,I7,<-PM]at g;show g
def Pd.length:∀{l:List (List Lx)} {s:Nat} {ps:List (Nat×Nat×Nat)},Pd s l ps->ps.length=l.length
 |[],_,_,h=>by rw[show _=[]from h];rfl
 |r::l,s,ps,h=>by let⟨p,q,e,h⟩:=h;rw[e];simp[h.length]
structure Rn(lt:Lx->Lx->Bool)(kd:Qj)(a₀:List Lx)(st:MY)(rs:List (List Lx))(R:List Lx):Prop where
 arr:(Mx st).toList=rs.flatten++R
 perm:(rs.flatten++R).Perm a₀
 ord:∀r∈rs,r≠[]/\Ord lt r
 pend:Pd 0 rs (LM st).toList
 kind:NJ st=kd
 fail:Oy st=Y
def Rn.merge(c:Cm prog w A s kd P lt){a₀:List Lx}(hP:∀x∈a₀,P x){l t:List (List Lx)}{j F:List Lx}(h:Rn lt kd a₀ st (l++j::F::t) R){i:Nat}(hi:i=l.length){Q:Bool->MY->Prop}(q:∀m st',Rn lt kd a₀ st' (l++m::t) R->m.length=j.length+F.length->Q WX st'):wpS (LN prog w) A E s (Wj i) Q st:=by
 let⟨g,lo,Jf,⟨O,U,F3⟩,Z⟩:=FL (E:=E) c;let⟨pl,pt,ep,J,Ja,Jb⟩:=h.pend.split;let⟨L,t1,e1,Jc⟩:=Jb;let⟨p2,t2,e2,Jd⟩:=Jc;subst e1 e2;let o1:=h.ord j (_)
 let o2:=h.ord F (_)
 let G:∀x,x∈j∨x∈F->P x:=λx hx=>hP x (h.perm.mem_iff.mp (by simp only[Oz,N9,Lv];rcases hx with z|z<;>simp[z]))
 let ip:∀(k:Nat) (v:Nat×Nat×Nat),(LM st).toList[k]?=S v->(LM st)[k]?=S v:=λk v e=>by rw[<-Ma];show e
 refine Z O (U O) (F3 O) i (0+l.flatten.length) j.length L (0+l.flatten.length+j.length) F.length p2 l.flatten j F (t.flatten++R) st Q h.kind h.fail (ip _ _ ?_) (ip _ _ ?_) (by rw[h.arr];simp) (RE _) rfl ∅ rfl o1.1 o2.1 (λx hx=>G x (.inl hx)) (λx hx=>G x (.inr hx)) o1.2 o2.2 ?_
 ·rw[ep,hi,<-J,Lo ∅,RC];rfl
 ·rw[ep,hi,<-J,Lo ∅,show pl.length+1-pl.length=1 by lia];rfl
 ·intro m st' ea hm om hk hf Je;let B:m.length=j.length+F.length:=by rw[hm.length_eq];simp
  refine q m st' ⟨by rw[ea];simp,?_,?_,?_,hk,hf⟩ B
  ·calc OH.trans ?_ h.perm;simp only[Oz,N9,LH];calc MW _ ?_;rw[<-LH j];show Na _ hm
  ·intro r hr
   rcases Lv.mp hr with z|z
   ·show h.ord r (N7 _ z)
   ·rcases Lw.mp z with z|z
    ·subst z;show⟨λz=>by rw[z]at B;let:=Mz.mpr o1.1;simp at B;lia,om⟩
    ·show h.ord r (by simp[z])
  ·rw[Je];let e3:(((LM st).setIfInBounds i (0+l.flatten.length,j.length+F.length,L)).eraseIdxIfInBounds (i+1)).toList=pl++(0+l.flatten.length,j.length+F.length,L)::t2:=by
    rw[Array.toList_eraseIdxIfInBounds,S9,ep,hi,<-J];rw[TF _ _ ∅,RC,QA ∅,show pl.length+1-pl.length=1 by lia];rfl
   rw[e3];refine Ja.join ⟨L,t2,by rw[B],?_⟩
   rw[B,<-PM];show Jd
def qk{α:Type}{l:List α}(h:1<l.length):∃t a b,l=t++[a,b]:=by
 obtain⟨t1,b,e1⟩:∃t b,l=t++[b]:=⟨l.dropLast,l.getLast (λz=>by rw[z]at h;simp at h),(Ox _).symm⟩
 obtain⟨j,a,e2⟩:∃t b,t1=t++[b]:=⟨t1.dropLast,t1.getLast (λz=>by rw[e1,z]at h;simp at h),(Ox _).symm⟩
 show⟨j,a,b,by rw[e1,e2];simp⟩
def Es{α:Type}{l:List α}{i:Nat}(h:i+1<l.length):∃t a b u,l=t++a::b::u/\t.length=i:=by
 refine⟨l.take i,l[i],l[i+1],l.drop (i+2),?_,by rw[LS];lia⟩
 rw[<-MK ∅,<-MK ∅,MV]
def Rn.size{a₀:List Lx}{rs:List (List Lx)}(h:Rn lt kd a₀ st rs R):rs.flatten.length+R.length=a₀.length:=by let:=h.perm.length_eq;rw[I7]at this;show this
def sV:∀{rs:List (List Lx)},(∀r∈rs,r≠[])->rs.length<=rs.flatten.length
 |[],_=>by simp
 |r::rs,h=>by
  let h1:=Mz.mpr (h r (_))
  let h2:=sV (rs:=rs) λr hr=>h r (by simp[hr])
  rw[N9,I7,My];lia
def wZ{l:List (List Lx)}{s pw:Nat}{ps:Array (Nat×Nat×Nat)}(h:Pd s l ps.toList):Pd s l (ps.modify (ps.size-1) λx=>(x.1,x.2.1,pw)).toList:=by
 rw[Array.toList_modify];let g:∀(l:List (List Lx)) (s k:Nat) (ps:List (Nat×Nat×Nat)),Pd s l ps->Pd s l (ps.modify k λx=>(x.1,x.2.1,pw)):=by
  intro l
  induction l with
  |nil=>intro s k ps h;let:ps=[]:=h;subst this;cases k<;>rfl
  |cons r l ih=>
   intro s k ps h;let⟨p,t,e,h⟩:=h;subst e
   cases k with
   |zero=>show⟨pw,t,rfl,h⟩
   |succ k=>show⟨p,_,rfl,ih _ k t h⟩
 show g _ _ _ _ h
def rK(c:Cm prog w A s kd P lt){Q:Unit->MY->Prop}(hk:NJ st=kd)(hf:Oy st=Y)(hp:LM st=#[])(hP:∀x∈(Mx st).toList,P x)(q:∀st',(Mx st').toList.Perm (Mx st).toList->Ord lt (Mx st').toList->Oy st'=Y->Q () st'):wpS (LN prog w) A E s sortRuns' Q st:=by
 rw[sortRuns'_eq];refine Lr (Qs ?_)
 try dsimp only
 let hsz:(Mx st).size=(Mx st).toList.length:=by simp
 generalize hA:(Mx st).toList=a₀ at hP q hsz;generalize hS:(Mx st).size=size at hsz;generalize minRun' size size 0=minrun;refine Lr (aH (Q:=λr st'=>∃rs lo,r=(Y,lo)/\Rn lt kd a₀ st' rs [])
  (MX (λi r st'=>∃rs R,r=(Y,rs.flatten.length)/\Rn lt kd a₀ st' rs R/\i<=rs.flatten.length) ?_ ?_ ⟨[],a₀,rfl,⟨by simpa using hA,by simp,by simp,by rw[hp];rfl,hk,hf⟩,by simp⟩) ?_)
 ·rintro i r Jh _ hi ⟨rs,R,rfl,L,Je⟩
  try dsimp only
  let Js:=L.size;refine ai (λJp=>?_) (λJp=>?_)
  ·let:R=[]:=Mp.mp ∅
   subst this;show ab ⟨rs,_,rfl,L⟩
  ·let Ji:size-rs.flatten.length=R.length:=by lia
   let Jq:R≠[]:=λz=>by rw[z,Nm]at Ji;lia
   let Jj:∀x∈R,P x:=λx hx=>hP x (L.perm.mem_iff.mp (LP _ hx));rw[Ji];refine Lr (rJ c L.kind L.arr Jq Jj λr R1 J ea Ja U ho kp=>?_)
   try dsimp only
   let F:Rn lt kd a₀ J rs (r++R1):=⟨ea,(MW _ Ja).trans L.perm,L.ord,by rw[kp.pend];show L.pend,kp.kind.trans L.kind,kp.fail.trans L.fail⟩
   let Jk:r.length+R1.length=R.length:=by rw[<-Ja.length_eq];simp
   refine ai (λJf=>?_) (λJf=>?_)
   ·calc Lr (de ?_);refine Lr (wY c F.kind F.arr U ho (n:=min R.length minrun) ∅ (by simp;lia) (λx hx=>Jj x (Ja.mem_iff.mp hx)) λr2 R2 B Jl Jd G Jr Jc=>?_)
    try dsimp only
    refine ai (λh=>absurd h (_)) (λ_=>?_)
    let Jm:r2≠[]:=λz=>by rw[z]at G;simp at G;let:=Mz.mpr U;lia
    let F:Rn lt kd a₀ B rs (r2++R2):=⟨Jl,(MW _ Jd).trans F.perm,F.ord,by rw[Jc.pend];show F.pend,Jc.kind.trans F.kind,Jc.fail.trans F.fail⟩
    rw[<-G];clear G Jd Jl Jc ea Ja kp Jk Jf;generalize B=J at F;clear ho U;let ho:=Jr;let U:=Jm;generalize r2=r at F ho U;generalize R2=R1 at F;refine Lr (Qs ?_)
    try dsimp only
    let Jn:(LM J).size=rs.length:=by rw[<-LX];show F.pend.length
    cases hb:(LM J).back? with
    |none=>
     try dsimp only
     let HL:rs.flatten.length=rs.flatten.length:=rfl;calc Lr (Og ?_);let Jg:=Mz.mpr U;let F3:(rs++[r]).flatten.length=rs.flatten.length+r.length:=by rw[Oz,I7,HL];simp
     refine ab ⟨rs++[r],R1,by rw[F3],⟨by rw[show _=_ from F.arr];simp,?_,?_,?_,F.kind,F.fail⟩,by rw[F3];lia⟩
     ·refine OH.trans (PF (_)) F.perm
     ·intro u hu
      rcases Lv.mp hu with z|z
      ·show F.ord u z
      ·simp at z;subst z;show⟨U,ho⟩
     ·let h8:(LM (Qw J ((LM J).push (rs.flatten.length,r.length,0)))).toList=(LM J).toList++[(rs.flatten.length,r.length,0)]:=by
       change((LM J).push _).toList=_;rw[LK]
      rw[show _=_ from h8];show F.pend.join ⟨0,[],by rw[HL,RE],rfl⟩
    |some v=>
     let⟨s1,n1,p1⟩:=v
     try dsimp only
     refine Lr (aH (Q:=λx st'=>x=(Y,())/\∃rs',Rn lt kd a₀ st' rs' (r++R1)/\rs'.flatten.length=rs.flatten.length)
      (MX (λi x st'=>x=(Y,())/\∃rs',Rn lt kd a₀ st' rs' (r++R1)/\rs'.flatten.length=rs.flatten.length) ?_ ?_ ⟨rfl,rs,F,rfl⟩) ?_)
     ·rintro j x B _ hj ⟨rfl,rs',O,G⟩;refine Lr (Qs ?_)
      try dsimp only
      let Jb:(LM B).size=rs'.length:=by rw[<-LX];show O.pend.length
      by_cases h1:(LM B).size > 1
      ·rw[if_pos h1];let h2:(LM B)[(LM B).size-2]?=S ((LM B)[(LM B).size-2]'∅):=Mm ∅
       rw[h2]
       try dsimp only
       refine ai (λh=>?_) (λh=>?_)
       ·show ab ⟨rfl,rs',O,G⟩
       ·let⟨t,a,b,e⟩:=qk (l:=rs') ∅
        subst e;refine Lr (O.merge c hP (by rw[Jb];simp) λm Z h4 hm=>?_)
        refine ai (λh=>absurd h (_)) (λ_=>ab ⟨rfl,_,h4,?_⟩)
        rw[<-G];simp[hm]
      ·rw[if_neg h1];show ab ⟨rfl,rs',O,G⟩
     ·rintro x B ⟨rfl,rs',O,G⟩;show⟨rfl,rs',O,G⟩
     ·rintro x B ⟨rfl,rs',O,G⟩
      try dsimp only
      calc Lr (Og ?_);let h4:Rn lt kd a₀ (Qw B ((LM B).modify ((LM B).size-1) λx=>(x.1,x.2.1,power' size (2*s1+n1) (2*s1+n1+n1+r.length) size))) rs' (r++R1):=⟨O.arr,O.perm,O.ord,wZ O.pend,O.kind,O.fail⟩;generalize Jo:Qw B ((LM B).modify ((LM B).size-1) λx=>(x.1,x.2.1,power' size (2*s1+n1) (2*s1+n1+n1+r.length) size))=Z at h4;let HL:=G;calc Lr (Og ?_);let Jg:=Mz.mpr U;let F3:(rs'++[r]).flatten.length=rs.flatten.length+r.length:=by rw[Oz,I7,HL];simp
      refine ab ⟨rs'++[r],R1,by rw[F3],⟨by rw[show _=_ from h4.arr];simp,?_,?_,?_,h4.kind,h4.fail⟩,by rw[F3];lia⟩
      ·refine OH.trans (PF (_)) h4.perm
      ·intro u hu
       rcases Lv.mp hu with z|z
       ·show h4.ord u z
       ·simp at z;subst z;show⟨U,ho⟩
      ·let h8:(LM (Qw Z ((LM Z).push (rs.flatten.length,r.length,0)))).toList=(LM Z).toList++[(rs.flatten.length,r.length,0)]:=by
        change((LM Z).push _).toList=_;rw[LK]
       rw[show _=_ from h8];show h4.pend.join ⟨0,[],by rw[HL,RE],rfl⟩
   ·clear ea Ja kp Jk Jf;refine Lr (Qs ?_)
    try dsimp only
    let Jn:(LM J).size=rs.length:=by rw[<-LX];show F.pend.length
    cases hb:(LM J).back? with
    |none=>
     try dsimp only
     let HL:rs.flatten.length=rs.flatten.length:=rfl;calc Lr (Og ?_);let Jg:=Mz.mpr U;let F3:(rs++[r]).flatten.length=rs.flatten.length+r.length:=by rw[Oz,I7,HL];simp
     refine ab ⟨rs++[r],R1,by rw[F3],⟨by rw[show _=_ from F.arr];simp,?_,?_,?_,F.kind,F.fail⟩,by rw[F3];lia⟩
     ·refine OH.trans (PF (_)) F.perm
     ·intro u hu
      rcases Lv.mp hu with z|z
      ·show F.ord u z
      ·simp at z;subst z;show⟨U,ho⟩
     ·let h8:(LM (Qw J ((LM J).push (rs.flatten.length,r.length,0)))).toList=(LM J).toList++[(rs.flatten.length,r.length,0)]:=by
       change((LM J).push _).toList=_;rw[LK]
      rw[show _=_ from h8];show F.pend.join ⟨0,[],by rw[HL,RE],rfl⟩
    |some v=>
     let⟨s1,n1,p1⟩:=v
     try dsimp only
     refine Lr (aH (Q:=λx st'=>x=(Y,())/\∃rs',Rn lt kd a₀ st' rs' (r++R1)/\rs'.flatten.length=rs.flatten.length)
      (MX (λi x st'=>x=(Y,())/\∃rs',Rn lt kd a₀ st' rs' (r++R1)/\rs'.flatten.length=rs.flatten.length) ?_ ?_ ⟨rfl,rs,F,rfl⟩) ?_)
     ·rintro j x B _ hj ⟨rfl,rs',O,G⟩;refine Lr (Qs ?_)
      try dsimp only
      let Jb:(LM B).size=rs'.length:=by rw[<-LX];show O.pend.length
      by_cases h1:(LM B).size > 1
      ·rw[if_pos h1];let h2:(LM B)[(LM B).size-2]?=S ((LM B)[(LM B).size-2]'∅):=Mm ∅
       rw[h2]
       try dsimp only
       refine ai (λh=>?_) (λh=>?_)
       ·show ab ⟨rfl,rs',O,G⟩
       ·let⟨t,a,b,e⟩:=qk (l:=rs') ∅
        subst e;refine Lr (O.merge c hP (by rw[Jb];simp) λm Z h4 hm=>?_)
        refine ai (λh=>absurd h (_)) (λ_=>ab ⟨rfl,_,h4,?_⟩)
        rw[<-G];simp[hm]
      ·rw[if_neg h1];show ab ⟨rfl,rs',O,G⟩
     ·rintro x B ⟨rfl,rs',O,G⟩;show⟨rfl,rs',O,G⟩
     ·rintro x B ⟨rfl,rs',O,G⟩
      try dsimp only
      calc Lr (Og ?_);let h4:Rn lt kd a₀ (Qw B ((LM B).modify ((LM B).size-1) λx=>(x.1,x.2.1,power' size (2*s1+n1) (2*s1+n1+n1+r.length) size))) rs' (r++R1):=⟨O.arr,O.perm,O.ord,wZ O.pend,O.kind,O.fail⟩;generalize Jo:Qw B ((LM B).modify ((LM B).size-1) λx=>(x.1,x.2.1,power' size (2*s1+n1) (2*s1+n1+n1+r.length) size))=Z at h4;let HL:=G;calc Lr (Og ?_);let Jg:=Mz.mpr U;let F3:(rs'++[r]).flatten.length=rs.flatten.length+r.length:=by rw[Oz,I7,HL];simp
      refine ab ⟨rs'++[r],R1,by rw[F3],⟨by rw[show _=_ from h4.arr];simp,?_,?_,?_,h4.kind,h4.fail⟩,by rw[F3];lia⟩
      ·refine OH.trans (PF (_)) h4.perm
      ·intro u hu
       rcases Lv.mp hu with z|z
       ·show h4.ord u z
       ·simp at z;subst z;show⟨U,ho⟩
      ·let h8:(LM (Qw Z ((LM Z).push (rs.flatten.length,r.length,0)))).toList=(LM Z).toList++[(rs.flatten.length,r.length,0)]:=by
        change((LM Z).push _).toList=_;rw[LK]
       rw[show _=_ from h8];show h4.pend.join ⟨0,[],by rw[HL,RE],rfl⟩
 ·rintro r Jh ⟨rs,R,rfl,L,Je⟩;let:=L.size;let:R=[]:=Mp.mp ∅
  subst this;show⟨rs,_,rfl,L⟩
 ·rintro r Jh ⟨rs,lo,rfl,L⟩
  try dsimp only
  refine Lr (aH (Q:=λr st'=>r=(Y,())/\∃rs,Rn lt kd a₀ st' rs []/\rs.length<=1)
   (MX (λi r st'=>r=(Y,())/\∃rs,Rn lt kd a₀ st' rs []/\rs.length+i<=size) ?_ ?_ ⟨rfl,rs,L,?_⟩) ?_)
  ·rintro i r J _ hi ⟨rfl,rs,L,Je⟩;refine Lr (Qs ?_)
   try dsimp only
   let Jn:(LM J).size=rs.length:=by rw[<-LX];show L.pend.length
   refine ai (λh=>?_) (λh=>?_)
   ·show ab ⟨rfl,rs,L,∅⟩
   ·let go:∀k,k+1<rs.length->wpS (LN prog w) A E s (Wj k) (fun b st'=>b=WX/\∃rs',Rn lt kd a₀ st' rs' []/\rs'.length+1=rs.length) J:=by
     intro k hk;let⟨t,a,b,u,e,ht⟩:=Es hk;subst e;refine L.merge c hP ht.symm λm B O _=>⟨rfl,_,O,by simp;lia⟩
    refine Lr (aH (go _ ?_) ?_)
    ·(repeat' split)<;>lia
    ·rintro b B ⟨rfl,rs',O,G⟩;refine ai (λh=>absurd h (_)) (λ_=>ab ⟨rfl,rs',O,∅⟩)
  ·rintro r J ⟨rfl,rs,L,Je⟩;show⟨rfl,rs,L,∅⟩
  ·let h1:=sV λr hr=>(L.ord r hr).1;let h2:=L.size;simp only[Nm]at h2;lia
  ·rintro r J ⟨rfl,rs,L,hl⟩;refine ab (q J (by rw[L.arr];show L.perm) ?_ L.fail)
   rw[L.arr,MN]
   match rs,hl,L with
   |[],_,_=>show Ss
   |[r],_,L=>simpa using(L.ord r (_)).2
end
end Srt
namespace Srt
abbrev iB(cap:Nat):Prop:=∀(prog:LR) (w:Mn) (A:Mq) (E:gV->tv->Prop) (s:tv) (kd:Qj) (P:Lx->Prop) (lt:Lx->Lx->Bool),Cm prog w A s kd P lt->∀(st:MY) (Q:Unit->MY->Prop),NJ st=kd->Oy st=Y->LM st=#[]->(∀x∈(Mx st).toList,P x)->2<=(Mx st).size->(Mx st).size<=cap->
 (∀st',(Mx st').toList.Perm (Mx st).toList->Ord lt (Mx st').toList->Oy st'=Y->Q () st')->wpS (LN prog w) A E s sortRuns' Q st
def fX{cap:Nat}:iB cap:=λ_ _ _ _ _ _ _ _ c _ _ j hf z B _ _ q=>rK c j hf z B q
end Srt
namespace Srt
inductive Ky where
 |int (i:Int)
 |tup (l:List Ky)
mutual
noncomputable def az:Ky->Ky->Ordering
 |.int a,.int b=>if a<b then .lt else if a=b then .eq else .gt
 |.int _,.tup _=>.lt
 |.tup _,.int _=>.gt
 |.tup a,.tup b=>cmpKs a b
noncomputable def cmpKs:List Ky->List Ky->Ordering
 |[],[]=>.eq
 |[],_::_=>.lt
 |_::_,[]=>.gt
 |x::xs,y::ys=>(az x y).then (cmpKs xs ys)
end
mutual
theorem dA:∀a b,az b a=(az a b).swap
 |.int a,.int b=>by
  simp only[az]
  by_cases h1:a<b
  ·rw[if_pos h1,if_neg ∅,if_neg ∅];rfl
  ·by_cases h2:a=b
   ·rw[if_neg h1,if_pos h2,if_neg ∅,if_pos h2.symm];rfl
   ·rw[if_neg h1,if_neg h2,if_pos ∅];rfl
 |.int _,.tup _=>by simp[az]
 |.tup _,.int _=>by simp[az]
 |.tup a,.tup b=>by simp only[az];show cmpKs_swap a b
theorem cmpKs_swap:∀a b,cmpKs b a=(cmpKs a b).swap
 |[],[]=>rfl
 |[],_::_=>rfl
 |_::_,[]=>rfl
 |x::xs,y::ys=>by
  simp only[cmpKs];rw[dA x y,cmpKs_swap xs ys]
  cases az x y<;>rfl
end
mutual
theorem iC:∀a b,az a b=.eq->a=b
 |.int a,.int b,h=>by
  simp only[az]at h
  by_cases h1:a<b
  ·rw[if_pos h1]at h;cases h
  ·by_cases h2:a=b
   ·rw[h2]
   ·rw[if_neg h1,if_neg h2]at h;cases h
 |.int _,.tup _,h=>by simp[az]at h
 |.tup _,.int _,h=>by simp[az]at h
 |.tup a,.tup b,h=>by simp only[az]at h;rw[cmpKs_eq a b h]
theorem cmpKs_eq:∀a b,cmpKs a b=.eq->a=b
 |[],[],_=>rfl
 |[],_::_,h=>by simp[cmpKs]at h
 |_::_,[],h=>by simp[cmpKs]at h
 |x::xs,y::ys,h=>by
  simp only[cmpKs]at h
  cases e:az x y with
  |lt=>rw[e]at h;cases h
  |gt=>rw[e]at h;cases h
  |eq=>rw[e]at h;rw[iC x y e,cmpKs_eq xs ys h]
end
mutual
theorem kD:∀a b c,az a b=.lt->az b c=.lt->az a c=.lt
 |.int a,.int b,.int c,h,g=>by
  simp only[az]at h g⊢;let h1:a<b:=by
   by_cases h1:a<b
   ·show h1
   ·rw[if_neg h1]at h;split at h<;>cases h
  let h2:b<c:=by
   by_cases h1:b<c
   ·show h1
   ·rw[if_neg h1]at g;split at g<;>cases g
  rw[if_pos ∅]
 |.int _,.tup _,.int _,_,g=>by simp[az]at g
 |.int _,.int _,.tup _,_,_=>by simp[az]
 |.int _,.tup _,.tup _,_,_=>by simp[az]
 |.tup _,.int _,_,h,_=>by simp[az]at h
 |.tup _,.tup _,.int _,_,g=>by simp[az]at g
 |.tup a,.tup b,.tup c,h,g=>by simp only[az]at h g⊢;show cmpKs_trans a b c h g
theorem cmpKs_trans:∀a b c,cmpKs a b=.lt->cmpKs b c=.lt->cmpKs a c=.lt
 |[],[],_,h,_=>by simp[cmpKs]at h
 |[],_::_,[],_,g=>by simp[cmpKs]at g
 |[],_::_,_::_,_,_=>by simp[cmpKs]
 |_::_,[],_,h,_=>by simp[cmpKs]at h
 |_::_,_::_,[],_,g=>by simp[cmpKs]at g
 |x::xs,y::ys,z::zs,h,g=>by
  simp only[cmpKs]at h g⊢
  cases e:az x y with
  |gt=>rw[e]at h;cases h
  |eq=>
   let:=iC x y e;subst this;rw[e]at h
   cases e2:az x z with
   |gt=>rw[e2]at g;cases g
   |lt=>rfl
   |eq=>rw[e2]at g;show cmpKs_trans xs ys zs h g
  |lt=>
   cases e2:az y z with
   |gt=>rw[e2]at g;cases g
   |lt=>rw[kD x y z e e2];rfl
   |eq=>let:=iC y z e2;subst this;rw[e];rfl
end
abbrev ltK(a b:Ky):Bool:=az a b==.lt
abbrev ql(a b:List Ky):Bool:=cmpKs a b==.lt
def jt(a b:Ky)(h:ltK a b=WX):ltK b a=WY:=by unfold ltK at h⊢;rw[dA a b,(by simpa using h:az a b=.lt)];rfl
def gT(a b:Ky)(h:ltK a b=WY)(g:ltK b a=WY):a=b:=by
 unfold ltK at h g;rw[dA a b]at g;apply iC
 cases e:az a b with
 |eq=>rfl
 |lt=>rw[e]at h;cases h
 |gt=>rw[e]at g;cases g
def Cg(a b c:Ky)(h:ltK a c=WX):ltK a b=WX∨ltK b c=WX:=by
 cases e:ltK a b with
 |true=>show .inl rfl
 |false=>
  right
  cases e2:ltK b a with
  |false=>rw[gT a b e e2]at h;show h
  |true=>unfold ltK at h e2⊢;rw[kD b a c (by simpa using e2) (by simpa using h)];rfl
def xa(x y:Ky)(xs ys:List Ky):ql (x::xs) (y::ys)=if(!ltK x y && !ltK y x)=WX then ql xs ys else ltK x y:=by
 unfold ql ltK;rw[dA x y];simp only[cmpKs]
 cases az x y<;>simp
mutual
noncomputable def toK:Ni->Ky
 |.int i=>.int i
 |.tuple xs=>.tup (toKs xs)
 |_=>.int 0
noncomputable def toKs:List Ni->List Ky
 |[]=>[]
 |x::xs=>toK x::toKs xs
end
inductive Cmpb:Ni->Ni->Prop where
 |int (a b:Int):Cmpb (.int a) (.int b)
 |nil (ys:List Ni):Cmpb (.tuple []) (.tuple ys)
 |nil' (xs:List Ni):Cmpb (.tuple xs) (.tuple [])
 |cons {x y:Ni} {xs ys:List Ni}:Cmpb x y->Cmpb (.tuple xs) (.tuple ys)->Cmpb (.tuple (x::xs)) (.tuple (y::ys))
def Cmpb.eqv{x y:Ni}(h:Cmpb x y):Md x y=(!ltK (toK x) (toK y) && !ltK (toK y) (toK x)):=by
 let g:∀{x y:Ni},Cmpb x y->Md x y=(az (toK x) (toK y)==.eq):=by
  intro x y h
  induction h with
  |int a b=>
   simp only[Md,toK,az]
   by_cases h1:a<b
   ·rw[if_pos h1];simp;lia
   ·by_cases h2:a=b
    ·rw[if_neg h1,if_pos h2];simp[h2]
    ·rw[if_neg h1,if_neg h2];simp;lia
  |nil ys=>cases ys<;>simp[Md,MA,toK,toKs,az,cmpKs]
  |nil' xs=>cases xs<;>simp[Md,MA,toK,toKs,az,cmpKs]
  |@cons x y xs ys h1 h2 ih1 j=>
   simp only[Md]at j⊢;simp only[MA,toK,toKs,az,cmpKs]at j⊢;rw[ih1,j]
   cases az (toK x) (toK y)<;>simp
 rw[g h];unfold ltK;rw[dA (toK x) (toK y)]
 cases az (toK x) (toK y)<;>rfl
section
variable{prog:LR}{w:Mn}{A:Mq}{E:gV->tv->Prop}{s:tv}
def trd{b:Bool}{Q:Bool->tv->Prop}(q:Q b s):LD (LN prog w) A (truthOfDropped (.bool b)) Q E s:=by
 unfold truthOfDropped
 wp_walk
 show q
def iD(a b:Int):ltK (.int a) (.int b)=decide (a<b):=by
 simp only[ltK,az]
 by_cases h:a<b
 ·simp[h]
 ·by_cases h2:a=b<;>simp[h,h2]
def xb{a b:Int}{t u:Tok}{Q:gV->tv->Prop}(q:Q (.bool (decide (a<b))) s):LD (LN prog w) A (Ri .Lt (.int a t) (.int b u)) Q E s:=wpAny_richCompare_same (T:="int") rfl rfl F.slot_int_lt (call_int_lt ⟨by simp,q⟩)
abbrev cC:List Ni->List Ni->Option Bool
 |x::xs,y::ys=>if Md x y=WX then cC xs ys else S (ltK (toK x) (toK y))
 |_,_=>Y
def ju:∀{xs ys:List Ni},Cmpb (.tuple xs) (.tuple ys)->ltK (toK (.tuple xs)) (toK (.tuple ys))=match cC xs ys with|some b=>b|none=>decide (xs.length<ys.length)
 |[],[],_=>rfl
 |[],_::_,_=>by simp[cC,toK,toKs,ltK,az,cmpKs]
 |_::_,[],_=>by simp[cC,toK,toKs,ltK,az,cmpKs]
 |x::xs,y::ys,h=>by
  cases h with
  |cons h1 h2=>
   let ih:=ju h2;let e:∀a b:List Ky,ltK (.tup a) (.tup b)=ql a b:=λa b=>by simp[ltK,ql,az]
   simp only[toK,toKs,e]at ih⊢;rw[xa,<-h1.eqv];simp only[cC]
   split
   ·rw[ih];simp
   ·rfl
abbrev cP{α β:Type}(M:QB)(A:Mq)(E:gV->tv->Prop)(f:α->β->Sem (ForInStep β))(Q:β->tv->Prop):List α->β->tv->Prop
 |[],c,s=>Q c s
 |x::xs,c,s=>LD M A (f x c) (λr s'=>match r with|.done c'=>Q c' s'|.yield c'=>cP M A E f Q xs c' s') E s
def fY{α β:Type}{M:QB}{f:α->β->Sem (ForInStep β)}{Q:β->tv->Prop}:∀{l:List α} {c:β} {s:tv},cP M A E f Q l c s->LD M A (forIn l c f) Q E s
 |[],c,s,h=>by rw[TU];show D2 h
 |x::xs,c,s,h=>by
  rw[Py];refine b3 (NH h (λr s' hr=>?_) λ_ _ z=>z)
  cases r with
  |done c'=>show D2 hr
  |yield c'=>show fY hr
def ca{h:Heap}:∀{vs:List gV} {xs:List Ni} {as:List WZ},S2 h vs xs as->vs.length=xs.length
 |_,_,_,.nil=>rfl
 |_,_,_,.cons _ r=>by simp[ca r]
set_option tactic.hygienic true
def jv{α β:Type}{M:QB}{n:Nat}{f:α->Option β×Unit->Sem (ForInStep (Option β×Unit))}{g:Bool->β}{pr:α->gV×gV}{Q:Option β×Unit->tv->Prop}:
 ∀{l:List α} {vs us:List gV} {xs ys:List Ni} {as bs:List WZ},l.map pr=vs.zip us->S2 s.heap vs xs as->S2 s.heap us ys bs->Cmpb (.tuple xs) (.tuple ys)->MD xs=WX->MD ys=WX->N5 xs<=n->
  (∀(z:α) (x y:gV) (d e:Ni) (as bs:List WZ) (R:ForInStep (Option β×Unit)->tv->Prop),z∈l->pr z=(x,y)->Qi s.heap x d as->Qi s.heap y e bs->Cmpb d e->d.canLay0=WX->e.canLay0=WX->d.depth<=n->
   R (if Md d e=WX then .yield (Y,())else .done (S (g (ltK (toK d) (toK e))),())) s->LD M A (f z (Y,())) R E s)->
  Q ((cC xs ys).map g,()) s->cP M A E f Q l (Y,()) s
 |[],vs,us,xs,ys,as,bs,e,j,B,F,_,_,_,_,q=>by
  let h1:=ca j;let h2:=ca B;let:vs=[]∨us=[]:=by
   cases vs with
   |nil=>show .inl rfl
   | cons v vs=>cases us with
     |nil=>show .inr rfl
     |cons u us=>simp at e
  let e2:cC xs ys=Y:=by
   rcases this with rfl|rfl
   ·cases xs with
    |nil=>simp[cC]
    |cons x xs=>simp at h1
   ·cases ys with
    |nil=>cases xs<;>simp[cC]
    |cons y ys=>simp at h2
  rw[e2]at q;show q
 |z::l,vs,us,xs,ys,as,bs,e,j,B,F,lx,ly,hd,hf,q=>by
  cases j with
  |nil=>simp at e
  |cons rx j=>
   cases B with
   |nil=>simp at e
   |cons ry B=>
    simp only[LL,RU,OS]at e;simp only[MD,D0]at lx ly;simp only[N5]at hd
    cases F with
    |cons G J=>
     simp only[cP];refine hf z _ _ _ _ _ _ _ (_) e.1 rx ry G lx.1 ly.1 ∅ ?_
     simp only[cC]at q
     split at q
     ·next h=>rw[if_pos h];show jv e.2 j B J lx.2 ly.2 ∅ (λz x y d e as bs R hz=>hf z x y d e as bs R (by simp[hz])) q
     ·next h=>rw[if_neg h];show q
set_option tactic.hygienic false
abbrev GO(n:Nat):Prop:=∀(prog:LR) (w:Mn) (A:Mq) (s:tv) (a b:gV) (d e:Ni) (as bs:List WZ) (E:gV->tv->Prop) (Q:gV->tv->Prop),d.depth<=n->Cmpb d e->Qi s.heap a d as->Qi s.heap b e bs->d.canLay0=WX->e.canLay0=WX->A.units+n+1<NW->
 Q (.bool (ltK (toK d) (toK e))) s->LD (LN prog w) A (Ri .Lt a b) Q E s
set_option tactic.hygienic true
def FM:∀n,GO n:=by
 intro n
 induction n with
 |zero=>
  intro prog w A s a b d e as bs E Q hd z ra rb ld le F3 q
  cases z with
  |int i j=>
   cases ra;cases rb
   show xb (by rw[<-iD];show q)
  |nil ys=>simp[ND]at hd
  |nil' xs=>simp[ND]at hd
  |cons _ _=>simp[ND]at hd
 |succ n ih=>
  intro prog w A s a b d e as bs E Q hd z ra rb ld le F3 q;let tup:∀xs ys,d=.tuple xs->e=.tuple ys->LD (LN prog w) A (Ri .Lt a b) Q E s:=by
   rintro xs ys rfl rfl
   cases ra with
   |tuple h1 h2 Z G=>
    cases rb with
    |tuple g1 g2 g3 J=>
     rename_i l ol vl nl p ob vb nb;let tl:s.TypeIs (.ref l) "tuple":=⟨_,h1,h2⟩;let tb:s.TypeIs (.ref p) "tuple":=⟨_,g1,g2⟩;refine wpAny_richCompare_same_room tl tb VZ (Mc VZ tl F.entry_tuple_lt ?_ (F.args_tuple_lt_2 _ _)) ∅
     unfold O7.«tuple.__lt__»;calc b3 ?_;let L:isSubtype (.type "tuple") (.type "tuple")=pure WX:=by rw[QP];kernel_rfl
     wp_walk
     rw[Z]
     wp_walk
     rw[g3];calc D2 ?_;calc D2 ?_;refine b3 (fY (jv (n:=n) (g:=λb=>Fin.done (Flow.ret (RJ b))) (pr:=id) (List.map_id _) G J z ld le (by simp[ND]at hd;lia) ?_ ?_))
     ·rintro⟨x,y⟩ x' y' d e as bs R _ hz rx ry z ld le hd r
      cases hz
      dsimp only;refine b3 (Vy d e _ _ _ _ _ _ rx ry ld le ?_ prog w E _ ?_)
      ·change A.units+1+min d.depth e.depth<NW;lia
      ·by_cases B:Md d e=WX
       ·rw[if_pos B]at r;rw[B];show D2 r
       ·rw[if_neg B]at r;let B:Md d e=WY:=by simpa using B
        rw[B];refine b3 (NI (b3 (ih prog w _ s x y d e as bs E _ hd z rx ry ld le ?_ ?_)))
        ·change A.units+1+n+1<NW;lia
        ·show D2 r
     ·let e1:=ju z
      cases e2:cC xs ys with
      |some b=>rw[e2]at e1;dsimp only at e1;rw[e1]at q;show D2 ⟨_,rfl,by simp,q⟩
      |none=>
       rw[e2]at e1;dsimp only at e1;rw[e1]at q;let O:=ca G;let U:=ca J;refine D2 ⟨_,rfl,?_,?_⟩
       ·simp[Pc]
       ·simp only[LX]at O U;simp only[Pc];rw[O,U];show q
  cases z with
  |int i j=>
   cases ra;cases rb
   show xb (by rw[<-iD];show q)
  |nil ys=>show tup _ _ rfl rfl
  |nil' xs=>show tup _ _ rfl rfl
  |cons _ _=>show tup _ _ rfl rfl
end
end Srt
namespace Srt
variable{n:Nat}
section
variable{prog:LR}{w:Mn}{A:Mq}{E:gV->tv->Prop}{s:tv}
set_option tactic.hygienic false
def kE{α β:Type}{M:QB}{f:α->Sem β}{g:α->β}:∀{l:List α} {Q:List β->tv->Prop},(∀x∈l,∀R:β->tv->Prop,R (g x) s->LD M A (f x) R E s)->Q (l.map g) s->LD M A (l.mapM f) Q E s
 |[],Q,_,q=>by rw[List.mapM_nil];show D2 q
 |x::xs,Q,h,q=>by rw[List.mapM_cons];calc b3 (h x (_) _ (b3 (kE (λy j=>h y (by simp[j])) (D2 q))))
def eR{α β:Type}{M:QB}{f:α->Sem β}{g:α->β}{xs:Array α}{Q:Array β->tv->Prop}(h:∀x∈xs.toList,∀R:β->tv->Prop,R (g x) s->LD M A (f x) R E s)(q:Q (xs.map g) s):LD M A (xs.mapM f) Q E s:=by
 rw[Array.mapM_eq_mapM_toList];rw[map_eq_pure_bind];calc b3 (kE h (D2 ?_));let:(xs.toList.map g).toArray=xs.map g:=by apply R6.mp;simp
 rw[this];show q
def nc{a:WZ}{v:gV}{vs:List gV}{o:Obj}(h1:s.heap.get? a=S o)(h2:o.cls=.type "tuple")(j:o.data=.seq (v::vs).toArray n){Q:Option gV->tv->Prop}(q:Q (S v) s):LD (LN prog w) A (firstOfTuple' (.ref a)) Q E s:=by
 unfold firstOfTuple';let ty:s.TypeIs (.ref a) "tuple":=⟨_,h1,h2⟩
 wp_walk
 rw[j];calc D2 ?_;calc D2 ?_;show D2 q
def Ch{a:WZ}{o:Obj}{T:gV}(h1:s.heap.get? a=S o)(h2:o.cls=T){Q:gV->tv->Prop}(q:Q T s):LD (LN prog w) A (typeOf (.ref a)) Q E s:=by
 wp_walk
 rw[h2];show q
def xc{x y:gV}{d e:Ni}{as bs:List WZ}(j:Cmpb d e)(rx:Qi s.heap x d as)(ry:Qi s.heap y e bs)(ld:d.canLay0=WX)(le:e.canLay0=WX)(hd:d.depth<=n)(z:A.units+n+1<NW){Q:Bool->tv->Prop}(q:Q (ltK (toK d) (toK e)) s):LD (LN prog w) A (oneLt' WY x y) Q E s:=by rw[oneLt'_eq];show b3 (FM n prog w A s x y d e as bs E _ hd j rx ry ld le z (trd q))
def nh{b:Bool}{x y:gV}{xs ys:List Ni}{as bs:List WZ}(hb:b=WX->∀d e,xs.head?=S d->ys.head?=S e->(∃i,d=.int i)/\∃i,e=.int i)(F:Cmpb (.tuple xs) (.tuple ys))(rx:Qi s.heap x (.tuple xs) as)(ry:Qi s.heap y (.tuple ys) bs)(lx:MD xs=WX)(ly:MD ys=WX)(hd:N5 xs<=n)(hu:A.units+n+1<NW){Q:Bool->tv->Prop}(q:Q (ltK (toK (.tuple xs)) (toK (.tuple ys))) s):
 LD (LN prog w) A (keyLt' (tuples' b) x y) Q E s:=by
 cases rx with
 |tuple h1 h2 h3 G=>
  cases ry with
  |tuple g1 g2 g3 J=>
   calc b3 (Va h1 h3 ?_);calc b3 (Va g1 g3 ?_);refine b3 (fY (jv (n:=n) (g:=id) (pr:=Prod.fst) (List.zipIdx_map_fst _ _) G J F lx ly hd ?_ ?_))
   ·rintro⟨⟨x,y⟩,i⟩ x' y' d e as bs R hz hp rx ry F ld le hd r
    cases hp
    dsimp only;refine b3 (Vy d e _ _ _ _ _ _ rx ry ld le ∅ prog w E _ ?_)
    by_cases B:Md d e=WX
    ·rw[if_pos B]at r;rw[B];show D2 r
    ·rw[if_neg B]at r;let B:Md d e=WY:=by simpa using B
     rw[B];refine b3 ?_
     by_cases z:(b&&i==0)=WX
     ·rw[z];simp only[D0,beq_iff_eq]at z;let⟨rfl,rfl⟩:=z;let j:=List.mem_zipIdx_iff_getElem?.mp hz;obtain⟨L,O,t1,U,e1,e2⟩:∃(L O:Int) (t1 U:Tok),x=.int L t1/\y=.int O U:=by
       generalize hV:T6 _=vl at G j;generalize hU:T6 _=ul at J j
       cases G with
       |nil=>simp at j
       |cons p1 p2=>
        cases J with
        |nil=>simp at j
        |cons q1 q2=>
         simp at j;let⟨⟨L,ei⟩,⟨O,ej⟩⟩:=hb rfl _ _ rfl rfl;subst ei ej
         cases p1;cases q1
         show⟨_,_,_,_,j.1.symm,j.2.symm⟩
      subst e1 e2
      cases rx;cases ry
      calc oneLt_int ?_;rw[<-iD];show D2 r
     ·let z:(b&&i==0)=WY:=by simpa using z
      rw[z];show xc F rx ry ld le hd hu (D2 r)
   ·let e1:=ju F
    cases e2:cC xs ys with
    |some b=>rw[e2]at e1;dsimp only at e1;rw[e1]at q;show D2 q
    |none=>rw[e2]at e1;dsimp only at e1;rw[e1]at q;let F3:=ca G;let Z:=ca J;calc D2 ?_;simp only[LX]at F3 Z;rw[F3,Z];show q
end
end Srt
namespace Srt
structure qm(n:Nat)(ds:List Ni):Prop where
 cmp:∀d∈ds,∀e∈ds,Cmpb d e
 lay:∀d∈ds,d.canLay0=WX/\d.depth<=n
 kind:(∀d∈ds,∃i,d=.int i)∨(∀d∈ds,∃i xs,d=.tuple (.int i::xs))∨(∀d∈ds,∃ys xs,d=.tuple (.tuple ys::xs))
abbrev cT(h:Heap):gV->Option gV
 |.ref a=>(h.get? a).bind λo=>match o.data with|.seq xs _=>xs[0]?|_=>Y
 |_=>Y
variable{vs:List gV}{h:Heap}{v:gV}
section
variable{prog:LR}{w:Mn}{A:Mq}{E:gV->tv->Prop}{s:tv}
abbrev dR(h:Heap)(x:Lx):Ky:=toK (O9 h x.1)
abbrev RdL(h:Heap)(vs:List gV)(ds:List Ni):Prop:=∀v∈vs,∃d∈ds,∃as,Qi h v d as
def gU{arr:Array gV}{T:String}(h0:0<arr.size)(h:∀v∈arr.toList,∀R:gV->tv->Prop,R (.type T) s->LD (LN prog w) A (typeOf v) R E s){Q:Option gV->tv->Prop}(q:Q (S (.type T)) s):LD (LN prog w) A (oneTypeOnly' arr) Q E s:=by
 rw[oneTypeOnly'_eq];calc b3 (eR (g:=λ_=>MJ T) h ?_);let e:(R7 (λ_=>MJ T) arr)[0]?=S (MJ T):=by rw[Array.getElem?_map,Mm h0];rfl
 rw[e];dsimp only;let e2:((R7 (λ_=>MJ T) arr).all λx=>x==MJ T)=WX:=by rw[Vb];intro i hi;simp
 rw[e2];show D2 q
def uJ{n:Nat}{kd:Qj}{ds:List Ni}(hr:RdL s.heap vs ds)(hs:qm n ds)(h:∀(x y:gV) (d e:Ni) (as bs:List WZ) (E:gV->tv->Prop) (Q:Bool->tv->Prop),d∈ds->e∈ds->Qi s.heap x d as->Qi s.heap y e bs->Q (ltK (toK d) (toK e)) s->LD (LN prog w) A (keyLt' kd x y) Q E s):
 Cm prog w A s kd (λx=>x.1∈vs) (λx y=>ltK (dR s.heap x) (dR s.heap y)) where
 asym:=λx y=>jt _ _
 neg:=λx y z=>Cg _ _ _
 run:=λx y E Q hx j q=>by let⟨d,hd,as,ra⟩:=hr _ hx;let⟨e,he,bs,rb⟩:=hr _ j;let e1:=OT (hs.lay d hd).1 ra;let e2:=OT (hs.lay e he).1 rb;unfold dR at q;rw[e1,e2]at q;show h _ _ d e as bs E Q hd he ra rb q
def qo(j:∀v∈vs,∃u,cT h v=S u):((vs.toArray.map (cT h)).all λx=>x.isSome)=WX:=by rw[Vb];intro i hi;simp at hi;let⟨u,q⟩:=j vs[i] (OI hi);simp[q]
def xf{x:gV}(hx:x∈(W0 id (vs.toArray.map (cT h))).toList):∃v∈vs,cT h v=S x:=by simp at hx;show hx
def xg{u:gV}(j:cT h v=S u):0<(W0 id ((v::vs).toArray.map (cT h))).size:=by rw[<-LX];simp[j]
def ni{d:Ni}{xs:List Ni}{as:List WZ}(r:Qi h v (.tuple (d::xs)) as):∃a o u us n bs,v=.ref a/\h.get? a=S o/\o.cls=.type "tuple"/\o.data=.seq (u::us).toArray n/\Qi h u d bs:=by
 cases r with
 |@tuple a o vs n xs as h1 h2 j h4=>
  generalize q:vs.toList=vl at h4
  cases h4 with
  |@cons u us _ _ bs _ z p2=>show⟨_,_,u,us,n,bs,rfl,h1,h2,by rw[j];congr 1;apply R6.mp;simpa using q,z⟩
def FN{n:Nat}{ds:List Ni}(hr:RdL s.heap (v::vs) ds)(hs:qm n ds)(z:A.units+n+1<NW):
 ∃kd,(∀(E:gV->tv->Prop) (Q:Qj->tv->Prop),Q kd s->LD (LN prog w) A (keyKind' (v::vs).toArray) Q E s)/\Cm prog w A s kd (λx=>x.1∈v::vs) (λx y=>ltK (dR s.heap x) (dR s.heap y)):=by
 rcases hs.kind with G|G|G
 ·refine⟨oneType',λE Q q=>?_,uJ hr hs λx y d e as bs E Q hd he ra rb q=>?_⟩
  ·let hint:∀u∈v::vs,∃i t,u=.int i t:=fun u z=>by
    let⟨d,hd,as,ra⟩:=hr u z;let⟨i,rfl⟩:=G d hd
    cases ra
    show⟨_,_,rfl⟩
   rw[VP];refine b3 (eR (g:=λ_=>(Y:Option gV)) (λu z R r=>?_) ?_)
   ·let⟨i,t,rfl⟩:=hint u (by simpa using z)
    rw[firstOfTuple'_int];show D2 r
   ·let e1:((R7 (fun _=>(Y:Option gV)) (v::vs).toArray).all fun x=>x.isSome)=WY:=by
     simp
    rw[e1];let e2:((R7 (λ_=>(Y:Option gV)) (v::vs).toArray)[0]?.bind id).isSome=WY:=by simp
    simp only[e2,Ml,if_false];refine b3 (gU (T:="int") (_) (λu z R r=>?_) ?_)
    ·let⟨i,t,rfl⟩:=hint u (by simpa using z)
     show D2 r
    ·show D2 q
  ·let⟨i,rfl⟩:=G d hd;let⟨j,rfl⟩:=G e he
   cases ra;cases rb
   rw[keyLt'_oneType];show oneLt_int (by rw[<-iD];show q)
 ·refine⟨tuples' WX,λE Q q=>?_,uJ hr hs λx y d e as bs E Q hd he ra rb q=>?_⟩
  ·let hf:∀u∈v::vs,∃a o i t us n,u=.ref a/\s.heap.get? a=S o/\o.cls=.type "tuple"/\o.data=.seq (.int i t::us).toArray n:=fun u z=>by
    let⟨d,hd,as,ra⟩:=hr u z;let⟨i,xs,rfl⟩:=G d hd;let⟨a,o,F3,us,n,bs,e1,e2,J,F,L⟩:=ni ra
    cases L
    show⟨a,o,_,_,us,n,e1,e2,J,F⟩
   let B:∀u∈v::vs,∃i t,cT s.heap u=S (.int i t):=λu z=>by let⟨a,o,i,t,us,n,rfl,e2,J,F⟩:=hf u z;show⟨i,t,by simp[cT,e2,F]⟩
   rw[VP];refine b3 (eR (g:=cT s.heap) (λu z R r=>?_) ?_)
   ·let⟨a,o,i,t,us,n,rfl,e2,J,F⟩:=hf u (by simpa using z)
    calc nc e2 J F ?_;simpa[cT,e2,F]using r
   ·rw[qo (λu z=>let⟨i,t,e⟩:=B u z; ⟨_,e⟩)];calc b3 (NI ?_);let⟨Z,t0,e0⟩:=B v (_)
    refine b3 (gU (T:="int") (xg e0) (λu z R r=>?_) ?_)
    ·let⟨u',O,e⟩:=xf z;let⟨i,t,e'⟩:=B u' O;rw[e']at e;cases e;show D2 r
    ·show D2 q
  ·let⟨i,xs,rfl⟩:=G d hd;let⟨j,ys,rfl⟩:=G e he;let l1:=hs.lay _ hd;let l2:=hs.lay _ he;refine nh (n:=n) (λ_ d e hd he=>?_) (hs.cmp _ hd _ he) ra rb (by simpa[Q2]using l1.1) (by simpa[Q2]using l2.1) (by let:=l1.2;simp[ND]at this;lia) z q
   simp at hd he;subst hd he;show⟨⟨_,rfl⟩,_,rfl⟩
 ·refine⟨tuples' WY,λE Q q=>?_,uJ hr hs λx y d e as bs E Q hd he ra rb q=>?_⟩
  ·let hf:∀u∈v::vs,∃a o b ob us n,u=.ref a/\s.heap.get? a=S o/\o.cls=.type "tuple"/\o.data=.seq (.ref b::us).toArray n/\s.heap.get? b=S ob/\ob.cls=.type "tuple":=fun u z=>by
    let⟨d,hd,as,ra⟩:=hr u z;let⟨ys,xs,rfl⟩:=G d hd;let⟨a,o,F3,us,n,bs,e1,e2,J,F,L⟩:=ni ra
    cases L with
    |tuple h1 h2 h3 h4=>show⟨a,o,_,_,us,n,e1,e2,J,F,h1,h2⟩
   let B:∀u∈v::vs,∃b ob,cT s.heap u=S (.ref b)/\s.heap.get? b=S ob/\ob.cls=.type "tuple":=λu z=>by let⟨a,o,b,ob,us,n,rfl,e2,J,F,L,U⟩:=hf u z;show⟨b,ob,by simp[cT,e2,F],L,U⟩
   rw[VP];refine b3 (eR (g:=cT s.heap) (λu z R r=>?_) ?_)
   ·let⟨a,o,b,ob,us,n,rfl,e2,J,F,L,U⟩:=hf u (by simpa using z)
    calc nc e2 J F ?_;simpa[cT,e2,F]using r
   ·rw[qo (λu z=>let⟨i,t,e,_⟩:=B u z; ⟨_,e⟩)];calc b3 (NI ?_);let⟨Z,t0,e0,_⟩:=B v (_)
    refine b3 (gU (T:="tuple") (xg e0) (λu z R r=>?_) ?_)
    ·let⟨u',O,e⟩:=xf z;let⟨b,ob,e',L,U⟩:=B u' O;rw[e']at e;cases e;show Ch L U r
    ·show D2 q
  ·let⟨zs,xs,rfl⟩:=G d hd;let⟨zs',ys,rfl⟩:=G e he;let l1:=hs.lay _ hd;let l2:=hs.lay _ he;show nh (n:=n) (λh=>by cases h) (hs.cmp _ hd _ he) ra rb (by simpa[Q2]using l1.1) (by simpa[Q2]using l2.1) (by let:=l1.2;simp[ND]at this;lia) z q
end
end Srt
namespace Srt
inductive Pl:Ni->Prop where
 |int (i:Int):Pl (.int i)
 |tup (xs:List Ni):(∀x∈xs,Pl x)->Pl (.tuple xs)
def bB{h h':Heap}(k:∀b o,h.get? b=S o->o.cls=.type "tuple"->h'.get? b=S o){d:Ni}(p:Pl d):∀{v:gV} {as:List WZ},Qi h v d as->Qi h' v d as:=by
 induction p with
 |int i=>intro v as r;cases r;show .int _ _
 |tup xs hx ih=>
  intro v as r
  cases r with
  |tuple h1 h2 q z=>
   calc .tuple (k _ _ h1 h2) h2 q ?_;let g:∀(xs:List Ni),(∀x∈xs,∀{v:gV} {as:List WZ},Qi h v x as->Qi h' v x as)->∀(vs:List gV) (as:List WZ),S2 h vs xs as->S2 h' vs xs as:=by
    intro xs
    induction xs with
    |nil=>intro _ vs as r;cases r;show .nil
    |cons x xs ihx=>
     intro j vs as r
     cases r with
     |cons B p2=>show .cons (j x (_) B) (ihx (λy F=>j y (by simp[F])) _ _ p2)
   show g xs ih _ _ z
section
variable{prog:LR}{w:Mn}{A:Mq}{E:gV->tv->Prop}{s:tv}
def zU{α:Type}{R:α->α->Prop}:∀{l:List α},l.length<2->l.Pairwise R
 |[],_=>.nil
 |[_],_=>List.pairwise_singleton _ _
def Ci{α:Type}:∀{l:List α},2<=l.length->∃x r,l=x::r
 |x::r,_=>⟨x,r,rfl⟩
def Cj{cap:Nat}(F2:iB cap){m:Nat}{a:WZ}{vs:List gV}{n:Nat}{ds:List Ni}(ha:s.heap.get? a=S (Vz "list" vs.toArray n))(hr:RdL s.heap vs ds)(hs:qm m ds)(hp:∀d∈ds,Pl d)(hl:vs.length<=Ls)(Jd:vs.length<=cap)(hu:A.units+m+1<NW){Q:PySem.Fin->tv->Prop}(q:∀(h':Heap) (out:List gV) (n':Nat),(∀b o,b≠a->s.heap.get? b=S o->h'.get? b=S o)->h'.get? a=S (Vz "list" out.toArray n')->out.Perm vs->out.Pairwise (λx y=>ltK (toK (O9 s.heap y)) (toK (O9 s.heap x))=WY)->Q (.done (.ret .none)) {s with heap:=h'}):
 LD (LN prog w) A (O7.«list.sort» ⟨[.ref a],[]⟩) Q E s:=by
 rw[list_sort_plain];calc b3 (Va ha rfl ?_);refine b3 (Rf ha rfl ?_ (by simpa using hl) (_))
 let g1:=Qt ha (λ_=>#[]);generalize Je:s.heap.update a (OJ λ_=>#[])=h1 at g1;generalize (if((#[]:Array gV).size==vs.toArray.size)=WX then n else n+1)=n1 at g1
 calc b3 (VQ g1 rfl ?_);refine b3 (RZ ?_ (by simpa using hl))
 refine b3 (SA ?_ (_))
 calc Np ?_;dsimp only;generalize O:({heap:=(h1.push {cls:=MJ "tuple",data:=Rj vs.toArray.toList.toArray}).push {cls:=MJ "list",data:=Rj [].toArray},gens:=s.gens,drawn:=s.drawn,toks:=s.toks,os:=s.os}:tv)=s3;let g3:s3.heap.get? a=S (Vz "list" #[] n1):=by rw[<-O];show h7 _ (h7 _ g1)
 let keep:∀b o,b≠a->s.heap.get? b=S o->s3.heap.get? b=S o:=λb o G J=>by rw[<-O,<-Je];show h7 _ (h7 _ (by rw[Ob _ _ _ _ G];show J))
 let keepT:∀b o,s.heap.get? b=S o->o.cls=.type "tuple"->s3.heap.get? b=S o:=λb o G hc=>keep b o (λz=>by rw[z,ha]at G;cases G;simp at hc) G
 let Jf:RdL s3.heap vs ds:=λv hv=>by let⟨d,hd,as,r⟩:=hr v hv;show⟨d,hd,as,bB keepT (hp d hd) r⟩
 let same:∀v∈vs,O9 s3.heap v=O9 s.heap v:=λv hv=>by let⟨d,hd,as,r⟩:=hr v hv;rw[OT (hs.lay d hd).1 r,OT (hs.lay d hd).1 (bB keepT (hp d hd) r)]
 let q:∀(h':Heap) (out:List gV) (n':Nat),(∀b o,b≠a->s.heap.get? b=S o->h'.get? b=S o)->h'.get? a=S (Vz "list" out.toArray n')->out.Perm vs->out.Pairwise (λx y=>ltK (toK (O9 s.heap y)) (toK (O9 s.heap x))=WY)->Q (.done (.ret .none)) {s3 with heap:=h'}:=by rw[<-O];show q
 let Jh:∀A':Mq,A'.units=A.units->True:=λ_ _=>trivial;clear O
 refine_lift let Good:MY->Prop:=λst'=>Oy st'=Y/\(Mx st').toList.Perm (vs.zip vs)/\(Mx st').toList.Pairwise (λx y=>ltK (dR s3.heap y) (dR s3.heap x)=WY);?_
 by_cases F:vs.toArray.size<2
 ·rw[if_pos F,if_pos F];calc b3 (D2 ?_);let B:vs.length<2:=by simpa using F
  let run:LD (LN prog w) A ((pure ():StateT MY Sem Unit).run (R5 general' (vs.toArray.zip vs.toArray) #[] 7 Y)) (λr s'=>s'=s3/\Good r.2) E s3:=by
   refine D2 ⟨rfl,rfl,?_,?_⟩
   ·change(vs.toArray.zip vs.toArray).toList.Perm _;simp
   ·change Uq _ (vs.toArray.zip vs.toArray).toList;show zU (by simpa using B)
  calc b3 (NH (Q:=λr s'=>s'=s3/\Good r.2) run (λr s' hr=>?_) (λ_ _ z=>z));let⟨rfl,L,j,U⟩:=hr;let⟨u,st'⟩:=r;calc b3 (VQ g3 rfl ?_);refine b3 (Rf g3 rfl ?_ (_) (by simp only[Array.size_map];let:=j.length_eq;simp at this;rw[this];lia))
  dsimp only at L;rw[L];simp only[bne_self_eq_false,Ml,if_false];calc D2 ?_;let gq:=Qt g3 (λ_=>R7 (λx=>x.snd) (Mx st'));let eo:R7 (λx=>x.snd) (Mx st')=((Mx st').toList.map λx=>x.snd).toArray:=by apply R6.mp;simp
  refine q _ ((Mx st').toList.map λx=>x.snd) _ (λb o G J=>?_) (by rw[gq,eo]) ?_ ?_
  ·rw[Ob _ _ _ _ G];show keep b o G J
  ·let F3:=j.map (λx:Lx=>x.snd);rw[VA (_)]at F3
   show F3
  ·rw[MP];calc U.imp_of_mem λ{x y} hx hy hxy=>?_;let mx:=RF (j.mem_iff.mp hx);let my:=RF (j.mem_iff.mp hy);unfold dR at hxy;rw[mx.1,my.1,same y.2 (by rw[<-my.1];show my.2),same x.2 (by rw[<-mx.1];show mx.2)]at hxy
   show hxy
 ·rw[if_neg F,if_neg F];let B:2<=vs.length:=by simpa using F
  let⟨v0,Jg,Z⟩:=Ci B;let⟨kd,Ja,Jb⟩:=FN (prog:=prog) (w:=w) (A:=A) (v:=v0) (vs:=Jg) (by rw[<-Z];show Jf) hs hu
  rw[<-Z]at Ja Jb;calc b3 (Ja E _ ?_);let run:LD (LN prog w) A (sortRuns'.run (R5 kd (vs.toArray.zip vs.toArray) #[] 7 Y)) (λr s'=>s'=s3/\Good r.2) E s3:=by
   let ez:(Mx (R5 kd (vs.toArray.zip vs.toArray) #[] 7 Y)).toList=vs.zip vs:=by change(vs.toArray.zip vs.toArray).toList=_;simp
   let h9:wpS (LN prog w) A E s3 sortRuns' (λ_ st'=>Good st') (R5 kd (vs.toArray.zip vs.toArray) #[] 7 Y):=by
    let Jc:(Mx (R5 kd (vs.toArray.zip vs.toArray) #[] 7 Y)).size=vs.length:=by rw[<-LX,ez];simp
    refine F2 _ _ _ _ _ _ _ _ Jb (R5 kd (vs.toArray.zip vs.toArray) #[] 7 Y) _ rfl rfl rfl (λx hx=>?_) (by rw[Jc];show B) (by rw[Jc];show Jd) λst' p1 p2 p3=>⟨p3,by rw[ez]at p1;show p1,p2⟩
    rw[ez]at hx;show(RF hx).2
   show h9
  calc b3 (NH (Q:=λr s'=>s'=s3/\Good r.2) run (λr s' hr=>?_) (λ_ _ z=>z));let⟨rfl,L,j,U⟩:=hr;let⟨u,st'⟩:=r;calc b3 (VQ g3 rfl ?_);refine b3 (Rf g3 rfl ?_ (_) (by simp only[Array.size_map];let:=j.length_eq;simp at this;rw[this];lia))
  dsimp only at L;rw[L];simp only[bne_self_eq_false,Ml,if_false];calc D2 ?_;let gq:=Qt g3 (λ_=>R7 (λx=>x.snd) (Mx st'));let eo:R7 (λx=>x.snd) (Mx st')=((Mx st').toList.map λx=>x.snd).toArray:=by apply R6.mp;simp
  refine q _ ((Mx st').toList.map λx=>x.snd) _ (λb o G J=>?_) (by rw[gq,eo]) ?_ ?_
  ·rw[Ob _ _ _ _ G];show keep b o G J
  ·let F3:=j.map (λx:Lx=>x.snd);rw[VA (_)]at F3
   show F3
  ·rw[MP];calc U.imp_of_mem λ{x y} hx hy hxy=>?_;let mx:=RF (j.mem_iff.mp hx);let my:=RF (j.mem_iff.mp hy);unfold dR at hxy;rw[mx.1,my.1,same y.2 (by rw[<-my.1];show my.2),same x.2 (by rw[<-mx.1];show mx.2)]at hxy
   show hxy
def uK(u:gV):VB "sorted" ⟨[u],[]⟩=pure ():=by kernel_rfl
def xh{cap:Nat}(F2:iB cap){m:Nat}{u:gV}{ds:List Ni}{C:Heap->List gV->Prop}{Q:gV->tv->Prop}(hu:A.units+m+3<NW)(hs:qm m ds)(F:∀d∈ds,Pl d)(G:∀(E:gV->tv->Prop) (R:List gV->tv->Prop),(∀(h':Heap) (vs':List gV) (t':Nat),C h' vs'->RdL h' vs' ds->vs'.length<=Ls/\vs'.length<=cap->s.toks<=t'->R vs' {s with heap:=h',toks:=t'})->LD (LN prog w) A.in1 (collect u) R E s)(q:∀(h1 h2:Heap) (vs out:List gV) (n' t':Nat),C h1 vs->(∀b o,h1.get? b=S o->h2.get? b=S o)->h2.get? h1.objs.size=S (Vz "list" out.toArray n')->out.Perm vs->out.Pairwise (λx y=>ltK (toK (O9 h2 y)) (toK (O9 h2 x))=WY)->RdL h2 out ds->vs.length<=Ls->s.toks<=t'->Q (.ref h1.objs.size) {s with heap:=h2,toks:=t'}):
 LD (LN prog w) A (call (.builtin "sorted") [u]) Q E s:=by
 calc W7 (U0 plain_sorted entry_sorted (Q0 (uK u) ?_));unfold Builtin.sorted;refine b3 (Q0 (a:=()) (by kernel_rfl) ?_)
 calc b3 (G _ _ λh1 vs t' hC hr J ht=>?_);let⟨J,L⟩:=J;calc b3 (SA ?_ J);calc b3 (Np ?_);let O:RdL (h1.push {cls:=MJ "list",data:=Rj vs.toArray}) vs ds:=λv B=>by let⟨d,hd,as,r⟩:=hr v B;show⟨d,hd,as,bB (λb o z _=>h7 _ z) (F d hd) r⟩
 let Z:(h1.push {cls:=MJ "list",data:=Rj vs.toArray}).get? h1.objs.size=S (Vz "list" vs.toArray 0):=Lu _ rfl;calc Mc slot_list_sort (T:="list") ⟨_,Z,rfl⟩ entry_list_sort ?_ (args_list_sort _);refine Cj F2 (m:=m) Z O hs F J L (by change A.units+1+1+m+1<NW;lia) λh2 out n' keep g2 j U=>⟨_,rfl,D2 ?_⟩
 let old:∀b o,h1.get? b=S o->h2.get? b=S o:=λb o z=>keep b o (Mh (LB z)) (h7 _ z);let F3:RdL h2 vs ds:=λv B=>by let⟨d,hd,as,r⟩:=hr v B;show⟨d,hd,as,bB (λb o z _=>old b o z) (F d hd) r⟩
 calc q h1 h2 vs out n' t' hC old g2 j ?_ (λv B=>F3 v (j.mem_iff.mp B)) J ht;let same:∀v∈vs,O9 (h1.push {cls:=MJ "list",data:=Rj vs.toArray}) v=O9 h2 v:=λv B=>by let⟨d,hd,as,r⟩:=hr v B;rw[OT (hs.lay d hd).1 (bB (λb o z _=>old b o z) (F d hd) r),OT (hs.lay d hd).1 (bB (λb o z _=>h7 _ z) (F d hd) r)]
 calc U.imp_of_mem λ{x y} hx hy hxy=>?_;rw[same y (j.mem_iff.mp hy),same x (j.mem_iff.mp hx)]at hxy;show hxy
end
end Srt
namespace It
abbrev iO(f0:gV)(b:Bool)(d:WZ)(i n ep:Nat)(ok ov:gV):Obj:={cls:=.type "dict_itemiterator",data:=.fields #[f0,.bool b,.ref d,.int i 0,.int n 0,.int ep 0,ok,ov]}
def slot_next:Slot "dict_itemiterator" "__next__" "dict_itemiterator.__next__":=.of (owner:="dict_itemiterator") (n:="__next__") (by rw[Tu,QV];kernel_rfl) (by decide +kernel) (by decide +kernel) (by decide +kernel) (.inl (by decide +kernel)) (by rw[QP];kernel_rfl)
def cU:Wk table "dict_itemiterator.__next__"=S O7.«dict_itemiterator.__next__»:=VC (by kernel_rfl)
def dB(a:gV):Te "dict_itemiterator.__next__" ⟨[a],[]⟩:=by unfold Te;kernel_rfl
def qq:mroOf (.type "dict_itemiterator")=pure [.type "dict_itemiterator",.type "object"]:=by rw[mroOf_type];kernel_rfl
section
variable{prog:LR}{w:Mn}{A:Mq}{E:gV->tv->Prop}{s:tv}
def fB{it:WZ}(ty:s.TypeIs (.ref it) "dict_itemiterator"){types:List String}{Q:Bool->tv->Prop}(q:Q (types.any λt=>[MJ "dict_itemiterator",MJ "object"].contains (MJ t)) s):LD (model prog w) A (OL (.ref it) types) Q E s:=by
 let hm:=qq;unfold OL
 wp_walk
 show q
def nx_end{it d:WZ}{f0:gV}{b:Bool}{ep:Nat}{ok ov cd:gV}{dd:Option WZ}{sl:Array (Option gV)}{es:Array NY}{Q:Option gV->tv->Prop}(j:A.handled=Y)(hi:s.heap.get? it=S (iO f0 b d es.size es.size ep ok ov))(hd:s.heap.get? d=S {cls:=cd,dict:=dd,data:=.dict es ep,slots:=sl})(q:∀h',(∀b o,b≠it->s.heap.get? b=S o->h'.get? b=S o)->Q Y {s with heap:=h'}):LD (model prog w) A (OO (.ref it)) Q E s:=by
 let ty:s.TypeIs (.ref it) "dict_itemiterator":=⟨_,hi,rfl⟩;unfold OO;calc b3 (P7 (Mo (name:=MU "__next__") ty slot_next (Mc slot_next ty cU ?_ (dB _))));unfold O7.«dict_itemiterator.__next__»;let hm:=qq
 wp_walk
 dsimp only;rw[if_neg (_)]
 wp_walk
 let he:es[es.size]?=Y:=Pu (Lz _);simp only[LU,he];refine b3 (NH (Q:=λn s'=>n=2/\s'=s) ?_ (λn s' hs=>?_) λ_ _ z=>z)
 ·wp_walk
  show⟨by kernel_rfl,rfl⟩
 let⟨rfl,rfl⟩:=hs;refine b3 (LZ hi (_) λh1 e1 s1=>?_)
 calc b3 (m:=Wg (.type "StopIteration") []) ?_;simp only[Wg,Wh];refine b3 (N8 ?_ (by size_fits))
 refine b3 (m:=Q1 _ _) (Q0 (a:=Ou) (by first|rfl|(simp only[Q1];rfl)) (N8 ?_ (by size_fits)))
 simp only[raiseNew];refine b3 (Up ?_)
 first|rw[show A.in1.handled=Y from j]|rw[j]
 calc b3 (D2 (VN ?_));show b3 (OG (T:="StopIteration") (b:=WX) ⟨_,Lu _ rfl,rfl⟩ S0 (D2 (q _ λb o B e=>h7 _ (h7 _ (s1.extBut b o B e)))))
end
end It
namespace It
end It
namespace It
section
variable{prog:LR}{w:Mn}{A:Mq}{E:gV->tv->Prop}{s:tv}
def it_view{v d:WZ}{es:Array NY}{ep:Nat}{cd:gV}{dd:Option WZ}{sl:Array (Option gV)}{Q:gV->tv->Prop}(j:s.heap.get? v=S {cls:=.type "dict_items",data:=.fields #[.ref d]})(hd:s.heap.get? d=S {cls:=cd,dict:=dd,data:=.dict es ep,slots:=sl})(q:Q (.ref s.heap.objs.size) {s with heap:=s.heap.push (iO .none WY d 0 es.size ep .none .none)}):LD (model prog w) A (Sx (.ref v)) Q E s:=by
 let ty:s.TypeIs (.ref v) "dict_items":=⟨_,j,rfl⟩;calc Sw ty Tf (Mc Tf ty F.entry_dict_items_iter ?_ (F.args_dict_items_iter_1 _));unfold O7.«dict_items.__iter__»
 wp_walk
 show⟨_,rfl,"dict_itemiterator",_,⟨_,Lu _ rfl,rfl⟩,slot_next.lookup,q⟩
end
end It
section
section
variable{P:LR}{w:Mn}{H:Hp}{h:Heap}{a:WZ}{o:HO}
def ObjOk.there(x:ObjOk P w H h a o):∃ob,h.get? a=S ob:=by
 cases o with
 |lst xs=>let⟨_,_,_,_,e⟩:=x;show⟨_,e⟩
 |tup xs=>let⟨_,_,_,_,e,_⟩:=x;show⟨_,e⟩
 |dK kvs=>let⟨_,_,_,_,o,_,_,e,_⟩:=x;show⟨_,e⟩
 |dT kvs=>let⟨_,_,_,_,o,_,_,e,_⟩:=x;show⟨_,e⟩
 |set F2 n=>let⟨o,_,_,_,e,_⟩:=x;show⟨_,e⟩
 |ins C dx fs=>let⟨_,_,_,e,_⟩:=x;show⟨_,e⟩
 |own y=>let⟨_,e⟩:=x;show⟨_,e⟩
 |xd fs=>let⟨_,⟨_,_,_,e,_⟩,_⟩:=x;show⟨_,e⟩
 |rng lo hi=>let⟨_,_,_,e⟩:=x;show⟨_,e⟩
 |frz ob u=>let⟨e,_⟩:=x;show⟨_,e⟩
 |tbl ps=>show⟨_,show h.get? a=S _ from x⟩
 |met f y=>show⟨_,show h.get? a=S _ from x⟩
 |ext φ=>let⟨_,⟨_,e⟩,_⟩:=x;show⟨_,e⟩
end
abbrev lay(H:Hp)(N:WZ->Option HO):Hp:=λb=>match N b with|some o=>S o|none=>H b
section
variable{X:Cx}{pins:List (WZ×Obj)}{σ:List (Option V)}{H:Hp}{s:tv}{h':Heap}{N:WZ->Option HO}
def Ck{o:HO}(e:N b=S o):lay H N b=S o:=by unfold lay;rw[e]
def lB(e:N b=Y):lay H N b=H b:=by unfold lay;rw[e]
def Inv.fresh'(I:Inv X pins σ H s)(e:s.heap.get? b=Y):H b=Y:=by
 cases q:H b with
 |none=>rfl
 |some o=>let⟨ob,eo⟩:=(I.hok b o q).there;rw[e]at eo;cases eo
def Inv.laidN(I:Inv X pins σ H s)(k:∀b u,s.heap.get? b=S u->h'.get? b=S u)(j:∀b o,N b=S o->s.heap.get? b=Y)(new:∀b o,N b=S o->ObjOk X.prog X.w (lay H N) h' b o):Inv X pins σ (lay H N) {s with heap:=h',toks:=t'}:=by
 let old:∀b u,s.heap.get? b=S u->N b=Y:=λb u e=>by
  cases q:N b with
  |none=>rfl
  |some o=>rw[j b o q]at e;cases e
 let oldH:∀b o,H b=S o->lay H N b=S o:=λb o e=>by let⟨ob,eo⟩:=(I.hok b o e).there;rw[lB (old b ob eo)];show e
 refine I.un ⟨λb u q _ _ _=>k b u q,λb u q _ _ _=>⟨u.slots,k b u q⟩,λb u q n _=>by rw[lB (old b u q)];show n,λb u q _=>⟨u,k b u q⟩,λb xs q=>oldH b _ q,λb u xs q=>oldH b _ q,λb ps q=>⟨#[],by rw[oldH b _ q];simp⟩⟩ λb o e=>?_
 cases q:N b with
 |some o'=>rw[Ck q]at e;cases e;show new b o q
 |none=>rw[lB q]at e;show(I.hok b o e).stay (λc v _ q=>k c v q) (λc q=>oldH c _ q) λc xs q=>oldH c _ q
end
namespace Mi
open L2.Srt
inductive Sh where
 |int
 |tup (l:List Sh)
mutual
noncomputable def hs:Sh->D->Bool
 |.int,.int _=>WX
 |.tup l,.tup ds=>hss l ds
 |_,_=>WY
noncomputable def hss:List Sh->List D->Bool
 |[],[]=>WX
 |s::l,d::ds=>hs s d&&hss l ds
 |_,_=>WY
end
mutual
noncomputable def pd:D->Ni
 |.int i=>.int i
 |.tup ds=>.tuple (pds ds)
 |_=>.none
noncomputable def pds:List D->List Ni
 |[]=>[]
 |d::ds=>pd d::pds ds
end
mutual
noncomputable def dep:Sh->Nat
 |.int=>0
 |.tup l=>deps l+1
noncomputable def deps:List Sh->Nat
 |[]=>0
 |s::l=>max (dep s) (deps l)
end
abbrev gW:Sh->Bool
 |.int=>WX
 |.tup (.int::l)=>decide (deps l<=6)
 |.tup (.tup a::l)=>decide (deps (.tup a::l)<=6)
 |.tup []=>WY
abbrev kyD(d:D):Ky:=toK (pd d)
def uL{x:D}(h:hs .int x=WX):∃i,x=.int i:=by cases x<;>first|show⟨_,rfl⟩|cases h
def uM{l:List Sh}{x:D}(h:hs (.tup l) x=WX):∃ds,x=.tup ds/\hss l ds=WX:=by cases x<;>first|show⟨_,rfl,h⟩|cases h
def oo{a:List D}(h:hss [] a=WX):a=[]:=by
 cases a with
 |nil=>rfl
 |cons _ _=>cases h
variable{s:Sh}
def ot{l:List Sh}{a:List D}(h:hss (s::l) a=WX):∃x r,a=x::r/\hs s x=WX/\hss l r=WX:=by
 cases a with
 |nil=>cases h
 |cons x r=>show⟨x,r,rfl,Q3.mp h⟩
mutual
theorem xi:∀(s:Sh) (x y:D),hs s x=WX->hs s y=WX->Cmpb (pd x) (pd y)
 |.int,_,_,h,g=>by let⟨a,rfl⟩:=uL h;let⟨b,rfl⟩:=uL g;simp only[pd];show .int a b
 |.tup l,_,_,h,g=>by let⟨a,rfl,h⟩:=uM h;let⟨b,rfl,g⟩:=uM g;simp only[pd];show hss_cmp l a b h g
theorem hss_cmp:∀(l:List Sh) (a b:List D),hss l a=WX->hss l b=WX->Cmpb (.tuple (pds a)) (.tuple (pds b))
 |[],_,_,h,g=>by cases oo h;cases oo g;simp only[pds];show .nil _
 |s::l,_,_,h,g=>by let⟨x,a,rfl,j⟩:=ot h;clear h;let h:=j;let⟨y,b,rfl,q⟩:=ot g;clear g;let g:=q;simp only[pds];show .cons (xi s x y h.1 g.1) (hss_cmp l a b h.2 g.2)
end
mutual
theorem uN:∀(s:Sh) (x:D),hs s x=WX->Pl (pd x)/\(pd x).canLay0=WX/\(pd x).depth<=dep s
 |.int,_,h=>by let⟨a,rfl⟩:=uL h;simp only[pd];show⟨.int a,rfl,by simp[ND]⟩
 |.tup l,_,h=>by let⟨a,rfl,h⟩:=uM h;let⟨h1,h2,j⟩:=hss_pl l a h;simp only[pd];show⟨.tup _ h1,by simpa[Q2]using h2,by simp[ND,dep];lia⟩
theorem hss_pl:∀(l:List Sh) (a:List D),hss l a=WX->(∀x∈pds a,Pl x)/\MD (pds a)=WX/\N5 (pds a)<=deps l
 |[],_,h=>by cases oo h;simp[pds,MD,N5]
 |s::l,_,h=>by
  let⟨x,a,rfl,j⟩:=ot h;clear h;let h:=j;let⟨h1,h2,B⟩:=uN s x h.1;let⟨g1,g2,g3⟩:=hss_pl l a h.2;simp only[pds];refine⟨λy q=>?_,by simp[MD,h2,g2],by simp[N5,deps];lia⟩
  rcases Lw.mp q with z|z
  ·rw[z];show h1
  ·show g1 y z
end
mutual
theorem B9(M:Mem):∀(s:Sh) (x:D) (n:Nat),hs s x=WX->dep s<=n->rb n M x=S (pd x)
 |.int,_,n,h,_=>by let⟨a,rfl⟩:=uL h;cases n<;>simp[rb,pd]
 |.tup l,_,n,h,j=>by
  let⟨a,rfl,h⟩:=uM h;simp only[dep]at j;obtain⟨k,rfl⟩:∃k,n=k+1:=⟨n-1,∅⟩
  simp only[rb,pd];rw[hss_rb M l a k h ∅];rfl
theorem hss_rb(M:Mem):∀(l:List Sh) (a:List D) (n:Nat),hss l a=WX->deps l<=n->aD (rb n M) a=S (pds a)
 |[],_,_,h,_=>by cases oo h;simp[pds,aD]
 |s::l,_,n,h,j=>by let⟨x,a,rfl,q⟩:=ot h;clear h;let h:=q;simp only[deps]at j;simp only[pds,aD];rw[B9 M s x n h.1 ∅,hss_rb M l a n h.2 ∅];rfl
end
def qr(h:gW s=WX):dep s<=7:=by
 match s,h with
 |.int,_=>simp[dep]
 |.tup (.int::l),h=>simp[gW]at h;simp[dep,deps];lia
 |.tup (.tup a::l),h=>simp only[gW,decide_eq_true_eq]at h;simp only[dep];lia
set_option tactic.hygienic true
def Cl(h:gW s=WX){xs:List D}(hx:∀x∈xs,hs s x=WX):qm 7 (xs.map pd)/\∀d∈xs.map pd,Pl d:=by
 refine⟨⟨?_,?_,?_⟩,?_⟩
 ·intro d hd e he;let⟨x,h1,rfl⟩:=LI.mp hd;let⟨y,h2,rfl⟩:=LI.mp he;show xi s x y (hx x h1) (hx y h2)
 ·intro d hd;let⟨x,h1,rfl⟩:=LI.mp hd;let⟨_,g2,g3⟩:=uN s x (hx x h1);show⟨g2,by let:=qr h;lia⟩
 ·match s,h with
  |.int,_=>
   left
   intro d hd;let⟨x,h1,rfl⟩:=LI.mp hd;let:=hx x h1
   cases x<;>simp[hs]at this
   show⟨_,rfl⟩
  |.tup (.int::l),_=>
   right;left
   intro d hd;let⟨x,h1,rfl⟩:=LI.mp hd;let:=hx x h1
   cases x<;>simp[hs]at this
   rename_i ds
   cases ds with
   |nil=>simp[hss]at this
   |cons y ys=>
    simp[hss]at this
    cases y<;>simp[hs]at this
    show⟨_,_,rfl⟩
  |.tup (.tup a::l),_=>
   right;right
   intro d hd;let⟨x,h1,rfl⟩:=LI.mp hd;let:=hx x h1
   cases x<;>simp[hs]at this
   rename_i ds
   cases ds with
   |nil=>simp[hss]at this
   |cons y ys=>
    simp[hss]at this
    cases y<;>simp[hs]at this
    show⟨_,_,rfl⟩
 ·intro d hd;let⟨x,h1,rfl⟩:=LI.mp hd;show(uN s x (hx x h1)).1
set_option tactic.hygienic false
def nj{α β:Type}(f:α->β):∀{l m:List β},l.Perm m->∀{t:List α},t.map f=m->∃t':List α,t'.Perm t/\t'.map f=l:=by
 intro l m h
 induction h with
 |nil=>intro t e;show⟨[],by rw[Uh.mp e],rfl⟩
 |cons x h ih=>
  intro t e
  cases t with
  |nil=>simp at e
  |cons a t=>simp at e;let⟨t',h1,h2⟩:=ih e.2;show⟨a::t',h1.cons a,by simp[h2,e.1]⟩
 |swap x y l=>
  intro t e
  match t,e with
  |a::b::t,e=>simp at e;show⟨b::a::t,.swap _ _ _,by simp[e]⟩
 |trans h1 h2 j q=>intro t e;let⟨B,p2,e2⟩:=q e;let⟨t1,z,e1⟩:=j e2;show⟨t1,z.trans p2,e1⟩
abbrev eI(ys:List D):Prop:=ys.Pairwise λa b=>ltK (kyD b) (kyD a)=WY
abbrev iE:RAd:=λds M Q=>∃x xs sh,ds=[x]/\aC M x=S xs/\gW sh=WX/\(∀d∈xs,hs sh d=WX)/\∀p ys,M p=Y->ys.Perm xs->eI ys->Q (.ref p) (ad M p (.lst ys))
def j9:b8 iE:=λ_ _ _ _ h j=>(by let⟨x,xs,sh,e,l,o,a,q⟩:=j;show⟨x,xs,sh,e,l,o,a,λp ys n z hs=>h _ _ (q p ys n z hs)⟩)
set_option tactic.hygienic true
def sW{K:Frag}{H:Hp}:∀{ds:List D} {vs:List V} {us:List gV},RDs K H ds vs->Vals vs us->∃t:List (D×V×gV),t.map (·.1)=ds/\t.map (·.2.1)=vs/\t.map (·.2.2)=us/\∀p∈t,RD K H p.1 p.2.1/\RelV p.2.1 p.2.2
 |[],vs,us,h,g=>by
  cases RDs.nil_iff.mp h
  cases g
  show⟨[],rfl,rfl,rfl,λ_ h=>by simp at h⟩
 |d::ds,vs,us,h,g=>by
  let⟨v,r,rfl,h1,h2⟩:=WC.mp h
  cases g with
  |cons g1 g2=>
   rename_i u us;let⟨t,e1,e2,j,q⟩:=sW h2 g2;show⟨(d,v,u)::t,by simp[e1],by simp[e2],by simp[j],λp B=>by
    rcases Lw.mp B with z|z
    ·rw[z];show⟨h1,g1⟩
    ·show q p z⟩
set_option tactic.hygienic false
def sX{K:Frag}{H:Hp}:∀{t:List (D×V×gV)},(∀p∈t,RD K H p.1 p.2.1/\RelV p.2.1 p.2.2)->RDs K H (t.map (·.1)) (t.map (·.2.1))/\Vals (t.map (·.2.1)) (t.map (·.2.2))
 |[],_=>⟨RDs.nil,.nil⟩
 |p::t,h=>by
  let⟨h1,h2⟩:=sX (t:=t) λq j=>h q (by simp[j])
  show⟨RDs.cons (h p (_)).1 h1,.cons (h p (_)).2 h2⟩
section
variable{X:Cx}
def eZ{cap:Nat}(F2:iB cap)(L:X.A.units+16<NW){pins:List (WZ×Obj)}{s:tv}{σ:St}{H:Hp}{Q:VK}(I:Inv X pins σ H s){M:Mem}(rm:RM X.K M H){es:List D}{sh:Sh}{vs:List V}{p:WZ}(rvs:RDs X.K H es vs)(hok:gW sh=WX)(O:∀d∈es,hs sh d=WX)(q:∀p ys,M p=Y->ys.Perm es->eI ys->KE' X.K M H Q (.ref p) (ad M p (.lst ys))){its:List gV}(hv:Vals vs its)(hl:vs.length<=Ls)(Jc:vs.length<=cap)(U:∀(E:gV->tv->Prop) (R:List gV->tv->Prop),(∀(h':Heap) (tk:Nat),(∀b o,s.heap.get? b=S o->h'.get? b=S o)->s.toks<=tk->R its {s with heap:=h',toks:=tk})->LD (LN X.prog X.w) X.A.in1 (collect (.ref p)) R E s):
 LD (LN X.prog X.w) X.A (call (.builtin "sorted") [.ref p]) (EP X pins σ Q) X.xe s:=by
 let⟨hS,J⟩:=Cl hok O;let Jf:=qr hok;let⟨t,t1,t2,t3,t4⟩:=sW rvs hv;let F3:∀pp∈t,∃as,Qi s.heap pp.2.2 (pd pp.1) as:=λpp j=>by
  let hm:pp.1∈es:=by rw[<-t1];show MM j
  show bZ I rm 16 pp.1 (pd pp.1) pp.2.1 pp.2.2 (B9 M sh pp.1 16 (O _ hm) ∅) (t4 pp j).1 (t4 pp j).2
 let Z:RdL s.heap its (es.map pd):=λu L=>by rw[<-t3]at L;let⟨pp,j,rfl⟩:=LI.mp L;let⟨as,ra⟩:=F3 pp j;show⟨pd pp.1,MM (by rw[<-t1];show MM j),as,ra⟩
 refine xh F2 (m:=7) (ds:=es.map pd) (C:=λh' vs'=>vs'=its/\∀b o,s.heap.get? b=S o->h'.get? b=S o) ∅ hS J (λE R hR=>?_) λh1 h2 vs' out n' tk hC old g2 F Ja Jg Jh ht=>?_
 ·refine U E R λh' tk kp Jd=>hR h' its tk ⟨rfl,kp⟩ (λu L=>?_) ⟨by rw[<-hv.length];show hl,by rw[<-hv.length];show Jc⟩ Jd
  let⟨d,hd,as,ra⟩:=Z u L;show⟨d,hd,as,bB (λb o e _=>kp b o e) (J d hd) ra⟩
 ·let⟨rfl,kp⟩:=hC;rw[<-t3]at F;let⟨t',p1,p2⟩:=nj (fun pp:D×V×gV=>pp.2.2) F rfl;let hz:=sX (t:=t') fun pp j=>t4 pp (p1.mem_iff.mp j);let Jb:∀b o,s.heap.get? b=S o->h2.get? b=S o:=fun b o e=>old b o (kp b o e);let z:s.heap.get? h1.objs.size=Y:=by
   cases hq:s.heap.get? h1.objs.size with
   |none=>rfl
   |some o=>show absurd (LB (kp _ _ hq)) (Nb _)
  let Je:=I.fresh' z;let hlen:(t'.map (·.2.1)).length<=Ls:=by rw[s9,p1.length_eq,<-s9 (f:=λpp:D×V×gV=>pp.2.1),t2];show hl
  let I2:=I.laidN (t':=tk) (h':=h2) (N:=λb=>if b=h1.objs.size then S (.lst (t'.map (·.2.1)))else Y) Jb (λb o e=>by
   by_cases B:b=h1.objs.size
   ·rw[B];show z
   ·rw[if_neg B]at e;cases e) (λb o e=>by
   by_cases B:b=h1.objs.size
   ·subst B;rw[if_pos rfl]at e;cases e;show⟨hlen,out,n',by rw[<-p2];show hz.2,g2⟩
   ·rw[if_neg B]at e;cases e)
  let eH:lay H (λb=>if b=h1.objs.size then S (.lst (t'.map (·.2.1)))else Y)=upd H h1.objs.size (.lst (t'.map (·.2.1))):=by
   funext b
   unfold lay upd;dsimp only
   by_cases B:b=h1.objs.size
   ·rw[if_pos B,if_pos B]
   ·rw[if_neg B,if_neg B]
  rw[eH]at I2;calc⟨.ref h1.objs.size,_,I2,rfl,?_⟩;refine cH rm hz.1 (λp' n=>q p' _ n ?_ ?_) Je
  ·let:=p1.map (λpp:D×V×gV=>pp.1);rw[t1]at this;show this
  ·unfold eI;rw[MP];rw[<-p2,MP]at Ja;calc Ja.imp_of_mem fun {a b} ha B hab=>?_;let rd:∀pp∈t',O9 h2 pp.2.2=pd pp.1:=fun pp j=>by
    let G:=p1.mem_iff.mp j;let⟨as,ra⟩:=F3 pp G;let hm:pp.1∈es:=by rw[<-t1];show MM G
    show OT (hS.lay _ (MM hm)).1 (bB (λb o e _=>Jb b o e) (J _ (MM hm)) ra)
   rw[rd a ha,rd b B]at hab;show hab
def nO(G:X.A.units+16<NW):CallR X (.builtin "sorted") (lR X.K iE):=by
 intro pins s σ H xs us Q I r h;let⟨ds,M,rm,rs,x,es,sh,rfl,j,hok,z,q⟩:=h;let⟨v,rfl,rv⟩:=rs.one;let⟨u,rfl,ru⟩:=cO r;let⟨p,vs,rfl,sq,rvs⟩:=kl rm rv j
 cases ru
 rcases sq with sq|sq
 ·let⟨its,r',pl,hz⟩:=I.list sq;let hlen:=r'.length;let⟨o,ho,B,n,hd⟩:=pl.isList;show eZ fX G I rm rvs hok z q r' hz hz λE R F=>Vc p (.inl rfl) ho B hd (λh' kp=>F h' s.toks kp (Lz _)) (by simp only[LA]<;>lia)
 ·let⟨its,r',pl,hz⟩:=I.tuple sq;let hlen:=r'.length;let⟨o,ho,B,n,hd⟩:=pl;show eZ fX G I rm rvs hok z q r' hz hz λE R F=>Vc p (.inr rfl) ho B hd (λh' kp=>F h' s.toks kp (Lz _)) (by simp only[LA]<;>lia)
end
end Mi
end
namespace Mi
open L2.Srt
abbrev qt(K:Frag)(H:Hp)(kv:D×D)(e:NY):Prop:=∃kV vV,RD K H kv.1 kV/\RelV kV e.key/\RD K H kv.2 vV/\RelV vV e.val
variable{H:Hp}
def sY{K:Frag}{d:D}{k:Key}(h:RKey d k):RD K H d (kV k):=by
 cases d<;>first
  |show h.elim
  |(cases h;first|show Wz.mpr rfl|show WI.mpr rfl)
def no{K:Frag}{H:Hp}:∀{ds:List D} {ks:List Key},N6 RKey ds ks->RDs K H ds (ks.map kV)
 |_,_,.nil=>RDs.nil
 |_,_,.cons r t=>RDs.cons (sY r) (no t)
def Ba{P:LR}{w:Mn}{K:Frag}{H:Hp}:∀{kvs:List (D×D)} {ps:List (Key×V)} {vs:List (Key×gV)} {es:List NY},N6 (λ(p:D×D) (q:Key×V)=>RKey p.1 q.1/\RD K H p.2 q.2) kvs ps->KV ps vs->Pairs (b4 P w) es vs->N6 (qt K H) kvs es
 |_,_,_,_,.nil,.nil,.nil=>.nil
 |_,_,_,_,.cons j t1,.cons z B,.cons h1 h2 t3=>by
  refine .cons ⟨kV _,_,sY j.1,?_,j.2,by rw[h2];show z.2⟩ (Ba t1 B t3)
  rw[<-z.1]at h1
  rcases aZ h1 with⟨i,t,e1,e2⟩|⟨x,t,e1,e2⟩
  ·rw[e1,e2];show⟨t,rfl⟩
  ·rw[e1,e2];show⟨t,rfl⟩
def Bb{P:LR}{w:Mn}{K:Frag}{H:Hp}:∀{kvs:List (D×D)} {ps:List (List Key×V)} {xs:List (List Key×WZ×gV)},N6 (λ(p:D×D) (q:List Key×V)=>RKeys p.1 q.1/\RD K H p.2 q.2) kvs ps->N6 (λ(p:List Key×V) (q:List Key×WZ×gV)=>p.1=q.1/\H q.2.1=S (.tup (p.1.map kV))/\RelV p.2 q.2.2) ps xs->N6 (qt K H) kvs (xs.map (W3 (SH (b4 P w))))
 |_,_,_,.nil,.nil=>.nil
 |kv::_,_,_,.cons z t1,.cons B F=>by
  calc .cons ?_ (Bb t1 F);let⟨d,v⟩:=kv;let j:=z.1
  cases d<;>first
   |show j.elim
   |show⟨.ref _,_,WJ ⟨_,_,rfl,B.2.1,no j⟩,rfl,z.2,B.2.2⟩
def cV{α β:Type}{R:α->β->Prop}:∀{l:List α} {m:List β},N6 R l m->l.length=m.length
 |_,_,.nil=>rfl
 |_,_,.cons _ t=>by simp[cV t]
section
variable{X:Cx}
def Et{h:Heap}{P:LR}{w:Mn}{K:Frag}{a:WZ}{ps:List (List Key×V)}{kvs:List (D×D)}(ok:ObjOk P w H h a (.dT ps))(pr:N6 (λ(p:D×D) (q:List Key×V)=>RKeys p.1 q.1/\RD K H p.2 q.2) kvs ps):
 ∃cd dd sl es ep,h.get? a=S {cls:=cd,dict:=dd,data:=.dict es ep,slots:=sl}/\es.size<=Ls/\N6 (qt K H) kvs es.toList:=by
 let⟨G,B,xs,j,o,es,ep,h1,h2,z,F,J⟩:=ok;let⟨cd,dd,dat,sl⟩:=o;dsimp only at z;subst z;let pp:=Bb (P:=P) (w:=w) pr j;rw[<-F]at pp;calc⟨cd,dd,sl,es,ep,h1,?_,pp⟩;let:=cV pp;let:=cV pr;simp at *;lia
def Cn{pins:List (WZ×Obj)}{σ:St}{s:tv}{M:Mem}(I:Inv X pins σ H s)(rm:RM X.K M H){a:WZ}{t:Bool}{kvs:List (D×D)}(e:M a=S (.dct t kvs)):
 ∃cd dd sl es ep,s.heap.get? a=S {cls:=cd,dict:=dd,data:=.dict es ep,slots:=sl}/\es.size<=Ls/\N6 (qt X.K H) kvs es.toList/\IsD H a:=by
 let ro:=rm a _ e
 cases t with
 |false=>let⟨ps,j,pr⟩:=ro;let⟨G,B,vs,z,o,es,ep,h1,h2,q,J,F,L⟩:=I.hok a _ j;let⟨cd,dd,dat,sl⟩:=o;dsimp only at q;subst q;let pp:=Ba pr z F;calc⟨cd,dd,sl,es,ep,h1,?_,pp,.inl ⟨_,Rd.of j⟩⟩;let:=cV pp;let:=cV pr;simp at *;lia
 |true=>let⟨ps,j,pr⟩:=ro;let⟨cd,dd,sl,es,ep,h1,h2,q⟩:=Et (I.hok a _ j) pr;show⟨cd,dd,sl,es,ep,h1,h2,q,.inr ⟨_,Rd.of j⟩⟩
def xj{d:WZ}{Q:gV->tv->Prop}{A:Mq}{E:gV->tv->Prop}{s:tv}{cd:gV}{dd:Option WZ}{sl:Array (Option gV)}{es:Array NY}{ep:Nat}{prog:LR}{w:Mn}(ty:s.TypeIs (.ref d) "dict")(z:(d==Nr)=WY)(hd:s.heap.get? d=S {cls:=cd,dict:=dd,data:=.dict es ep,slots:=sl})(q:Q (.ref s.heap.objs.size) {s with heap:=s.heap.push {cls:=.type "dict_items",data:=.fields #[.ref d]}}):LD (model prog w) A (call (.builtin "dict.items") [.ref d]) Q E s:=by
 let j:cd=.type "dict":=by let⟨o,h1,h2⟩:=ty;rw[hd]at h1;cases h1;show h2
 subst j;calc Mc Vd ty F.entry_dict_items ?_ (F.args_dict_items_1 _);unfold O7.«dict.items»
 wp_walk
 show⟨_,rfl,q⟩
end
end Mi
namespace Mi
end Mi
section
abbrev dr{α:Type}(xs:List α)(c p:Nat):List α:=(LO ((xs.length-c+p-1) / p)).filterMap λk=>xs[c+p*k]?
def lD(its:List gV)(c p:Nat)(q:0<p):Vp its.toArray (S (c:Int)) Y (S (p:Int))=(dr its c p).toArray:=by
 let e1:(Oc (S (c:Int)) Y (S (p:Int)) its.toArray.size).fst=((min c its.length:Nat):Int):=by simp only[Oc,R8,LA];rw[if_neg (show ¬((c:Int)<0) by lia),if_pos (show(p:Int) > 0 by lia)];lia
 let e2:(Oc (S (c:Int)) Y (S (p:Int)) its.toArray.size).snd.fst=(its.length:Int):=by simp only[Oc,R8,LA];rw[if_pos ∅]
 let j:(Oc (S (c:Int)) Y (S (p:Int)) its.toArray.size).snd.snd=(p:Int):=by simp only[Oc,R8]
 unfold Vp;rw[e1,e2,j];congr 1;simp only[sliceRange,dr];rw[if_pos ∅,UD]
 by_cases h:c<its.length
 ·rw[if_pos ∅,NU ∅]
  let ec:(((its.length:Int)-(c:Nat)+p-1) / p).toNat=(its.length-c+p-1) / p:=by rw[show((its.length:Int)-(c:Nat)+p-1)=((its.length-c+p-1:Nat):Int) by lia,<-Int.natCast_ediv,LU]
  rw[ec];congr 1
  funext k
  change its.toArray[((c:Int)+p*k).toNat]?=its[c+p*k]?;rw[show((c:Int)+(p:Int)*(k:Int)).toNat=c+p*k by rw[<-PD];lia]
  simp
 ·rw[if_neg ∅]
  let ec:(its.length-c+p-1) / p=0:=by rw[show its.length-c+p-1=p-1 by lia];show SU ∅
  rw[ec];rfl
def qu{α:Type}(xs:List α)(c p:Nat)(j:0<p):(dr xs c p).length<=xs.length:=by
 unfold dr;calc MR (List.length_filterMap_le _ _) ?_;rw[Mg]
 by_cases h:c<xs.length
 ·calc MR (Nat.div_le_of_le_mul ?_) (Lz _);let:xs.length<=p*xs.length:=Nat.le_mul_of_pos_left _ j;let h2:p<=p*xs.length:=SV _ ∅
  let z:(xs.length-c)+(p-1)<=p*xs.length:=by
   obtain⟨q,rfl⟩:∃q,p=q+1:=⟨p-1,∅⟩
   rw[QK];let:q<=q*xs.length:=SV _ ∅
   lia
  lia
 ·rw[show xs.length-c+p-1=p-1 by lia,SU ∅];lia
def Vals.pick{xs:List V}{us:List gV}(r:Vals xs us)(f:Nat->Nat):∀ks:List Nat,Vals (ks.filterMap λk=>xs[f k]?) (ks.filterMap λk=>us[f k]?)
 |[]=>.nil
 |k::ks=>by
  cases e:xs[f k]? with
  |none=>
   let e2:us[f k]?=Y:=by rw[Si]at e⊢;rw[<-r.length];show e
   rw[Pa (f:=λk=>xs[f k]?) (a:=k) e,Pa (f:=λk=>us[f k]?) (a:=k) e2];show Vals.pick r f ks
  |some x=>let⟨u,e2,rx⟩:=r.get e;rw[Pb (f:=λk=>xs[f k]?) (a:=k) e,Pb (f:=λk=>us[f k]?) (a:=k) e2];show .cons rx (Vals.pick r f ks)
section
variable{X:Cx}
abbrev FO(K:Frag)(te:TE)(tl ts:TO):TE:=λσ H Q=>te σ H λx H1=>tl σ H1 λl H2=>ts σ H2 λst H3=>∃a xs,∃c p:Nat,x=.ref a/\SqL K H3 a xs/\l=S (c:Int)/\st=S (p:Int)/\0<p/\∀q,H3 q=Y->Q (.ref q) (upd H3 q (.lst (dr xs c p)))
def Co{e:Expr}{lo:Option Expr}{st:Expr}{te:TE}{tl ts:TO}{p2:Pos}(he:PE X e te)(G:PO X lo tl)(hs:PO X (S st) ts):PE X (.Subscript e (.Slice lo Y (S st) p2) pos) (FO X.K te tl ts):=by
 intro pins s σ H Q I h;calc Wb (thn (he pins s σ H _ I h) λv s1 j=>?_);let⟨x,H1,J,L,O⟩:=j;calc wpAny_Slice (thn (G pins s1 σ H1 _ J O) λvl s2 j=>?_);let⟨l,H2,U,pl,F3⟩:=j;rw[Um];calc D2 (thn (hs pins s2 σ H2 _ U F3) λvs s3 j=>?_);let⟨u,Z,I3,ps,q3⟩:=j;let B:Inv X pins σ Z {s3 with heap:=s3.heap.push {cls:=.type "slice",data:=.fields #[vl,.none,vs]}}:=I3.kept (t':=s3.toks) λb ob q=>h7 _ q
 let⟨a,xs,c,p,rfl,sq,rfl,rfl,F,q⟩:=q3
 cases L
 let⟨its,r,ht,hz⟩:=B.list sq;let hlen:=r.length;change LD (model X.prog X.w) X.A (Uo e (.Slice lo Y (S st) p2) (.ref a) (.ref s3.heap.objs.size)) (EP X pins σ Q) X.xe {s3 with heap:=s3.heap.push {cls:=.type "slice",data:=.fields #[vl,.none,vs]}}
 refine Wc (ops:=[.ref a,.ref s3.heap.objs.size]) ht.isList.typeIs slot_list_getitem.lookup ?_ (by with_unfolding_all rfl)
 refine Sy ht.isList (UG ..) pl .none ps (by intro z;let:=Nw.inj z;lia) ?_ (by rw[LA]<;>lia)
 rw[lD _ _ _ F];calc⟨.ref _,_,B.laid (t':=s3.toks) (o:=.lst (dr xs c p)) (λb ob q=>h7 _ q) (Lz _) ?_,rfl,q _ (B.hok.fresh (Lz _))⟩;calc⟨MR (qu xs c p F) hz,_,0,?_,Lu _ rfl⟩;unfold dr;rw[hlen];show r.pick (λk=>c+p*k) _
end
namespace Mi
section
variable{X:Cx}
def RDs.pick{K:Frag}{H:Hp}{ds:List D}{vs:List V}(r:RDs K H ds vs)(f:Nat->Nat):∀ks:List Nat,RDs K H (ks.filterMap λk=>ds[f k]?) (ks.filterMap λk=>vs[f k]?)
 |[]=>.nil
 |k::ks=>by
  cases e:vs[f k]? with
  |none=>
   let e2:ds[f k]?=Y:=by rw[Si]at e⊢;rw[<-r.length];show e
   rw[Pa (f:=λk=>vs[f k]?) (a:=k) e,Pa (f:=λk=>ds[f k]?) (a:=k) e2];show RDs.pick r f ks
  |some x=>let⟨u,e2,rx⟩:=r.getV e;rw[Pb (f:=λk=>vs[f k]?) (a:=k) e,Pb (f:=λk=>ds[f k]?) (a:=k) e2];show .cons rx (RDs.pick r f ks)
abbrev ou(te:TEd)(tl ts:TOd):TEd:=λρ M Q=>te ρ M λx M1=>tl ρ M1 λl M2=>ts ρ M2 λu M3=>∃a ds,∃c p:Nat,x=.ref a/\M3 a=S (.lst ds)/\l=S (c:Int)/\u=S (p:Int)/\0<p/\∀q,M3 q=Y->Q (.ref q) (ad M3 q (.lst (dr ds c p)))
def xk{ta:TEd}{tl th:TOd}(m:ae ta)(ml:cS tl)(mh:cS th):ae (ou ta tl th):=λρ M Q Q' i q=>m _ _ _ _ (λx O j=>ml _ _ _ _ (λl M2 z=>mh _ _ _ _ (λu U B=>(by let⟨a,ds,c,p,e1,e2,F,G,J,L⟩:=B;show⟨a,ds,c,p,e1,e2,F,G,J,λp n=>i _ _ (L p n)⟩)) z) j) q
def Cp{e:Expr}{ta:TEd}{lo:Option Expr}{hi:Expr}{tl th:TOd}{p2 pos:Pos}(m:ae ta)(ml:cS tl)(mh:cS th)(he:PE X e (lE X.K ta))(Z:PO X lo (lO X.K tl))(hu:PO X (S hi) (lO X.K th)):
 PE X (.Subscript e (.Slice lo Y (S hi) p2) pos) (lE X.K (ou ta tl th)):=by
 calc PE.imp (Co he Z hu) λσ H Q h=>?_;let⟨ρ,M,rs,rm,q⟩:=h;calc⟨ρ,M,rs,rm,m _ _ _ _ (λx M1 q1 v H1 F j G=>?_) q⟩;calc⟨ρ,M1,rs.mono (F.stab rm),j,ml _ _ _ _ (λl M2 q2 H2 J z=>?_) q1⟩;calc⟨ρ,M2,(rs.mono (F.stab rm)).mono (J.stab j),z,mh _ _ _ _ (λu M3 L H3 F3 B=>?_) q2⟩;let O:=F.trans (J.trans F3);let U:=(G.mono (J.stab j)).mono (F3.stab z);let⟨a,ds,c,p,rfl,e,rfl,rfl,hp,L⟩:=L
 cases WA.mp U
 let⟨vs,ha,r⟩:=B _ _ e;calc⟨a,vs,c,p,rfl,SqL.of ha,rfl,rfl,hp,λp' n=>cH B (ds:=dr ds c p) ?_ (λp' n'=>(L p' n').ext O) n⟩;unfold dr;rw[<-r.length];show r.pick (λk=>c+p*k) _
end
end Mi
end
namespace Mi
end Mi
namespace Mi
end Mi
namespace Dk
variable{it d:WZ}{ep:Nat}{dd:Option WZ}{sl:Array (Option gV)}{es:Array NY}
section
variable{prog:LR}{w:Mn}{A:Mq}{E:gV->tv->Prop}{s:tv}
abbrev kO(d:WZ)(i n ep:Nat):Obj:={cls:=.type "dict_keyiterator",data:=.fields #[.ref d,.int i 0,.int n 0,.int ep 0]}
def slot_next:Slot "dict_keyiterator" "__next__" "dict_keyiterator.__next__":=.of (owner:="dict_keyiterator") (n:="__next__") (by rw[Tu,QV];kernel_rfl) (by decide +kernel) (by decide +kernel) (by decide +kernel) (.inl (by decide +kernel)) (by rw[QP];kernel_rfl)
def cU:Wk table "dict_keyiterator.__next__"=S O7.«dict_keyiterator.__next__»:=VC (by kernel_rfl)
def dB(a:gV):Te "dict_keyiterator.__next__" ⟨[a],[]⟩:=by unfold Te;kernel_rfl
def fB(ty:s.TypeIs (.ref it) "dict_keyiterator"){types:List String}{Q:Bool->tv->Prop}(q:Q (types.any λt=>[MJ "dict_keyiterator",MJ "object"].contains (MJ t)) s):LD (model prog w) A (OL (.ref it) types) Q E s:=by
 let hm:=Ur;unfold OL
 wp_walk
 show q
def dX{i:Nat}{cd:gV}{e:NY}{Q:Option gV->tv->Prop}(hi:s.heap.get? it=S (kO d i es.size ep))(hd:s.heap.get? d=S {cls:=cd,dict:=dd,data:=.dict es ep,slots:=sl})(he:es[i]?=S e)(q:∀h',h'.get? it=S (kO d (i+1) es.size ep)->Nt it s.heap h'->Q (S e.key) {s with heap:=h'}):LD (model prog w) A (OO (.ref it)) Q E s:=by
 let ty:s.TypeIs (.ref it) "dict_keyiterator":=⟨_,hi,rfl⟩;unfold OO;calc b3 (P7 (Mo (name:=MU "__next__") ty slot_next (Mc slot_next ty cU ?_ (dB _))));unfold O7.«dict_keyiterator.__next__»;let hm:=Ur
 wp_walk
 dsimp only;rw[if_neg (_)]
 simp only[LU,he];refine b3 (NH (Q:=λn s'=>n=0/\s'=s) ?_ (λn s' hs=>?_) λ_ _ z=>z)
 ·wp_walk
  show⟨by kernel_rfl,rfl⟩
 let⟨rfl,rfl⟩:=hs;calc b3 (fB ty ?_);refine b3 (LZ hi (_) λh1 e1 s1=>?_)
 rw[if_neg (by decide +kernel)]at e1
 let e1:h1.get? it=S (kO d (i+1) es.size ep):=e1;let j:Shared.TypeIs {s' with heap:=h1} (.ref it) "dict_keyiterator":=⟨_,e1,rfl⟩
 calc b3 (Np ?_);calc b3 (fB j ?_);refine U1 (by decide +kernel) ?_
 calc D2 (D2 ⟨_,rfl,D2 ?_⟩);show q h1 e1 s1
def nx_end{cd:gV}{Q:Option gV->tv->Prop}(j:A.handled=Y)(hi:s.heap.get? it=S (kO d es.size es.size ep))(hd:s.heap.get? d=S {cls:=cd,dict:=dd,data:=.dict es ep,slots:=sl})(q:∀h',(∀b o,b≠it->s.heap.get? b=S o->h'.get? b=S o)->Q Y {s with heap:=h'}):LD (model prog w) A (OO (.ref it)) Q E s:=by
 let ty:s.TypeIs (.ref it) "dict_keyiterator":=⟨_,hi,rfl⟩;unfold OO;calc b3 (P7 (Mo (name:=MU "__next__") ty slot_next (Mc slot_next ty cU ?_ (dB _))));unfold O7.«dict_keyiterator.__next__»;let hm:=Ur
 wp_walk
 dsimp only;rw[if_neg (_)]
 let he:es[es.size]?=Y:=Pu (Lz _);simp only[LU,he];refine b3 (NH (Q:=λn s'=>n=0/\s'=s) ?_ (λn s' hs=>?_) λ_ _ z=>z)
 ·wp_walk
  show⟨by kernel_rfl,rfl⟩
 let⟨rfl,rfl⟩:=hs;refine b3 (LZ hi (_) λh1 e1 s1=>?_)
 calc b3 (m:=Wg (.type "StopIteration") []) ?_;simp only[Wg,Wh];refine b3 (N8 ?_ (by size_fits))
 refine b3 (m:=Q1 _ _) (Q0 (a:=Ou) (by first|rfl|(simp only[Q1];rfl)) (N8 ?_ (by size_fits)))
 simp only[raiseNew];refine b3 (Up ?_)
 first|rw[show A.in1.handled=Y from j]|rw[j]
 calc b3 (D2 (VN ?_));show b3 (OG (T:="StopIteration") (b:=WX) ⟨_,Lu _ rfl,rfl⟩ S0 (D2 (q _ λb o B e=>h7 _ (h7 _ (s1.extBut b o B e)))))
def Cq{Q:gV->tv->Prop}(j:(d==Nr)=WY)(hd:s.heap.get? d=S {cls:=.type "dict",dict:=dd,data:=.dict es ep,slots:=sl})(q:Q (.ref s.heap.objs.size) {s with heap:=s.heap.push (kO d 0 es.size ep)}):LD (model prog w) A (Sx (.ref d)) Q E s:=by
 let ty:s.TypeIs (.ref d) "dict":=⟨_,hd,rfl⟩;calc Sw ty VD (Mc VD ty F.entry_dict_iter ?_ (F.args_dict_iter_1 _));unfold O7.«dict.__iter__»
 wp_walk
 show⟨_,rfl,"dict_keyiterator",_,⟨_,Lu _ rfl,rfl⟩,slot_next.lookup,q⟩
def walk(hn:A.handled=Y)(it d:WZ)(hne:d≠it)(es:Array NY)(ep:Nat):
 Walks prog w A it [it,d] [it] es.size (λi v=>∃e,es[i]?=S e/\v=e.key) (λi h=>h.get? it=S (kO d i es.size ep)/\∃cd dd sl,h.get? d=S {cls:=cd,dict:=dd,data:=.dict es ep,slots:=sl}) where
 sub:=λb hb=>by simp at hb;simp[hb]
 frame:=λ_ _ _ st k=>⟨k it (_) _ st.1,by let⟨cd,dd,sl,h⟩:=st.2;show⟨cd,dd,sl,k d (_) _ h⟩⟩
 item:=λi s Q E hi st q=>by let⟨h1,cd,dd,sl,h2⟩:=st;calc dX (e:=es[i]) h1 h2 (Mm hi) λh' e' s'=>?_;show q _ h' s.toks ⟨_,Mm hi,rfl⟩ ⟨e',cd,dd,sl,s'.extBut d _ hne h2⟩ λb o hb x=>s'.extBut b o (λz=>hb (by simp[z])) x
 done:=λs Q E st q=>by let⟨h1,cd,dd,sl,h2⟩:=st;show nx_end hn h1 h2 λh' k=>q h' s.toks λb o hb x=>k b o (λz=>hb (by simp[z])) x
 self:=λi s Q E st q=>wpAny_pyIter_keyiter ⟨_,st.1,rfl,rfl⟩ q
def xm{Q:Bool->tv->Prop}(ty:s.TypeIs (.ref d) "dict")(q:Q WY s):LD (model prog w) A (RG (.ref d)) Q E s:=by
 unfold RG;calc b3 (Qr ty F.slot_dict_len.lookup ?_);generalize j:("dict.__len__":String)=z
 (fail_if_success (clear j z));wp_delta
 rw[show splitId z=S ("dict","__len__")from by subst j;decide +kernel]
 subst j;refine b3 (OG (b:=WX) ty (by rw[QP];kernel_rfl) ?_)
 rw[if_neg (·)]
 refine U1 (by decide +kernel) ?_
 calc b3 (Ry ty ?_);show D2 q
open Builtin.List in
def zV(hn:A.handled=Y){F2:WZ}{c:Nat}{R:Vn->tv->Prop}(res:gV)(Z:(d==Nr)=WY)(hd:s.heap.get? d=S {cls:=.type "dict",dict:=dd,data:=.dict es ep,slots:=sl})(F3:s.heap.get? F2=S {cls:=.type "list",data:=.seq #[] c})(hz:es.size<=Ls)(q:∀(h':Heap) (tk:Nat) (acc':Array gV) (c':Nat),(∀b o,b≠F2->s.heap.get? b=S o->h'.get? b=S o)->h'.get? F2=S {cls:=.type "list",data:=.seq acc' c'}->acc'.toList=es.toList.map (·.key)->s.toks<=tk->R (.ok (.ret res)) {s with heap:=h',toks:=tk}):
 LD (model prog w) A.in1 (listExtendWith (.ref F2) (.ref d) res) (λfin s'=>match fin with|.done f=>R (.ok f) s'|.again c'=>c'.quiet=WX/\Q6 (model prog w) A c' R s') (λe s'=>R (.error e) s') s:=by
 let ty:s.TypeIs (.ref d) "dict":=⟨_,hd,rfl⟩;let G:F2≠d:=λe=>by rw[e,hd]at F3;simp at F3
 let h1:listSameRef (.ref F2) (.ref d)=WY:=by simp[listSameRef,G]
 unfold listExtendWith;calc b3 (Ry ty ?_);rw[if_neg (by rw[h1];decide)]
 calc b3 (Cq Z hd ?_);refine b3 (Np (xm (s:={s with heap:=s.heap.push (kO d 0 es.size ep)}) ⟨_,h7 _ hd,rfl⟩ ?_))
 let B:=LB F3;let J:=LB hd;let W:=(walk (prog:=prog) (w:=w) (A:=A.in1) hn s.heap.objs.size d (Mh J) es ep).toS;let Ja:F2∉[s.heap.objs.size,d]:=λhm=>by
  simp only[Lw,LW,or_false]at hm
  rcases hm with e|e
  ·show absurd (e▸B) (Nb _)
  ·show G e
 refine U1 (by decide +kernel) ?_
 calc b3 (NI ?_);unfold listTouch;let L:(s.heap.push (kO d 0 es.size ep)).get? F2=S (Vz "list" #[] c):=h7 _ F3;refine b3 (b3 (Rf L rfl ?_ (_) (_)))
 let O:=Qt L (λx=>x.push Ou);refine Rf O rfl ?_ (by simp;decide) (_)
 let Jb:=Qt O (λx=>x.pop);let oth:∀b o,b≠F2->s.heap.get? b=S o->(((s.heap.push (kO d 0 es.size ep)).update F2 (OJ λx=>x.push Ou)).update F2 (OJ λx=>x.pop)).get? b=S o:=λb o U e=>by rw[Ob _ _ _ _ U,Ob _ _ _ _ U];show h7 _ e
 let hit:(((s.heap.push (kO d 0 es.size ep)).update F2 (OJ λx=>x.push Ou)).update F2 (OJ λx=>x.pop)).get? s.heap.objs.size=S (kO d 0 es.size ep):=by rw[Ob _ _ _ _ (OU B),Ob _ _ _ _ (OU B)];show Lu _ rfl
 calc D2 ⟨Ql F.plain_extend_loop _,codeAny_extend_loopS W hz _ Ja _ es.size 0 _ _ _ rfl (NM _) ⟨hit,_,_,_,oth d _ G.symm hd⟩ Jb (ItemsOf.nil _) λs' acc c' hm Jc ha=>?_⟩;rw[hm.eq_with];refine q _ _ acc c' (λb o U e=>?_) Jc ?_ hm.toks
 ·show hm.heap b o (fun z=>by
   simp only[Lw,LW,or_false]at z
   rcases z with z|z
   ·show U z
   ·show absurd (z▸LB e) (Nb _)) (oth b o U e)
 ·let⟨g1,g2⟩:=ha;apply OY;intro j;rw[Ma,Ly,Ma]
  by_cases hj:j<es.size
  ·let⟨e,he,hv⟩:=g2 j (acc[j]'∅) (Mm ∅)
   rw[Mm ∅,hv,he];rfl
  ·rw[Pu ∅,Pu ∅];rfl
def collect_dict(J:A.handled=Y){Q:List gV->tv->Prop}(j:(d==Nr)=WY)(hd:s.heap.get? d=S {cls:=.type "dict",dict:=dd,data:=.dict es ep,slots:=sl})(hz:es.size<=Ls)(q:∀(h':Heap) (tk:Nat),(∀b o,s.heap.get? b=S o->h'.get? b=S o)->s.toks<=tk->Q (es.toList.map (·.key)) {s with heap:=h',toks:=tk}):LD (model prog w) A (collect (.ref d)) Q E s:=by
 unfold collect;calc b3 (wpAny_runValue (PH F.entry_proto_collect ?_));unfold O7.«proto.collect»;dsimp only;refine b3 (SA ?_ (_))
 refine D2 ⟨Code.quiet_builtin _ (by decide +kernel),?_⟩
 calc PH entry_list_iadd' ?_;unfold O7.«list.__iadd__»;refine b3 (Q0 (a:=(Ms s.heap.objs.size,[Ms d])) (by kernel_rfl) ?_)
 let z:(s.heap.push {cls:=MJ "list",data:=Rj [].toArray}).get? s.heap.objs.size=S {cls:=MJ "list",data:=Rj #[] 0}:=Lu _ rfl;rw[Around.under_plain (by rfl) (by rfl)]
 refine NH (zV (s:={s with heap:=s.heap.push {cls:=MJ "list",data:=Rj [].toArray}}) (R:=λr s'=>r=.ok (.ret (.ref s.heap.objs.size))/\LD (model prog w) A (do
  let o <-load s.heap.objs.size
  match o.data with
  |.seq xs _=>pure xs.toList
  |_=>unsupported "internal:collect") Q E s') J (Ms s.heap.objs.size) j (h7 _ hd) z hz λh' tk acc c' kp B L G=>⟨rfl,?_⟩) (λfn s' h=>?_) (λe s' h=>?_)
 ·calc b3 (wpAny_load B ?_);calc D2 ?_;rw[L];show q h' tk (λb o e=>kp b o (Mh (LB e)) (h7 _ e)) G
 ·cases fn with
  |done f=>
   let⟨e,h⟩:=h
   cases e
   show h
  |again c'=>calc⟨h.1,QG h.2 λr s1 hr=>?_⟩;let⟨rfl,hr⟩:=hr;show hr
 ·cases h.1
end
end Dk
namespace Mi
open L2.Srt
abbrev kF:RAd:=λds M Q=>∃a t kvs sh,ds=[.ref a]/\M a=S (.dct t kvs)/\gW sh=WX/\(∀kv∈kvs,hs sh kv.1=WX)/\∀p ys,M p=Y->ys.Perm (kvs.map (·.1))->eI ys->Q (.ref p) (ad M p (.lst ys))
def kG:b8 kF:=λ_ _ _ _ h j=>(by let⟨a,t,kvs,sh,e,e1,e2,z,q⟩:=j;show⟨a,t,kvs,sh,e,e1,e2,z,λp ys n B hs=>h _ _ (q p ys n B hs)⟩)
def sZ{K:Frag}{H:Hp}:∀{kvs:List (D×D)} {es:List NY},N6 (qt K H) kvs es->∃vs,RDs K H (kvs.map (·.1)) vs/\Vals vs (es.map (·.key))
 |_,_,.nil=>⟨[],RDs.nil,.nil⟩
 |_,_,.cons r t=>by let⟨vs,h1,h2⟩:=sZ t;let⟨kV,vV,g1,g2,_,_⟩:=r;show⟨kV::vs,RDs.cons g1 h1,.cons g2 h2⟩
section
variable{X:Cx}
def qw(L:X.A.units+16<NW)(O:X.calm=WX):CallR X (.builtin "sorted") (lR X.K kF):=by
 intro pins s σ H xs us Q I r h;let⟨ds,M,rm,rs,a,t,kvs,sh,rfl,e,hok,j,q⟩:=h;let⟨v,rfl,rv⟩:=rs.one;let⟨u,rfl,ru⟩:=cO r
 cases WA.mp rv
 cases(show u=Ms a from ru)
 let⟨cd,dd,sl,es,ep,hd,hz,z,U⟩:=Cn I rm e;let⟨t1,t2,B⟩:=wd I U;let⟨vs,h1,h2⟩:=sZ z;let F:cd=.type "dict":=by let⟨o,g1,g2⟩:=t1;rw[hd]at g1;cases g1;show g2
 subst F;let F3:X.A.in1.handled=Y:=I.ok.hd O;show eZ (cap:=Ls) fX L I rm h1 hok (λd hd=>by let⟨kv,G,rfl⟩:=LI.mp hd;show j kv G) q h2 (by let:=h2.length;rw[s9]at this;simp at this;lia) (by let:=h2.length;rw[s9]at this;simp at this;lia) λE R Z=>Dk.collect_dict F3 B hd hz λh' tk kp J=>Z h' tk kp J
end
end Mi
section
section
variable{X:Cx}{pins:List (WZ×Obj)}{σ:St}{H:Hp}{s:tv}
def Cr{x:V}{t:String}(I:Inv X pins σ H s)(rx:RelV x u)(ty:cr X.K H x (.type t)):∃P,PySem.W.KitX X.K u (.type t) P/\P s.heap/\u≠Value.builtin "__main__.__loader__#opaque":=by
 generalize j:MJ t=T at ty
 cases ty with
 |non=>cases(show u=Ou from rx);show⟨_,UR,Nx,λz=>nomatch z⟩
 |bl y=>cases(show u=RJ y from rx);show⟨_,US,Nx,λz=>nomatch z⟩
 |int i=>let⟨t,rfl⟩:=(show ∃t,u=QW i t from rx);show⟨_,Vl,Nx,λz=>nomatch z⟩
 |str y=>let⟨t,rfl⟩:=(show ∃t,u=U9 y t from rx);show⟨_,Vm,Nx,λz=>nomatch z⟩
 |flt y=>let⟨t,rfl⟩:=(show ∃t,u=VI y t from rx);show⟨_,UA,Nx,λz=>nomatch z⟩
 |@lst a xs ea=>
  cases(show u=Ms a from rx)
  let⟨_,_,n,_,h1⟩:=(show ObjOk X.prog X.w H s.heap a (.lst xs)from I.hok a _ ea);show⟨_,QE,⟨_,h1,rfl⟩,λz=>nomatch z⟩
 |@frz a ob xs ea=>
  cases(show u=Ms a from rx)
  let⟨_,_,_,n,_,h1⟩:=(show ObjOk X.prog X.w H s.heap a (.frz ob (.lst xs))from I.hok a _ ea);show⟨_,QE,⟨_,h1,rfl⟩,λz=>nomatch z⟩
 |@tup a xs ea=>
  cases(show u=Ms a from rx)
  let⟨_,_,⟨o,h1,h2,_⟩,_⟩:=I.tuple ea;show⟨_,UB,⟨o,h1,h2⟩,λz=>nomatch z⟩
 |@dK a kvs ea=>
  cases(show u=Ms a from rx)
  let⟨_,_,vs,_,o,es,ep,h1,h2,_⟩:=(show ObjOk X.prog X.w H s.heap a (.dK kvs)from I.hok a _ ea);show⟨_,QF,⟨o,h1,h2.1⟩,λz=>nomatch z⟩
 |@dT a kvs ea=>
  cases(show u=Ms a from rx)
  let⟨_,_,xs,_,o,es,ep,h1,h2,_⟩:=(show ObjOk X.prog X.w H s.heap a (.dT kvs)from I.hok a _ ea);show⟨_,QF,⟨o,h1,h2.1⟩,λz=>nomatch z⟩
 |ins=>cases j
end
namespace Mi
variable{T U:String}
section
variable{X:Cx}
def Ct(K:Frag)(j:T∈["bool","int","str","tuple","list","dict"])(q:U∈["bool","int","str","tuple","list","dict"]){t:String}(ht:t∈cI):U2 K (.type t) [.type T,.type U]=S (eD T t || eD U t):=by
 let h1:=lm K T j t ht;let h2:=lm K U q t ht;unfold U2;rw[h1]
 cases e1:eD T t with
 |true=>rfl
 |false=>
  dsimp only;unfold U2;rw[h2]
  cases eD U t<;>rfl
def uO(z:T∈["bool","int","str","tuple","list","dict"])(B:U∈["bool","int","str","tuple","list","dict"]):CallR X (.builtin "isinstance") (λvs H Q=>∃v t p,vs=[v,.ref p]/\H p=S (.tup [.ty T,.ty U])/\cr X.K H v (.type t)/\t∈cI/\Q (.bl (eD T t || eD U t)) H):=by
 intro pins s σ H xs us Q I r h;let⟨v,t,p,rfl,F,ty,ht,q⟩:=h;let⟨u,c,rfl,ru,rc⟩:=nQ r
 cases(show c=Ms p from rc)
 let⟨P,g1,g2,g3⟩:=Cr I ru ty;let⟨_,its,rv,⟨cls,dd,dat,sl⟩,h1,h2,n,j⟩:=(show ObjOk X.prog X.w H s.heap p (.tup [.ty T,.ty U])from I.hok p _ F);dsimp only at h2 j;subst h2 j
 cases rv with
 |cons G rv=>
 cases rv with
 |cons J rv=>
 cases rv
 cases G
 cases J
 show PySem.W.kia_tup g1 I.kIn g2 h1 (Ct X.K z B ht) g3 λtk=>⟨.bl _,H,I.tok tk,rfl,q⟩
abbrev kH(T U:String)(ta:TEd):TEd:=λρ M Q=>ta ρ M λx M1=>∃t,tyN M1 x=S t/\Q (.bl (eD T t || eD U t)) M1
def uP{ta:TEd}(h:ae ta):ae (kH T U ta):=λρ M Q Q' i q=>h _ _ _ _ (λx B j=>(by let⟨t,e,z⟩:=j;show⟨t,e,i _ _ z⟩)) q
def zW{e:Expr}{ta:TEd}{y z:Str}{k:Nat}{p p2 j G pos:Pos}(hT:T∈["bool","int","str","tuple","list","dict"])(hU:U∈["bool","int","str","tuple","list","dict"])(m:ae ta)(he:PE X e (lE X.K ta))(hg:Gl X "isinstance")(hm:X.mg "isinstance"=Y)(J:Gl X y)(L:X.mg y=Y)(hv:OA y=S (.type T))(hn:y≠"__name__")(O:(y==("__debug__":Str))=WY)(F3:Gl X z)(Z:X.mg z=Y)(Ja:OA z=S (.type U))(Jb:z≠"__name__")(B:(z==("__debug__":Str))=WY)(hs:LV [e,.Tuple [.Name y p2,.Name z j] k G] X.env=(WY,eval e X.env)::LV [.Tuple [.Name y p2,.Name z j] k G] X.env):
 PE X (.Call (.Name "isinstance" p) [e,.Tuple [.Name y p2,.Name z j] k G] [] pos) (lE X.K (kH T U ta)):=by
 let h2:PE X (.Name y p2) (tC (.ty T)):=kU J L hv rfl hn O;let h3:PE X (.Name z j) (tC (.ty U)):=kU F3 Z Ja rfl Jb B;let h4:PE X (.Tuple [.Name y p2,.Name z j] k G) _:=vY (db h2 (db h3 jS rfl) rfl);refine PE.imp (bK (uO hT hU) hg hm (by decide +kernel) (db he (db h4 jS rfl) hs) (·) (·) hs rfl) λσ H Q h=>?_
 let⟨ρ,M,rs,rm,q⟩:=h;calc⟨ρ,M,rs,rm,m _ _ _ _ (λx M1 g9 v H1 x1 rm1 Jc=>?_) q⟩;let⟨t,e,q1⟩:=g9;refine⟨by simp;decide,λpp n=>?_⟩
 let st:=(WK (M:=M1) (ho:=.tup [.ty T,.ty U]) n).stab rm1;let F:=rm1.new (ho:=.tup [.ty T,.ty U]) n;show⟨v,t,pp,rfl,aB,B5 F (Jc.mono st) e,sJ e,q1 _ _ (x1.trans (WK n)) F (WB.mpr rfl)⟩
end
end Mi
end
namespace Mi
end Mi
namespace Mi
end Mi
namespace Mi
section
section
variable{lt:Nat->Nat->Bool}{prog:LR}{w:Mn}{A:Mq}{R:Vn->tv->Prop}{I:WZ}{fp wr:List WZ}{n:Nat}{P:Nat->gV->Prop}{St:Nat->Heap->Prop}{h0:Heap}{F2:WZ}
abbrev Kpt(wr:List WZ)(F2:WZ)(h h':Heap):Prop:=∀b o,b∉wr->b≠F2->h.get? b=S o->h'.get? b=S o
def Kpt.trans{wr:List WZ}{F2:WZ}{a b c:Heap}(h:Kpt wr F2 a b)(g:Kpt wr F2 b c):Kpt wr F2 a c:=λx o h1 h2 e=>g x o h1 h2 (h x o h1 h2 e)
abbrev lsO(vs:Array gV)(c:Nat):Obj:={cls:=.type "list",dict:=Y,data:=.seq vs c,slots:=#[]}
abbrev zX(lt:Nat->Nat->Bool)(prog:LR)(w:Mn)(A:Mq)(P:Nat->gV->Prop)(wr:List WZ)(F2:WZ)(h0:Heap):Prop:=∀(s:tv) (x y:gV) (i j:Nat) (Q:gV->tv->Prop) (E:gV->tv->Prop),Kpt wr F2 h0 s.heap->P i x->P j y->Q (.bool (lt i j)) s->LD (model prog w) A (Ri .Lt x y) Q E s
abbrev Lst(lt:Nat->Nat->Bool)(P:Nat->gV->Prop)(j:Nat)(u:gV):Prop:=∃i,P i u/\∀a,a<=j->lt a i=WY
structure zY(lt:Nat->Nat->Bool):Prop where
 tr:∀a b c,lt a b=WX->lt b c=WX->lt a c=WX
 ir:∀a,lt a a=WY
def Eu{kw:List (Str×gV)}(W:Walks prog w A.in1 I fp wr n P St)(U:F2∉fp)(F3:zX lt prog w A.in1 P wr F2 h0)(O:zY lt):∀(k j:Nat) (s:tv) (u:gV) (c:Nat),n-(j+1)=k->j+1<=n->St (j+1) s.heap->Lst lt P j u->s.heap.get? F2=S (lsO #[u,u] c)->Kpt wr F2 h0 s.heap->
 (∀v h' tk,Lst lt P (n-1) v->Kpt wr F2 s.heap h'->R (.ok (.ret v)) {s with heap:=h',toks:=tk})->Q6 (model prog w) A (.builtin "min.loop" ⟨[.ref I,.none,.ref F2],kw⟩) R s:=by
 let Z:F2∉wr:=λh=>U (W.sub _ h);let nm:(U3 "min"++U3 ".loop":String)="min.loop":=by decide
 intro k
 induction k with
 |zero=>
  intro j s u c hk hj st L hS _ hR;let ej:j+1=n:=∅
  calc PH R9 ?_;rw[Q4 NZ _];calc b3 (m:=SN (.ref F2)) (Nh hS rfl ?_);calc b3 (m:=Ve (OO (.ref I)) _) (QR (W.done s _ _ (ej▸st) λh' tk kk=>?_));let q:=kk F2 _ Z hS;calc b3 (m:=updateSeq F2 (λ_=>#[])) (Tv q rfl (b3 (Pk (D2 ?_))));show hR u _ tk (by rw[<-ej];show L) λb o Jb Jc e=>(NB _ _ (Ne.symm Jc)).trans (kk b o Jb e)
 |succ k ih=>
  intro j s u c hk hj st L hS hK hR;let B:j+1<n:=∅
  calc PH R9 ?_;rw[Q4 NZ _];calc b3 (m:=SN (.ref F2)) (Nh hS rfl ?_);calc b3 (m:=Ve (OO (.ref I)) _) (QR (W.item (j+1) s _ _ B st λv h' tk Ja st' kk=>?_));let q:=kk F2 _ Z hS;let⟨i,L,hle⟩:=L;let kk':Kpt wr F2 s.heap h':=λb o h1 _ e=>kk b o h1 e;calc b3 (m:=Ve (holding [v,v] (Ri .Lt v u>>=_)) _) (QR (Np (b3 (F3 _ v u (j+1) i _ _ (hK.trans kk') Ja L ?_))));calc b3 (Np (Nu ?_));refine b3 (Pk (D2 ?_))
  cases hb:lt (j+1) i with
  |true=>
   simp only[if_true];calc b3 (Tv q rfl (b3 (Pk ?_)));rw[nm];let up:Kpt wr F2 s.heap (h'.update F2 (OJ λ_=>#[v,v])):=λb o h1 h2 e=>(NB _ _ (Ne.symm h2)).trans (kk b o h1 e);refine D2 ⟨Ql NZ _,ih (j+1) _ v _ ∅ B (W.frame _ _ _ st' λb Jd o e=>?_) ⟨j+1,Ja,λa ha=>?_⟩ (ON _ q rfl) (hK.trans up) λv' G tk'' J z=>hR v' G tk'' J (up.trans z)⟩
   rotate_left
   ·by_cases e:a=j+1
    ·rw[e];show O.ir _
    ·cases hx:lt a (j+1)with
     |false=>rfl
     |true=>let:=O.tr _ _ _ hx hb;rw[hle a ∅]at this;cases this
   show(NB _ _ (λh:F2=b=>U (by rw[h];show Jd))).trans e
  |false=>
   simp only[Ml,if_false];calc b3 (Pk ?_);rw[nm];show D2 ⟨Ql NZ _,ih (j+1) _ u c ∅ B st' ⟨i,L,λa ha=>by
    by_cases e:a=j+1
    ·rw[e];show hb
    ·show hle a ∅⟩ q (hK.trans kk') λv' G tk'' J z=>hR v' G tk'' J (kk'.trans z)⟩
def xo{kw:List (Str×gV)}(W:Walks prog w A.in1 I fp wr n P St)(j:F2∉fp)(q:zX lt prog w A.in1 P wr F2 h0)(O:zY lt)(F3:0<n){s:tv}{c:Nat}(st:St 0 s.heap)(Z:s.heap.get? F2=S (lsO #[] c))(hK:Kpt wr F2 h0 s.heap)(hR:∀v h' tk,Lst lt P (n-1) v->Kpt wr F2 s.heap h'->R (.ok (.ret v)) {s with heap:=h',toks:=tk}):Q6 (model prog w) A (.builtin "min.loop" ⟨[.ref I,.none,.ref F2],kw⟩) R s:=by
 let G:F2∉wr:=λh=>j (W.sub _ h);let nm:(U3 "min"++U3 ".loop":String)="min.loop":=by decide
 calc PH R9 ?_;rw[Q4 NZ _];calc b3 (m:=SN (.ref F2)) (Nh Z rfl ?_);calc b3 (m:=Ve (OO (.ref I)) _) (QR (W.item 0 s _ _ F3 st λv h' tk hP st' kk=>?_));let z:=kk F2 _ G Z;calc b3 (m:=updateSeq F2 (λ_=>#[v,v])) (Tv z rfl ?_);rw[nm];let up:Kpt wr F2 s.heap (h'.update F2 (OJ λ_=>#[v,v])):=λb o h1 h2 e=>(NB _ _ (Ne.symm h2)).trans (kk b o h1 e);refine D2 ⟨Ql NZ _,Eu W j q O _ 0 _ v _ rfl F3 (W.frame _ _ _ st' λb J o e=>?_) ⟨0,hP,λa ha=>by rw[Nat.le_zero.mp ha];show O.ir _⟩ (ON _ z rfl) (hK.trans up) λv' L tk'' U B=>hR v' L tk'' U (up.trans B)⟩
 show(NB _ _ (λh:F2=b=>j (by rw[h];show J))).trans e
end
def xq:∀{a:List Int},HT.lexLt a a=WY
 |[]=>by simp[HT.lexLt]
 |x::a=>by simp[HT.lexLt,xq (a:=a)]
def xr:∀{a b c:List Int},HT.lexLt a b=WX->HT.lexLt b c=WX->HT.lexLt a c=WX
 |[],[],_,h,_=>by simp[HT.lexLt]at h
 |[],_::_,[],_,g=>by simp[HT.lexLt]at g
 |[],_::_,_::_,_,_=>rfl
 |_::_,[],_,h,_=>by simp[HT.lexLt]at h
 |_::_,_::_,[],_,g=>by simp[HT.lexLt]at g
 |x::a,y::b,z::c,h,g=>by
  rw[HT.lexLt_cons]at h g⊢
  by_cases e1:x=y
  ·subst e1;rw[if_pos rfl]at h
   by_cases e2:x=z
   ·rw[if_pos e2]at g⊢;show xr h g
   ·rw[if_neg e2]at g⊢;show g
  ·rw[if_neg e1]at h;let h:=of_decide_eq_true h
   by_cases e2:y=z
   ·subst e2;rw[if_neg e1];show decide_eq_true h
   ·rw[if_neg e2]at g;let g:=of_decide_eq_true g;rw[if_neg ∅]
    show decide_eq_true ∅
end
end Mi
section
section
variable{X:Cx}
abbrev t5:V->List V->Hp->VK->Prop:=λx vs H Q=>∃(l:WZ) (xs:List V) (i:Int) (y:V),x=.ref l/\vs=[.int i,y]/\H l=S (.lst xs)/\0<=i/\i.toNat<=xs.length/\xs.length<Ls/\Q .non (upd H l (.lst (xs.take i.toNat++y::xs.drop i.toNat)))
def WS:∀{xs:List V} {us:List gV} (n:Nat),Vals xs us->Vals (xs.take n) (us.take n)
 |_,_,0,_=>by simp only[List.take_zero];show .nil
 |_,_,_+1,.nil=>.nil
 |_,_,n+1,.cons r t=>.cons r (WS n t)
def WU:∀{xs:List V} {us:List gV} (n:Nat),Vals xs us->Vals (xs.drop n) (us.drop n)
 |_,_,0,r=>r
 |_,_,_+1,.nil=>.nil
 |_,_,n+1,.cons _ t=>WU n t
def xt:MtM X "list.insert" t5:=by
 intro pins s σ H x vs v us Q I rx rv h;let⟨l,xs,i,y,rfl,rfl,G,h0,J,hz,q⟩:=h
 cases rx
 let⟨u,j,rfl,ru,B⟩:=nQ rv;let⟨t,rfl⟩:=ru;let⟨z,its,n,r,L,e⟩:=I.lstM G;let hf:¬(!Builtin.List.listFitsIndex i)=WX:=by
  let:OM i=WX:=by unfold OM;rw[hH]at hz;rw[D0];show⟨decide_eq_true ∅,decide_eq_true ∅⟩
  rw[this];decide
 let hs:its.toArray.size<=Ls:=by rw[LA];lia
 let mt:=PySem.AutoSeq1.list_insert_list_int_val_1 l its.toArray n i t j hf hs;calc RW SF ⟨_,e,rfl⟩ PySem.F.entry_list_insert (PySem.F.args_list_insert_3 _ _ _) mt ⟨e,?_⟩;refine⟨.non,_,I.lset (its':=its.take i.toNat++j::its.drop i.toNat) G e ?_ ((WS i.toNat r).append (.cons B (WU i.toNat r))) ?_,rfl,q⟩
 ·let hm:(if i<0 then(i+(its.toArray.size:Int)).toNat else min i.toNat its.toArray.size)=i.toNat:=by
   rw[if_neg ∅,LA];lia
  change(its.toArray.extract 0 (if i<0 then(i+(its.toArray.size:Int)).toNat else min i.toNat its.toArray.size)).push j++its.toArray.extract (if i<0 then(i+(its.toArray.size:Int)).toNat else min i.toNat its.toArray.size)=_
  rw[hm];apply Array.ext';simp only[List.extract_toArray,List.push_toArray,List.append_toArray];simp[NF]
 ·rw[I7,My,LS,NX];lia
end
namespace Mi
abbrev iF:D->List D->Mem->QD->Prop:=λx ds M Q=>∃(a:WZ) (xs:List D) (i:Int) (y:D),x=.ref a/\ds=[.int i,y]/\M a=S (.lst xs)/\0<=i/\i.toNat<=xs.length/\xs.length<Ls/\Q .non (ad M a (.lst (xs.take i.toNat++y::xs.drop i.toNat)))
def ja:ko iF:=λ_ _ _ _ _ h j=>(by let⟨a,xs,k,y,e1,e2,B,F,z,G,q⟩:=j;show⟨a,xs,k,y,e1,e2,B,F,z,G,h _ _ q⟩)
def zZ{K:Frag}(v:V)(vs:List V)(H:Hp)(Q:VK)(h:lMt K iF v vs H Q):t5 v vs H Q:=by
 let⟨x,ds,M,rm,rx,rs,a,xs,i,y,rfl,rfl,e,j,z,B,q⟩:=h
 cases WA.mp rx
 let⟨J,w,rfl,F,rw'⟩:=rs.two
 cases Wz.mp F
 let⟨us,G,ru⟩:=rm _ _ e;show⟨a,us,i,w,rfl,rfl,G,j,by rw[ru.length];show z,by rw[ru.length];show B,sM rm e ((ru.take i.toNat).append (RDs.cons rw' (ru.drop i.toNat))) (WH.mpr rfl) q⟩
end Mi
end
namespace Mi
section
section
variable{X:Cx}
def qz{i:Int}:∀ns:List Int,inV (.int i) (ns.map V.int)=decide (i∈ns)
 |[]=>by simp[inV]
 |n::ns=>by
  let ih:=qz (i:=i) ns;unfold inV at ih⊢;rw[LL,O6,ih];change(n==i || decide (i∈ns))=_
  by_cases h:n=i
  ·subst h;simp
  ·rw[show(n==i)=WY by simpa using h]
   simp only[Rc,Lw];show decide_eq_decide.mpr ⟨.inr,λz=>z.resolve_left λw=>h w.symm⟩
end
end
end Mi
namespace Mi
end Mi
namespace Mi
open L2.Srt
end Mi
namespace Srt
open AutoSeq1 (wpAny_loadPart')
open MeetsSeq MeetsSeq2 MeetsSeq3
end Srt
namespace Srt
end Srt
namespace Mi
open L2.Srt
end Mi
namespace Mi
end Mi
namespace Mi
section
variable{X:Cx}
abbrev kI:R2d
 |.int i,y,M,Q=>∃ns:List Int,aC M y=S (ns.map .int)/\Q (.bl (!decide (i∈ns))) M
 |_,_,_,_=>False
def xu:aE kI:=by
 intro x y M Q Q' h q
 cases x<;>first
  |show q.elim
  |(let⟨ns,e,q⟩:=q;show⟨ns,e,h _ _ q⟩)
set_option tactic.hygienic true
def xw:OpR X (Mu .NotIn) (l2 X.K kI):=by
 calc OpR.of oR λv u H Q h=>?_;let⟨x,y,M,rm,rx,ry,q⟩:=h
 cases x<;>first
  |show q.elim
  |skip
 case int i=>
  let⟨ns,e,q⟩:=q;let⟨p,vs,rfl,hs,r⟩:=kl rm ry e;let rv:=r.ints_eq;subst rv
  cases Wz.mp rx
  refine⟨p,_,rfl,hs,rfl,?_,?_⟩
  ·simp[dM]
  ·rw[if_pos rfl,qz];show q _ H Ext.refl rm (WB.mpr rfl)
end
section
set_option tactic.hygienic false
abbrev ow(te to1 ti1 to2 ti2:TEd):TSd:=λD ρ M=>te ρ M λv M1=>∃x y,v=.tup [x,y]/\to1 ρ M1 λo1 M2=>ti1 ρ M2 λi1 M3=>eP o1 i1 x M3 λM4=>to2 ρ M4 λo2 M5=>ti2 ρ M5 λi2 M6=>eP o2 i2 y M6 λM7=>D.nx ρ M7
def xx{te j z to2 B:TEd}(he:ae te)(F:ae j)(G:ae z)(J:ae to2)(L:ae B):aJ (ow te j z to2 B):=λa b ρ M i q=>he _ _ _ _ (λv M1 O=>(by let⟨x,y,e,U⟩:=O;show⟨x,y,e,F _ _ _ _ (λo M2 F3=>G _ _ _ _ (λk M3 Z=>gQ (λM4 q4=>J _ _ _ _ (λo' M5 q5=>L _ _ _ _ (λk' M6 q6=>gQ (λM7 q7=>i.nx _ _ q7) q6) q5) q4) Z) F3) U⟩)) q
section
variable{X:Cx}
def Cu {U F3 Z i2 e:Expr}{te B F to2 G:TEd}{pos p1 p2 pt:Pos}{kt:Nat}(hc:X.calm=WX)(hu:X.A.units+1<NW)(me:ae te)(Je:ae B)(Jf:ae F)(Jg:ae to2)(Jh:ae G)(he:PE X e (lE X.K te))(Ji:PE X U (lE X.K B))(Jj:PE X F3 (lE X.K F))(Jk:PE X Z (lE X.K to2))(Jl:PE X i2 (lE X.K G))(hs:OZ [.Tuple [.Subscript U F3 p1,.Subscript Z i2 p2] kt pt] e pos.line X.env=pure WY)(hw:NP [.Tuple [.Subscript U F3 p1,.Subscript Z i2 p2] kt pt] e X.env=pure Y)(ha:∀v,assign (.Subscript U F3 p1) X.env v=(do
   let ov <-holding [v] (eval U X.env)
   let iv <-holding [v,ov] (eval F3 X.env)
   QC p1
   holding [v,ov,iv] (T7 ov iv v)
   release [v,ov,iv] []))(hb:∀v,assign (.Subscript Z i2 p2) X.env v=(do
   let ov <-holding [v] (eval Z X.env)
   let iv <-holding [v,ov] (eval i2 X.env)
   QC p2
   holding [v,ov,iv] (T7 ov iv v)
   release [v,ov,iv] [])):PS X (.Assign [.Tuple [.Subscript U F3 p1,.Subscript Z i2 p2] kt pt] e pos) (lS X.K (ow te B F to2 G)):=by
 let pset:=PSet.or (oP (X:=X)) (pX hu);calc PS.imp (jP he (vN (n:=2) hc (jc (jO Ji Jj pset ha) (jc (jO Jk Jl pset hb) sk))) hs hw rfl) λD σ H h=>?_;let⟨ρ,M,A,rs,rm,l,q⟩:=h;calc⟨ρ,M,rs,rm,me _ _ _ _ (λv M1 g9 vv H1 x1 z rd1=>?_) q⟩;let⟨x,y,ev,q1⟩:=g9;subst ev;let⟨b,us,rfl,Jm,ru⟩:=WE rd1;let⟨w1,w2,rfl,r1,r2⟩:=ru.two;let Ja:=rs.mono (x1.stab rm);calc⟨b,_,rfl,Jm,rfl,w1,_,rfl,?_⟩;calc⟨ρ,M1,Ja,z,Je _ _ _ _ (λov M2 q2 vo H2 x2 j Jn=>?_) q1⟩;let Jb:=Ja.mono (x2.stab z);calc⟨ρ,M2,Jb,j,Jf _ _ _ _ (λiv M3 q3 vi H3 x3 J Jo=>?_) q2⟩;let Jp:=Jb.mono (x3.stab j);let Jq:=x1.trans (x2.trans x3);calc jo J (Jn.mono (x3.stab j)) Jo ((r1.mono (x2.stab z)).mono (x3.stab j)) q3 λM4 H4 x4 L q4=>?_;let Jc:=Jp.mono (x4.stab J);calc⟨w2,_,rfl,ρ,M4,Jc,L,Jg _ _ _ _ (λJx M5 q5 Jy H5 x5 O Jr=>?_) q4⟩;let Js:=Jc.mono (x5.stab L);calc⟨ρ,M5,Js,O,Jh _ _ _ _ (λJz M6 q6 JA H6 x6 Jt Ju=>?_) q5⟩;let Jd:=Jq.trans (x4.trans (x5.trans x6));let Jv:=((((r2.mono (x2.stab z)).mono (x3.stab j)).mono (x4.stab J)).mono (x5.stab L)).mono (x6.stab O);show jo Jt (Jr.mono (x6.stab O)) Ju Jv q6 λM' H' x7 Jw q7=>⟨rfl,l.nx ρ M' σ H' (Jd.trans x7) (rs.mono ((Jd.trans x7).stab rm)) Jw q7⟩
end
end
end Mi
namespace It
variable{it d:WZ}{i ep:Nat}{ov:gV}
section
variable{prog:LR}{w:Mn}{A:Mq}{E:gV->tv->Prop}{s:tv}
def A0{n:Nat}{k v ok:gV}{Q:gV->tv->Prop}(hi:s.heap.get? it=S (iO .none WY d i n ep ok ov))(q:∀h',h'.get? it=S (iO (RP s.heap.objs.size) WY d i n ep k v)->h'.get? s.heap.objs.size=S {cls:=.type "tuple",data:=.seq #[k,v]}->(∀b o,b≠it->s.heap.get? b=S o->h'.get? b=S o)->Q (.ref s.heap.objs.size) {s with heap:=h'}):LD (model prog w) A (QS (.ref it) 6 k v) Q E s:=by
 unfold QS;refine b3 (RZ ?_ (by size_fits))
 let B:=LB hi;let j:=h7 ({cls:=.type "tuple",data:=.seq [k,v].toArray}) hi;unfold Builtin.Dict_items.ownedTupleIsFree;calc b3 (b3 (MB j rfl (x:=.none) rfl (D2 ?_)));dsimp only;rw[if_pos rfl];calc b3 (MB j rfl (x:=ok) rfl ?_);calc b3 (MB j rfl (x:=ov) rfl ?_);refine b3 (LZ j (_) λh1 e1 s1=>?_)
 refine b3 (LZ e1 (_) λh2 e2 s2=>?_)
 refine b3 (LZ e2 (_) λL G s3=>?_)
 refine b3 (LZ G (_) λF J s4=>?_)
 calc b3 (Pk ?_);let kp:∀b o,b≠it->(s.heap.push {cls:=.type "tuple",data:=.seq [k,v].toArray}).get? b=S o->F.get? b=S o:=λb o z e=>s4.extBut b o z (s3.extBut b o z (s2.extBut b o z (s1.extBut b o z e)));calc D2 (q F J (kp _ _ (OU B) (Lu _ rfl)) λb o z e=>kp b o z (h7 _ e))
def nx_any{cd ok:gV}{dd:Option WZ}{sl:Array (Option gV)}{es:Array NY}{e:NY}{Q:Option gV->tv->Prop}(hi:s.heap.get? it=S (iO .none WY d i es.size ep ok ov))(hd:s.heap.get? d=S {cls:=cd,dict:=dd,data:=.dict es ep,slots:=sl})(he:es[i]?=S e)(q:∀h',h'.get? it=S (iO (RP s.heap.objs.size) WY d (i+1) es.size ep e.key e.val)->h'.get? s.heap.objs.size=S {cls:=.type "tuple",data:=.seq #[e.key,e.val]}->(∀b o,b≠it->s.heap.get? b=S o->h'.get? b=S o)->Q (S (.ref s.heap.objs.size)) {s with heap:=h'}):LD (model prog w) A (OO (.ref it)) Q E s:=by
 let ty:s.TypeIs (.ref it) "dict_itemiterator":=⟨_,hi,rfl⟩;unfold OO;calc b3 (P7 (Mo (name:=MU "__next__") ty slot_next (Mc slot_next ty cU ?_ (dB _))));unfold O7.«dict_itemiterator.__next__»;let hm:=qq
 wp_walk
 dsimp only;rw[if_neg (_)]
 wp_walk
 simp only[LU,he];refine b3 (NH (Q:=λn s'=>n=2/\s'=s) ?_ (λn s' hs=>?_) λ_ _ z=>z)
 ·wp_walk
  show⟨by kernel_rfl,rfl⟩
 let⟨rfl,rfl⟩:=hs;calc b3 (fB ty ?_);refine b3 (LZ hi (_) λh1 e1 s1=>?_)
 calc b3 (Np ?_);let j:Shared.TypeIs {s' with heap:=h1} (.ref it) "dict_itemiterator":=⟨_,e1,rfl⟩
 calc b3 (fB j ?_);rw[if_neg (by decide +kernel)]at e1
 let e1:h1.get? it=S (iO .none WY d (i+1) es.size ep ok ov):=e1;let hsz:h1.objs.size=s'.heap.objs.size:=s1.1;refine Rt (by decide +kernel) ?_
 calc b3 (fB j ?_);refine Rt (by decide +kernel) ?_
 refine A0 (s:={s' with heap:=h1}) e1 λh2 e2 B G=>?_
 calc D2 ⟨_,rfl,D2 ?_⟩;dsimp only at e2 B⊢;rw[hsz]at e2 B⊢;show q h2 e2 B λb o F e=>G b o F (s1.extBut b o F e)
def nt:Slot "dict_itemiterator" "__iter__" "dict_itemiterator.__iter__":=.of (owner:="dict_itemiterator") (n:="__iter__") (by rw[Tu,QV];kernel_rfl) (by decide +kernel) (by decide +kernel) (by decide +kernel) (.inl (by decide +kernel)) (by rw[QP];kernel_rfl)
def uQ:Wk table "dict_itemiterator.__iter__"=S O7.«dict_keyiterator.__iter__»:=entryFor_alias (id':="dict_keyiterator.__iter__") (by kernel_rfl) (by first|rfl|decide +kernel|(unfold String.splitOn;simp +decide [String.splitOnAux])) (by decide +kernel) (by kernel_rfl)
def xz(a:gV):Te "dict_itemiterator.__iter__" ⟨[a],[]⟩:=by unfold Te;kernel_rfl
def it_self{f0 ok:gV}{b:Bool}{n:Nat}{Q:gV->tv->Prop}(hi:s.heap.get? it=S (iO f0 b d i n ep ok ov))(h:Q (.ref it) s):LD (model prog w) A (Sx (.ref it)) Q E s:=by let ty:s.TypeIs (.ref it) "dict_itemiterator":=⟨_,hi,rfl⟩;calc Sw ty nt (Mc nt ty uQ ?_ (xz _));show D2 ⟨_,rfl,"dict_itemiterator",_,ty,slot_next.lookup,h⟩
end
end It
abbrev Itp(n:Nat)(G:Hp->Prop)(yl:Nat->V->V->Hp->Prop):It:=⟨λi H=>i<n/\G H,λi H x H'=>∃p u v,H p=Y/\x=.ref p/\H'=upd H p (.tup [u,v])/\yl i u v H,λi H=>n<=i/\G H⟩
def uR{cx}(a it:WZ){cd:gV}{dd:Option WZ}{sl:Array (Option gV)}{es:Array NY}{ep:Nat}{G:Hp->Prop}{yl:Nat->V->V->Hp->Prop}(O:∀H,G H->∃u,H a=S (.frz {cls:=cd,dict:=dd,data:=.dict es ep,slots:=sl} u))(U:∀i H h,HOk P w H h->G H->∀e,es[i]?=S e->∃u v,RelV u e.key/\RelV v e.val/\yl i u v H):
 gB P w K (.Tuple elts cx pos) (Itp es.size G yl) [it] it (λi h=>i<=es.size/\∃ok ov,h.get? it=S (It.iO .none WY a i es.size ep ok ov)) where
 mem:=by simp
 obj:=λi h st b B=>by
  let e:b=it:=by simpa using B
  subst e;let⟨_,ok,ov,e⟩:=st;show⟨_,e,λv z=>by cases z⟩
 keep:=λi h h' st k=>by let⟨h1,ok,ov,e⟩:=st;show⟨h1,ok,ov,k it (_) _ e⟩
 item:=by
  intro X F hw J j i pins s σ H E I hf st q;subst F hw J;let⟨hi,q⟩:=q;let⟨_,ok,ov,st⟩:=st;let⟨u',L⟩:=O H q;let⟨u,v,ru,rv,yx⟩:=U i H s.heap I.hok q es[i] (Mm hi);calc It.nx_any (e:=es[i]) st (I.hok a _ L).1 (Mm hi) λh1 e1 F3 Z=>⟨_,rfl,?_⟩;refine wpAny_letOwnedTupleGo_items (s:={s with heap:=h1}) e1 λh2 e2 s2=>?_
  let lt:∀{c o},s.heap.get? c=S o->c≠s.heap.objs.size:=λe=>Mh (LB e);let nz:s.heap.objs.size≠it:=(lt st).symm;let up:∀c o,c≠it->h1.get? c=S o->h2.get? c=S o:=λc o n e=>s2.extBut _ _ n e;let IL:Inv X pins σ (upd H s.heap.objs.size (.tup [u,v])) {s with heap:=s.heap.push {cls:=.type "tuple",data:=.seq #[es[i].key,es[i].val]}}:=I.laid (t':=s.toks) (λb o e=>h7 _ e) (Lz _) ⟨by rw[hH];simp,[es[i].key,es[i].val],.cons ru (.cons rv .nil),QX _ _⟩
  let un:∀c∈[it],upd H s.heap.objs.size (.tup [u,v]) c=Y:=λc j=>by
   let e:c=it:=by simpa using j
   rw[e,av nz.symm];show(hf it (_)).1
  let kk:∀c o,c∉[it]->(s.heap.push {cls:=.type "tuple",data:=.seq #[es[i].key,es[i].val]}).get? c=S o->h2.get? c=S o:=λc o j e=>by
   simp only[Lw,LW,or_false]at j
   rcases Rl e with⟨rfl,rfl⟩|e
   ·show up _ _ nz F3
   ·show up _ _ j (Z c o j e)
  let I2:Inv X pins σ (upd H s.heap.objs.size (.tup [u,v])) {s with heap:=h2}:=Inv.turnedL (s:={s with heap:=s.heap.push {cls:=.type "tuple",data:=.seq #[es[i].key,es[i].val]}}) (h':=h2) (t':=s.toks) (fp:=[it]) IL (λc j=>⟨un c j,(hf c j).2⟩) kk
  show⟨.ref s.heap.objs.size,_,I2,rfl,⟨_,u,v,I.hok.fresh (Lz _),rfl,rfl,yx⟩,⟨hi,_,_,e2⟩,un⟩
 done:=by
  intro X F hw J j i pins s σ H E I hf st q;subst F hw J;let⟨hi,q⟩:=q;let⟨h0,ok,ov,st⟩:=st;let⟨u,L⟩:=O H q;let⟨f0,f1,f2,f3,f4,f5⟩:=hf it (_)
  let e:i=es.size:=∅
  subst e;show It.nx_end (I.ok.hd j) st (I.hok a _ L).1 λh' k=>⟨rfl,I.turned (t':=s.toks) (λb o B e=>k b o B e) f0 f1 f3 f4 f5⟩
 self:=λA i s Q E st h=>by let⟨_,ok,ov,e⟩:=st;show It.it_self e h
namespace Mi
end Mi
namespace Mi
end Mi
namespace Mi
open L2.Srt
end Mi
namespace Mi
end Mi
namespace Mi
end Mi
namespace Mi
section
mutual
noncomputable def GV(K:Frag):D->gV->Prop
 |.int i,v=>∃t,v=.int i t
 |.str x,v=>∃t,v=.str x t
 |.tup ds,v=>∃a o its n,v=.ref a/\K.lookup a=S o/\o.cls=.type "tuple"/\o.data=.seq its n/\its.size<=Ls/\fk ds=WY/\GVs K ds its.toList
 |_,_=>False
noncomputable def GVs(K:Frag):List D->List gV->Prop
 |[],us=>us=[]
 |d::ds,us=>∃u r,us=u::r/\GV K d u/\GVs K ds r
end
end
variable{to ti:TEd}{pos:Pos}
section
abbrev kd1:Int ⊕ List Int->D
 |.inl i=>.int i
 |.inr ks=>.tup (ks.map .int)
abbrev kdN(k:NK):D:=.tup (k.map kd1)
abbrev lF:Int ⊕ List Int->Bool
 |.inl _=>WX
 |.inr ks=>fk (ks.map .int)
abbrev okK(k:NK):Bool:=fk (k.map kd1)&&k.all lF
abbrev ng(kvs:List (NK×D))(k:NK):Option D:=(kvs.find? λp=>decide (p.1=k)).map (·.2)
abbrev np(kvs:List (NK×D))(k:NK)(v:D):List (NK×D):=if(ng kvs k).isSome then kvs.map (λp=>if p.1=k then(p.1,v)else p)else kvs++[(k,v)]
abbrev kJ:TEd:=λ_ M Q=>∀p,M p=Y->Q (.ref p) (ad M p (.dcn []))
abbrev uS:R2d:=λx y M Q=>∃a kvs k,y=.ref a/\M a=S (.dcn kvs)/\x=kdN k/\okK k=WX/\Q (.bl (ng kvs k).isSome) M
abbrev uT:R2d:=λx y M Q=>∃a kvs k d,x=.ref a/\M a=S (.dcn kvs)/\y=kdN k/\okK k=WX/\ng kvs k=S d/\Q d M
abbrev FP(o i v:D)(M:Mem)(Q:Mem->Prop):Prop:=∃a kvs k,o=.ref a/\M a=S (.dcn kvs)/\i=kdN k/\okK k=WX/\kvs.length<Ls/\Q (ad M a (.dcn (np kvs k v)))
abbrev ox(te to ti:TEd):TSd:=λD ρ M=>te ρ M λv M1=>to ρ M1 λo M2=>ti ρ M2 λi M3=>FP o i v M3 λM'=>D.nx ρ M'
def uU:ae kJ:=λ_ _ _ _ i q p n=>i _ _ (q p n)
def A1:aE uS:=λ_ _ _ _ _ h j=>(by let⟨a,kvs,k,e1,e2,z,B,q⟩:=j;show⟨a,kvs,k,e1,e2,z,B,h _ _ q⟩)
def qA:aE uT:=λ_ _ _ _ _ h j=>(by let⟨a,kvs,k,d,e1,e2,z,B,F,q⟩:=j;show⟨a,kvs,k,d,e1,e2,z,B,F,h _ _ q⟩)
def xA{te:TEd}(he:ae te)(ho:ae to)(hi:ae ti):aJ (ox te to ti):=λa b ρ M i q=>he _ _ _ _ (λv L j=>ho _ _ _ _ (λo M2 z=>hi _ _ _ _ (λk O B=>(by let⟨a,kvs,k,e1,e2,F,G,J,q⟩:=B;show⟨a,kvs,k,e1,e2,F,G,J,i.nx _ _ q⟩)) z) j) q
section
variable{K:Frag}{M:Mem}{H:Hp}
def qB:∀{k:NK} {vs:List V},k.all lF=WX->RDs K H (k.map kd1) vs->N6 (Kt1 H) k vs
 |[],vs,_,r=>by rw[RDs.nil_iff.mp r];show .nil
 |x::k,vs,ok,r=>by
  let⟨v,vr,rfl,h1,h2⟩:=WC.mp r;rw[NR,D0]at ok;refine .cons ?_ (qB ok.2 h2)
  cases x with
  |inl i=>show Wz.mp h1
  |inr ks=>
   let⟨b,us,rfl,j,ru⟩:=WQ ok.1 h1;calc⟨b,rfl,?_⟩;let e:us=ks.map V.int:=by
    let:∀{ks:List Int} {us:List V},RDs K H (ks.map D.int) us->us=ks.map V.int:=by
     intro ks
     induction ks with
     |nil=>intro us r;show RDs.nil_iff.mp r
     |cons k ks ih=>intro us r;let⟨v,vr,rfl,h1,h2⟩:=WC.mp r;rw[Wz.mp h1,ih h2];rfl
    show this ru
   rw[<-e];show j
def oz{k:NK}{v:V}(ok:okK k=WX)(r:RD K H (kdN k) v):∃b,v=.ref b/\Kt H k b:=by let⟨j,q⟩:=Q3.mp ok;let⟨b,us,rfl,z,ru⟩:=WQ j r;show⟨b,rfl,us,z,qB q ru⟩
noncomputable abbrev PN(K:Frag)(H:Hp):=N6 (λ(p:NK×D) (q:NK×WZ×gV)=>p.1=q.1/\Kt H q.1 q.2.1/\∃v,RelV v q.2.2/\RD K H p.2 v)
def fC:∀{kvs:List (NK×D)} {xs:List (NK×WZ×gV)},PN K H kvs xs->∀x∈xs,Kt H x.1 x.2.1
 |_,_,.nil,_,h=>by cases h
 |_,_,.cons r t,x,h=>by
  rcases Lw.mp h with rfl|h
  ·show r.2.1
  ·show fC t x h
def iG{k:NK}:∀{kvs:List (NK×D)} {xs:List (NK×WZ×gV)},PN K H kvs xs->(ng kvs k=Y/\Qh xs k=Y)∨∃d p v,ng kvs k=S d/\Qh xs k=S p/\RelV v p.2/\RD K H d v
 |_,_,.nil=>.inl ⟨rfl,rfl⟩
 |_,_,.cons (a:=p) (b:=q) r t=>by
  let⟨e,_,v,rv,rd⟩:=r
  by_cases h:p.1=k
  ·show .inr ⟨p.2,q.2,v,by simp[ng,h],by simp[Qh,<-e,h],rv,rd⟩
  ·let h2:¬q.1=k:=λz=>h (e.trans z)
   rcases iG (k:=k) t with⟨a,b⟩|⟨d,p',v',a,b,c⟩
   ·show .inl ⟨by simpa[ng,h]using a,by simpa[Qh,h2]using b⟩
   ·show .inr ⟨d,p',v',by simpa[ng,h]using a,by simpa[Qh,h2]using b,c⟩
def xB{k:NK}{d:D}{v:V}{u:gV}{b:WZ}(kb:Kt H k b)(rv:RelV v u)(rd:RD K H d v){kvs:List (NK×D)}{xs:List (NK×WZ×gV)}(r:PN K H kvs xs):PN K H (np kvs k d) (Q7 xs k b u):=by
 let mp:∀{kvs:List (NK×D)} {xs:List (NK×WZ×gV)},PN K H kvs xs->PN K H (kvs.map λp=>if p.1=k then(p.1,d)else p) (xs.map (putAt k u)):=by
  intro kvs xs r
  induction r with
  |nil=>show .nil
  |@cons p q ps qs h t ih=>
   refine .cons ?_ ih
   by_cases e:p.1=k
   ·let e2:q.1=k:=h.1▸e;dsimp only;rw[if_pos e,putAt,if_pos e2];show⟨h.1,h.2.1,v,rv,rd⟩
   ·let e2:¬q.1=k:=λz=>e (h.1.trans z);dsimp only;rw[if_neg e,putAt,if_neg e2];show h
 unfold np Q7
 rcases iG (k:=k) r with⟨e1,e2⟩|⟨d',p,v',e1,e2,_⟩
 ·rw[e1,e2];show r.snoc ⟨rfl,kb,v,rv,rd⟩
 ·rw[e1,e2];show mp r
end
section
variable{X:Cx}
def A2:PE X (.Dict [] [] pos) (lE X.K kJ):=by
 intro pins s σ H Q I h;let⟨ρ,M,rs,rm,q⟩:=h;let j:=I.hok.fresh (Lz s.heap.objs.size);let ob:ObjOk X.prog X.w (upd H s.heap.objs.size (.ext (NDict s.heap.objs.size []))) (s.heap.push {cls:=.type "dict",data:=.dict #[]}) s.heap.objs.size (.ext (NDict s.heap.objs.size [])):=by let z:=I.big;calc⟨⟨NM _,?_,_,#[],0,Lu _ rfl,⟨rfl,rfl,rfl⟩,rfl,rfl,RY⟩,⟨_,Lu _ rfl⟩,NDict.stay⟩;show beq_false_of_ne ∅
 show SM ⟨.ref s.heap.objs.size,_,I.laid (a:=s.heap.objs.size) (o:=.ext (NDict s.heap.objs.size [])) (t':=s.toks) (λ_ _ q=>h7 _ q) (Lz _) ob,rfl,
  q _ (rm.out j) _ _ (Ext.lay j) (rm.lay j ⟨[],aB,.nil⟩) (WA.mpr rfl)⟩
def A3(j:X.A.units+16<NW):OpR X (Mu .In) (l2 X.K uS):=by
 intro pins s σ H y x u v Q I ry rx h;let⟨dk,dx,M,rm,rk,rd,a,kvs,k,rfl,e,rfl,ok,q⟩:=h
 cases WA.mp rd
 cases rx
 let⟨b,rfl,kb⟩:=oz ok rk
 cases ry
 let⟨xs,hx,pn⟩:=rm a _ e;calc GL j I hx (fC pn) kb λs' I'=>⟨.bl (Qh xs k).isSome,H,I',rfl,?_⟩;let:(Qh xs k).isSome=(ng kvs k).isSome:=by rcases iG (k:=k) pn with⟨a,b⟩|⟨d,p,v,a,b,_⟩<;>rw[a,b]<;>rfl
 rw[this];show q _ H Ext.refl rm (WB.mpr rfl)
def GP(z:X.A.units+16<NW):IxR X (l2 X.K uT):=by
 intro value slice pins s σ H x y v u Q I rx ry h hs;let⟨dx,dk,M,rm,rd,rk,a,kvs,k,d,rfl,e,rfl,ok,g,q⟩:=h
 cases WA.mp rd
 cases rx
 let⟨b,rfl,kb⟩:=oz ok rk
 cases ry
 let⟨xs,hx,pn⟩:=rm a _ e
 rcases iG (k:=k) pn with⟨a1,j⟩|⟨d',p,v,a1,j,rv,rd'⟩
 ·rw[g]at a1;cases a1
 rw[g]at a1;cases a1;show Wc (pC I hx) PySem.F.slot_dict_getitem.lookup (wj z I hx (fC pn) kb j λs' I'=>⟨v,H,I',rv,q v H Ext.refl rm rd'⟩) hs
def FQ(j:X.A.units+16<NW):PSet X (λo i v H Q=>∃a b k xs,o=.ref a/\i=.ref b/\H a=S (.ext (NDict a xs))/\(∀x∈xs,Kt H x.1 x.2.1)/\Kt H k b/\xs.length<Ls/\∀u,RelV v u->Q (upd H a (.ext (NDict a (Q7 xs k b u))))):=by
 intro pins s σ H o i v ov iv u Q I ro ri rv h;let⟨a,b,k,xs,rfl,rfl,e,ks,kb,l,q⟩:=h
 cases ro
 cases ri
 show wk j I e ks kb l λs' I'=>⟨_,I',q u rv⟩
def Cv {o i e:Expr}{te:TEd}{tpos:Pos}(hu:X.A.units+16<NW)(me:ae te)(mo:ae to)(mi:ae ti)(he:PE X e (lE X.K te))(ho:PE X o (lE X.K to))(hi:PE X i (lE X.K ti))(hs:OZ [.Subscript o i tpos] e pos.line X.env=pure WY)(hw:NP [.Subscript o i tpos] e X.env=pure Y)(ha:∀v,assign (.Subscript o i tpos) X.env v=(do
   let ov <-holding [v] (eval o X.env)
   let iv <-holding [v,ov] (eval i X.env)
   QC tpos
   holding [v,ov,iv] (T7 ov iv v)
   release [v,ov,iv] [])):PS X (.Assign [.Subscript o i tpos] e pos) (lS X.K (ox te to ti)):=by
 calc PS.imp (jP he (jO ho hi (FQ hu) ha) hs hw rfl) λD σ H h=>?_;let⟨ρ,M,A,rs,rm,l,q⟩:=h;calc⟨ρ,M,rs,rm,me _ _ _ _ (λv M1 q1 vv H1 J j L=>?_) q⟩;calc⟨ρ,M1,rs.mono (J.stab rm),j,mo _ _ _ _ (λov M2 q2 vo H2 O B U=>?_) q1⟩;calc⟨ρ,M2,(rs.mono (J.stab rm)).mono (O.stab j),B,mi _ _ _ _ (λiv M3 q3 vi G x3 z F3=>?_) q2⟩;let F:=J.trans (O.trans x3);let⟨a,kvs,k,rfl,e,rfl,ok,hl,q⟩:=q3
 cases WA.mp U
 let⟨b,rfl,kb⟩:=oz ok F3;let⟨xs,hx,pn⟩:=z a _ e;let rv:=(L.mono (O.stab j)).mono (x3.stab B);refine⟨a,b,k,xs,rfl,rfl,hx,fC pn,kb,by rw[<-OD pn];show hl,λu ru=>?_⟩
 let st:Stab G (upd G a (.ext (NDict a (Q7 xs k b u)))):=z.stabPut e;let x4:Ext M3 G (ad M3 a (.dcn (np kvs k v))) (upd G a (.ext (NDict a (Q7 xs k b u)))):=Ext.put e;let Z:=xB kb ru rv pn;show l.nx ρ _ σ _ (F.trans x4) (rs.mono ((F.trans x4).stab rm)) (z.put (o:=.dcn (np kvs k v)) e ⟨_,aB,WD Z λ_ _ g9=>(by let⟨z1,z2,v,z3,z4⟩:=g9;show⟨z1,z2.keeps st.tup,v,z3,z4.mono st⟩)⟩) q
end
end
section
section
variable{prog:LR}{w:Mn}{A:Mq}{E:gV->tv->Prop}{s:tv}
def qC {id:String}{b:O7}{args:List gV}{kw:List (Str×gV)}{Q:gV->tv->Prop}(B:builtinKind id=Y)(F:plainId id=WX)(G:Wk table id=S b)(J:Te id ⟨args,kw⟩)(z:LD (model prog w) A.in1 (b ⟨args,kw⟩) (fun fin s'=>match fin with
   |.done f=>(match(Except.ok f:Vn)with|.ok (.ret v)=>Q v s'|.ok _=>False|.error e=>E e s')
   |.again c'=>c'.quiet=WX/\Q6 (model prog w) A c' (λr s'=>match r with|.ok (.ret v)=>Q v s'|.ok _=>False|.error e=>E e s') s') E s):LD (model prog w) A (call (.builtin id) args kw) Q E s:=by
 calc W7 (U0 F G ?_);simp only[VB,B]
 cases j:Manifest.signature? id with
 |none=>show D2 z
 |some sig=>
  let q:Bind.checkArgs id sig ⟨args,kw⟩=pure ():=by simpa only[Te,j]using J
  simp only[q];show D2 z
def xC(a b:gV):Te "min" ⟨[a],[("default",b)]⟩:=by unfold Te;kernel_rfl
def A4{I F2:WZ}{fp wr:List WZ}{P:Nat->gV->Prop}{St:Nat->Heap->Prop}{c:Nat}{R:Vn->tv->Prop}{d:gV}(W:Walks prog w A.in1 I fp wr 0 P St)(st:St 0 s.heap)(j:s.heap.get? F2=S (lsO #[] c))(q:∀h' tk,(∀b o,b∉wr->s.heap.get? b=S o->h'.get? b=S o)->R (.ok (.ret d)) {s with heap:=h',toks:=tk}):Q6 (model prog w) A (.builtin "min.loop" ⟨[.ref I,.none,.ref F2],[("default",d)]⟩) R s:=by calc PH R9 ?_;rw[Q4 NZ _];calc b3 (m:=SN (.ref F2)) (Nh j rfl ?_);calc b3 (m:=Ve (OO (.ref I)) _) (QR (W.done s _ _ st λh' tk kk=>?_));calc b3 (NI (D2 ?_));show q h' tk kk
def xD {x d:gV}{Q:gV->tv->Prop}(h:LD (model prog w) A.in1 (Sx x) (fun it s₂=>∃I fp wr n P St lt,it=.ref I/\Walks prog w A.in1 I fp wr n P St/\St 0 s₂.heap/\(∀b∈fp,b<s₂.heap.objs.size)/\zX lt prog w A.in1 P wr s₂.heap.objs.size s₂.heap/\zY lt /\
   (n=0->∀h' tk,(∀b o,b∉wr->s₂.heap.get? b=S o->h'.get? b=S o)->Q d {s₂ with heap:=h',toks:=tk}) /\
   (0<n->∀v h' tk,Lst lt P (n-1) v->(∀b o,b∉wr->s₂.heap.get? b=S o->h'.get? b=S o)->Q v {s₂ with heap:=h',toks:=tk})) E s):
 LD (model prog w) A (call (.builtin "min") [x] [("default",d)]) Q E s:=by
 let nm:(U3 "min"++U3 ".loop":String)="min.loop":=by decide
 calc qC F.kind_min F.plain_min F.entry_min (xC _ _) ?_;calc b3 (m:=RH "min" ["key","default"] 0 ⟨[],[("default",d)]⟩) (Q0 (show RH "min" ["key","default"] 0 ⟨[],[("default",d)]⟩=pure [Y,S d]from rfl) ?_);calc b3 (D2 ?_);calc b3 (NH h (λit s₂ U=>?_) λ_ _ e=>e);let⟨I,fp,wr,n,P,St,lt,rfl,W,st,B,q,O,G,F3⟩:=U;calc b3 (N8 ?_);let J:s₂.heap.objs.size∉fp:=λhm=>Nb _ (B _ hm);rw[nm]
 rcases Nat.eq_zero_or_pos n with z|z
 ·subst z;calc D2 ⟨Ql NZ _,A4 W (W.frame _ _ _ st λb _ o e=>h7 _ e) (Lu _ rfl) λh' tk L=>?_⟩;show G rfl h' tk λb o j e=>L b o j (h7 _ e)
 ·calc D2 ⟨Ql NZ _,xo W J q O z (W.frame _ _ _ st λb _ o e=>h7 _ e) (Lu _ rfl) (λb o _ _ e=>h7 _ e) λv h' tk Z L=>?_⟩;show F3 z v h' tk Z λb o j e=>L b o j (Mh (LB e)) (h7 _ e)
end
section
variable{X:Cx}
abbrev oA(ta:TEd):TEd:=λρ M Q=>ta ρ M λx M1=>∃(a:WZ) (nss:List (List Int)),x=.ref a/\M1 a=S (.lst (nss.map λns=>.tup (ns.map .int)))/\(nss=[]->Q .non M1)/\∀ns∈nss,(∀ms∈nss,HT.lexLt ms ns=WY)->Q (.tup (ns.map .int)) M1
def xE{ta:TEd}(m:ae ta):ae (oA ta):=λρ M Q Q' h q=>m _ _ _ _ (λx J j=>(by let⟨a,nss,e,e1,B,F⟩:=j;show⟨a,nss,e,e1,λz=>h _ _ (B z),λi hi G=>h _ _ (F i hi G)⟩)) q
def Cw{e:Expr}{ta:TEd}{p kp np:Pos}{j:Nat}(hu:X.A.units+16<NW)(hc:X.calm=WX)(m:ae ta)(ha:PA X [e] (lA X.K (au ta aY)))(hg:Gl X "min")(hm:X.mg "min"=Y)(he:Po pos (LV [e] X.env)=(WY,eval e X.env)::Po pos (LV [] X.env))(Ja:(Po pos (LV [e] X.env)).any (·.1)=WY):
 PE X (.Call (.Name "min" p) [e] [⟨S "default",.Constant .none j np,kp⟩] pos) (lE X.K (oA ta)):=by
 intro pins s σ H Q I h;let⟨ρ,M,rs,rm,h⟩:=h;refine Pp (dv I hg hm (u:=.builtin "min") (by decide +kernel) ?_ (·) (·))
 refine PyProof.Rows.callWith_kw (thn (ha pos pins s σ H (λvs H1=>∃G v a nss,vs=[v]/\Ext M H G H1/\RM X.K G H1/\v=.ref a/\G a=S (.lst (nss.map λns=>.tup (ns.map .int)))/\(nss=[]->KE' X.K M H Q .non G)/\∀ns∈nss,(∀ms∈nss,HT.lexLt ms ns=WY)->KE' X.K M H Q (.tup (ns.map .int)) G) I ⟨ρ,M,rs,rm,m _ _ _ _ (λx G ⟨a,nss,e,e1,q0,q1⟩ vs H1 F3 z rds=>?qa) h⟩) λus s1 ⟨vs,H1,Z,r1,G,v,a,nss,ev,F3,z,ex,ea,q0,q⟩=>?qb) he Ja rfl rfl
 case qa=>let⟨v,rfl,rv⟩:=rds.one;subst e;show⟨G,v,a,nss,rfl,F3,z,WA.mp rv,e1,q0,q1⟩
 subst ev ex;calc kws_cons (Constant_none (kws_nil ?_));let⟨u,rfl,ru⟩:=cO r1
 cases(show u=Ms a from ru)
 change LD _ _ (call (.builtin "min") [.ref a] [("default",.none)]) _ _ _;let⟨vs,ha,rvs⟩:=z _ _ ea;let⟨its,r1,p1,hz⟩:=Z.list (SqL.of ha);let hl:=r1.length;let Jb:=rvs.length;rw[s9]at Jb;let hL:s1.heap.IsList a its.toArray:=p1.isList;let lt:=LB hL.choose_spec.1;let hn:X.A.in1.handled=Y:=I.ok.hd hc;let B:∀(i:Nat) (v:gV),its.toArray[i]?=S v->∃(ns:List Int) (t:WZ) (ws:List gV),nss[i]?=S ns/\RD X.K H1 (.tup (ns.map .int)) (.ref t)/\v=.ref t/\VJ s1.heap t ws.toArray/\Qq ws.toArray.toList ns:=λi v e=>by
  let e':its[i]?=S v:=by simpa using e
  let hi:i<its.length:=(J4.mp e').1;let L:i<nss.length:=∅
  let⟨x,hx,rx⟩:=rvs.get (i:=i) (d:=.tup (nss[i].map .int)) (by rw[Ly,D1 L];rfl)
  let⟨y,hy,ry⟩:=r1.get hx;rw[e']at hy;cases hy;let⟨t,ts,rfl,ht,rts⟩:=WE rx;rw[rts.ints_eq]at ht;let⟨ws,r2,p2,_⟩:=Z.tuple ht;show⟨nss[i],t,ws,D1 L,rx,ry,p2,u6 r2⟩
 calc xD (Oq hL ?_);refine⟨_,[_,a],[_],_,_,_,λi j=>HT.lexLt (nss.getD i []) (nss.getD j []),rfl,Walks.list (A:=X.A.in1) hn _ a (Mh lt) its.toArray,⟨⟨_,Lu _ rfl,rfl,rfl⟩,hL.push _⟩,λd hd=>?_,λs' x y i j Q' E' O hx hy J=>?_,⟨λa b c=>xr,λa=>xq⟩,λh0 h' tk O=>?_,λh0 v h' tk hP O=>?_⟩
 ·rw[Ny]
  rcases Lw.mp hd with rfl|hd
  ·show Vx _
  ·rcases Lw.mp hd with rfl|hd
   ·show V1 lt
   ·cases hd
 ·let⟨n1,t1,w1,f1,_,rfl,p1,i1⟩:=B i x hx;let⟨n2,t2,w2,f2,_,rfl,p2,i2⟩:=B j y hy;dsimp only at J;rw[MQ,MQ,f1,f2]at J;let up:∀{t:WZ} {o:Obj},s1.heap.get? t=S o->s'.heap.get? t=S o:=fun {t o} e=>by
   let F:=LB e;refine O t o (λhm=>?_) ?_ (h7 _ e)
   ·simp only[Lw,LW,or_false]at hm;rw[hm]at F;show Nb _ F
   ·intro hm;rw[hm,Ny]at F;show absurd F ∅
  let⟨o1,g1,h1⟩:=p1;let⟨o2,g2,h2⟩:=p2;show HT.lt_tupInts ⟨o1,up g1,h1⟩ ⟨o2,up g2,h2⟩ i1 i2 (by change X.A.units+1<NW;lia) J
 ·let h0:its.length=0:=by simpa using h0
  refine⟨.non,H1,Z.kept (λb o e=>O b o (λhm=>?_) (h7 _ e)),rfl,q0 (Mp.mp ∅) _ H1 F3 z (WH.mpr rfl)⟩
  rcases Lw.mp hm with e1|hm
  ·show absurd (e1▸LB e) (Nb _)
  ·cases hm
 ·let⟨i,hP,hle⟩:=hP;let⟨ns,t,ws,hm,rx,rfl,_,_⟩:=B i v hP;let hle:∀ms∈nss,HT.lexLt ms ns=WY:=fun ms Jc=>by
   let⟨k,U⟩:=Ol Jc;let Jd:=(J4.mp U).1;let:=hle k (by simp;lia)
   dsimp only at this;rw[MQ,MQ,U,hm]at this;show this
  refine⟨.ref t,H1,Z.kept (λb o e=>O b o (λhm=>?_) (h7 _ e)),rfl,q ns (LJ hm) hle _ H1 F3 z rx⟩
  rcases Lw.mp hm with e1|hm
  ·show absurd (e1▸LB e) (Nb _)
  ·cases hm
abbrev oB(to ti:TEd):TSd:=λD ρ M=>to ρ M λx M1=>ti ρ M1 λi M2=>∃(a:WZ) (ds:List _) (n:Nat),x=.ref a/\M2 a=S (.lst ds)/\i=.int (n:Nat)/\n<ds.length/\n<2^62/\D.nx ρ (ad M2 a (.lst (ds.eraseIdx n)))
def xF(h1:ae to)(h2:ae ti):aJ (oB to ti):=λa b ρ M i q=>h1 _ _ _ _ (λx J j=>h2 _ _ _ _ (λk M2 z=>(by let⟨a,ds,n,e,e1,e2,B,F,G⟩:=z;show⟨a,ds,n,e,e1,e2,B,F,i.nx _ _ G⟩)) j) q
def Cy{o i:Expr}{tpos:Pos}(mo:ae to)(mi:ae ti)(ho:PE X o (lE X.K to))(hi:PE X i (lE X.K ti)):PS X (.Delete [.Subscript o i tpos] pos) (lS X.K (oB to ti)):=by
 intro pins s σ H D I h;let⟨ρ,M,A,rs,rm,l,q⟩:=h;calc wpAny_Delete (wpAny_deleteEach_cons (wpAny_delete_Subscript (thn (ho pins s σ H (λv H1=>∃B x,Ext M H B H1/\RM X.K B H1/\RD X.K H1 x v/\ti ρ B λi M2=>∃(a:WZ) (ds:List _) (n:Nat),x=.ref a/\M2 a=S (.lst ds)/\i=.int (n:Nat)/\n<ds.length/\n<2^62/\A.nx ρ (ad M2 a (.lst (ds.eraseIdx n)))) I ⟨ρ,M,rs,rm,mo _ _ _ _ (λx B U v H1 O F G=>⟨B,x,O,F,G,U⟩) q⟩) λu s1 g9=>?_)));let⟨v1,H1,I1,rx,B,x,O,F,G,U⟩:=g9;refine thn (hi pins s1 σ H1 (λv H2=>∃M2 a ds n,Ext B H1 M2 H2/\RM X.K M2 H2/\v=.int (n:Nat)/\x=.ref a/\M2 a=S (.lst ds)/\n<ds.length/\n<2^62/\A.nx ρ (ad M2 a (.lst (ds.eraseIdx n)))) I1 ⟨ρ,B,rs.mono (O.stab rm),F,mi _ _ _ _ (λi M2 ⟨a,ds,n,e,e1,e2,e3,e4,F3⟩ v H2 Z j Ja=>?qa) U⟩) λiv s2 ⟨y,H2,I2,ry,M2,a,ds,n,Z,j,ey,ex,e1,hn,Jb,F3⟩=>?qb
 case qa=>subst e2;show⟨M2,a,ds,n,Z,j,Wz.mp Ja,e,e1,e3,e4,F3⟩
 subst ey ex
 cases WA.mp G
 cases rx
 let⟨t,rfl⟩:=(show ∃t,iv=QW (n:Nat) t from ry);let⟨vs,ha,rvs⟩:=j _ _ e1;let⟨z,its,m,rv,hl⟩:=(show ObjOk X.prog X.w H2 s2.heap a (.lst vs)from I2.hok a _ ha);let l1:=rvs.length;let l2:=rv.length;let fit:OM (n:Nat)=WX:=by unfold OM;simp only[D0,decide_eq_true_eq];lia
 let hk:seqIndex? (n:Nat) its.toArray.size=S n:=(kY (by unfold ixN;rw[if_pos ∅,if_pos (by simp;lia),LU])).1
 refine wpAny_delItem_plain (hsz:=by simp;lia) (⟨m,hl⟩:s2.heap.PlainList a its.toArray) fit hk λh' pl hs=>wpAny_deleteEach_nil ?_
 let⟨m',J⟩:=pl;let re:Vals (vs.eraseIdx n) (its.eraseIdx n):=by rw[Oe,Oe];show(rv.take n).append (rv.drop (n+1))
 let hL:(its.toArray.eraseIdxIfInBounds n)=(its.eraseIdx n).toArray:=by simp
 rw[hL]at J;let I3:Inv X pins σ (upd H2 a (.lst (vs.eraseIdx n))) {s2 with heap:=h'}:=fj I2 (by rw[ha];show Nx) hs ⟨_,J⟩ ⟨MR (List.length_eraseIdx_le _ _) z,its.eraseIdx n,m',re,J⟩
 let st:Stab H2 (upd H2 a (.lst (vs.eraseIdx n))):=j.stabPut e1;let x3:Ext M2 H2 (ad M2 a (.lst (ds.eraseIdx n))) (upd H2 a (.lst (vs.eraseIdx n))):=Ext.put e1;let L:=O.trans (Z.trans x3);let rde:RDs X.K H2 (ds.eraseIdx n) (vs.eraseIdx n):=by rw[Oe,Oe];show(rvs.take n).append (rvs.drop (n+1))
 show⟨σ,_,I3,l.nx ρ _ σ _ L (rs.mono (L.stab rm)) (j.put (o:=.lst (ds.eraseIdx n)) e1 ⟨_,aB,rde.mono st⟩) F3⟩
end
end
end Mi
section
section
variable{prog:LR}{w:Mn}{A:Mq}{E:gV->tv->Prop}{s:tv}{K:Type}[DecidableEq K]{knd:HeapKind prog w K}
def rL{d:WZ}{xs:List (K×WZ×gV)}{k:K}{z:gV}{Q:gV->tv->Prop}(L:knd.room A)(q:knd.is s.heap k a)(hm:s.heap.DictOfH knd d xs)(hsz:xs.length<=Ls)(h1:∀p,Qh xs k=S p->Q p.2 {s with toks:=s.toks+knd.draws k})(h2:Qh xs k=Y->∀h',h'.DictOfH knd d (Q7 xs k a z)->Nt d s.heap h'->Q z {s with heap:=h',toks:=s.toks+knd.draws k}):
 LD (model prog w) A (U4 d (.ref a) z) Q E s:=by
 let⟨o,es,ep,ho,F3,hd,he,F,J⟩:=hm;unfold U4
 try with_reducible refine Np ?_
 calc b3 (knd.pyHash L q ?_);refine b3 (wpAny_dictFind_heap (s:={s with toks:=s.toks+knd.draws k}) L q ho hd he F J ?_ ?_)
 ·intro B;let G:k∉xs.map (·.1):=not_mem_keys_of_get B;refine b3 (NI (b3 (wpAny_updateDictKeys (hz:=by let e:=size_of_entries he;omega) (s:={s with toks:=s.toks+knd.draws k}) ho hd (D2 (h2 (QT B) _ ⟨_,_,ep+1,ON _ ho (Obj.isFreed_of_dict (U5 hd _)),
   F3.mapDictKeys _,U5 hd _,?_,?_,?_⟩ (Pe ..))))))
  ·rw[VR (QT B)];simp[he,W3]
  ·rw[VR (QT B)];intro x hx
   rcases Lv.mp hx with hx|hx
   ·show knd.keeps (F x hx) ho hd (Pe ..)
   ·simp only[UN]at hx;subst hx;show knd.keeps q ho hd (Pe ..)
  ·rw[VR (QT B)];rw[Mj,PV];refine⟨J,by simp,?_⟩
   intro x hx y O;simp only[LL,Pt,UN]at O;subst O;showλe=>G (e▸hx)
 ·intro j p U;refine b3 (wpAny_dictEntries (s:={s with toks:=s.toks+knd.draws k}) ho hd ?_)
  rw[entry_at he j,U];show b3 (NI (D2 (h1 p (atKey_of_get J U))))
end
section
variable{X:Cx}{pins:List (WZ×Obj)}{σ:St}{H:Hp}{s:tv}{a b:WZ}{A:Mq}{E:gV->tv->Prop}{xs:List (NK×WZ×gV)}{k:NK}
def A5(I:Inv X pins σ H s)(e:H a=S (.ext (NDict a xs))):∀b,Ms a=.ref b->∃ob,s.heap.get? b=S ob/\ob.dict=Y:=λb q=>by
 cases q
 let⟨⟨z,y,o,es,ep,h1,h2,_⟩,_⟩:=(show ObjOk X.prog X.w H s.heap a (.ext (NDict a xs))from I.hok a _ e);show⟨o,h1,h2.2.1⟩
def Ew{z:gV}{Q:gV->tv->Prop}(B:A.units+16<NW)(I:Inv X pins σ H s)(e:H a=S (.ext (NDict a xs)))(ks:∀x∈xs,Kt H x.1 x.2.1)(kb:Kt H k b)(U:xs.length<Ls)(h1:∀p s',Qh xs k=S p->Inv X pins σ H s'->Q p.2 s')(h2:Qh xs k=Y->∀s',Inv X pins σ (upd H a (.ext (NDict a (Q7 xs k b z)))) s'->Q z s'):
 LD (model X.prog X.w) A (call (.builtin "dict.setdefault") [.ref a,.ref b,z]) Q E s:=by
 let⟨hz,hd,dd⟩:=fR I.hok e ks;calc Mc Rw dd.typeIs PySem.F.entry_dict_setdefault ?_ (PySem.F.args_dict_setdefault_3 _ _ _);unfold O7.«dict.setdefault»;calc b3 ?_;unfold Builtin.Dict.keyAndDefault;calc b3 (wpAny_notOrdered_dict dd.typeIs ?_);change LD _ _ (pure (a,Ms b,S z)) _ _ s;calc D2 ?_;change LD _ _ (if(a==Nr)=WX then _ else(U4 a (.ref b) z>>=_)) _ _ s
 rw[if_neg (by rw[hd];show Lq)]
 calc b3 (rL (knd:=jf X.prog X.w) (nS B) (fq I.hok kb) dd hz (λp G=>D2 ⟨_,rfl,h1 p _ G (I.tok _)⟩) λJ h' dd' hs=>D2 ⟨_,rfl,h2 J _ ?_⟩);let⟨q,es,ep,j,g2,g3,L,_,O⟩:=dd';refine fj I (by rw[e];show Nx) hs ⟨q,j⟩ ⟨⟨?_,hd,q,es,ep,j,g2,g3,L,O⟩,⟨q,j⟩,NDict.stay⟩
 let:=j5 xs k b z;lia
def Inv.freezeN(I:Inv X pins σ H s)(e:H a=S (.ext (NDict a xs))):∃o,Inv X pins σ (upd H a (.frz o (.ext (NDict a xs)))) s:=by
 let⟨⟨z,y,o,es,ep,h1,h2⟩,j⟩:=id (show ObjOk X.prog X.w H s.heap a (.ext (NDict a xs))from I.hok a _ e);let mu:Mut (H a):=by rw[e];show Nx
 let u:Un X.fs [] H (upd H a (.frz o (.ext (NDict a xs)))) s.heap s.heap:=Un.write mu (.inl rfl) (λb u _ q=>q) ⟨_,h1⟩;let ok:HOk X.prog X.w (upd H a (.frz o (.ext (NDict a xs)))) s.heap:=HOk.write I.hok mu (.inl rfl) (λb u _ q=>q) ⟨_,h1⟩
  ⟨h1,(I.hok a _ e).stay (λb u _ q=>q) (λb q=>by rw[av (λz=>by subst z;rw[e]at q;cases q)];show q) (λb xs q=>by rw[av (λz=>by subst z;rw[e]at q;cases q)];show q)⟩
 show⟨o,I.un (t':=s.toks) u ok⟩
end
namespace Mi
variable{b:WZ}{ta:TEd}
section
variable{K:Frag}{M:Mem}{H:Hp}
def xG:∀{k:NK} {vs:List V},N6 (Kt1 H) k vs->RDs K H (k.map kd1) vs
 |[],_,p=>by cases p;show RDs.nil
 |x::k,_,p=>by
  cases p with
  |cons j p2=>
   refine RDs.cons ?_ (xG p2)
   cases x with
   |inl i=>show Wz.mpr j
   |inr ks=>let⟨b,rfl,e⟩:=j;show WJ ⟨b,_,rfl,e,WR ks⟩
def FR{k:NK}(h:Kt H k b):RD K H (kdN k) (.ref b):=by let⟨vs,e,p⟩:=h;show WJ ⟨b,vs,rfl,e,xG p⟩
def xH:∀{kvs:List (NK×D)} {xs:List (NK×WZ×gV)},PN K H kvs xs->∀(i:Nat) x,xs[i]?=S x->∃(kv:NK×D) (v:V),kvs[i]?=S kv/\RD K H (kdN kv.1) (.ref x.2.1)/\RelV v x.2.2/\RD K H kv.2 v
 |_,_,.nil,_,_,h=>by simp at h
 |_,_,.cons (a:=kv) r t,0,_,h=>by simp at h;subst h;let⟨e,kt,v,rv,rd⟩:=r;show⟨kv,v,rfl,by rw[e];show FR kt,rv,rd⟩
 |_,_,.cons _ t,i+1,x,h=>by
  let⟨kv,v,h1,h2⟩:=xH t i x (by simpa using h)
  show⟨kv,v,by simpa using h1,h2⟩
abbrev kvN(kv:NK×D):D:=.tup [kdN kv.1,kv.2]
abbrev oC(to tk tx:TEd):TEd:=λρ M Q=>to ρ M λx M1=>∃a kvs,x=.ref a/\M1 a=S (.dcn kvs)/\tk ρ M1 λk M2=>tx ρ M2 λz M3=>∃kvs' q,M3 a=S (.dcn kvs')/\k=kdN q/\okK q=WX/\kvs'.length<Ls /\
 (∀d,ng kvs' q=S d->Q d M3)/\(ng kvs' q=Y->Q z (ad M3 a (.dcn (np kvs' q z))))
def xI{to tk tx:TEd}(mo:ae to)(mk:ae tk)(mx:ae tx):ae (oC to tk tx):=λρ M Q Q' h q=>mo _ _ _ _ (λx Z j=>(by let⟨a,kvs,e,e1,B⟩:=j;show⟨a,kvs,e,e1,mk _ _ _ _ (λk M2 F=>mx _ _ _ _ (λz M3 j=>(by let⟨kvs',q,e2,G,J,L,O,U⟩:=j;show⟨kvs',q,e2,G,J,L,λd hd=>h _ _ (O d hd),λF3=>h _ _ (U F3)⟩)) F) B⟩)) q
abbrev oD(i:Nat)(t:TSd):TSd:=λA ρ M=>∃a kvs,ρ[i]?=S (S (.ref a))/\M a=S (.dcn kvs)/\t A ρ (ad M a (.fdn kvs))
def xJ{i:Nat}{t:TSd}(h:aJ t):aJ (oD i t):=λa b ρ M l g9=>(by let⟨p,kvs,e,m,q⟩:=g9;show⟨p,kvs,e,m,h _ _ _ _ l q⟩)
abbrev iH(ta:TEd):TId:=λρ M R=>ta ρ M λx M1=>∃a kvs,x=.ref a/\M1 a=S (.fdn kvs)/\R (kvs.map kvN) (λ_=>True) M1
def rM(h:ae ta):ck (iH ta):=λρ M Q Q' i q=>h _ _ _ _ (λx B j=>(by let⟨a,ds,e,e1,z⟩:=j;show⟨a,ds,e,e1,i _ _ _ z⟩)) q
end
variable{e:Expr}
section
variable{X:Cx}
def Cz{o f:Expr}{to tk tx:TEd}{apos cpos:Pos}(hu:X.A.units+16<NW)(mo:ae to)(mk:ae tk)(mx:ae tx)(ho:PE X o (lE X.K to))(he:PE X e (lE X.K tk))(hf:PE X f (lE X.K tx))(m:M2 X o "setdefault" apos e f cpos):
 PE X (.Call (.Attribute o "setdefault" apos) [e,f] [] cpos) (lE X.K (oC to tk tx)):=by
 intro pins s σ H Q I h;let⟨ρ,M,rs,rm,q⟩:=h;let hq:lE X.K to σ H (λv H1=>∃O a kvs,Ext M H O H1/\RM X.K O H1/\v=.ref a/\O a=S (.dcn kvs)/\tk ρ O λk M2=>tx ρ M2 λz j=>∃kvs' q,j a=S (.dcn kvs')/\k=kdN q/\okK q=WX/\kvs'.length<Ls/\(∀d,ng kvs' q=S d->KE' X.K M H Q d j)/\(ng kvs' q=Y->KE' X.K M H Q z (ad j a (.dcn (np kvs' q z))))):=
  ⟨ρ,M,rs,rm,mo _ _ _ _ (fun x O ⟨a,kvs,e,e1,q1⟩ v H1 x1 G Jd=>by subst e;show⟨O,a,kvs,x1,G,WA.mp Jd,e1,q1⟩) q⟩
 calc wpAny_Call_method m.base m.few m.line PySem.F.plainAttrs_dict Rw PySem.F.type_dict_setdefault (thn (ho pins s σ H _ I hq) λu s1 U=>?_);let⟨x,H1,I1,rx,O,a,kvs,x1,G,ex,e1,q1⟩:=U;subst ex;obtain rfl:u=Ms a:=rx;let⟨xs,hx,pn⟩:=G a _ e1;calc⟨pC I1 hx,A5 I1 hx,?_⟩;rw[m.trees];let Jb:=rs.mono (x1.stab rm);let Je:lE X.K tk σ H1 (λv H2=>∃M2 k,Ext O H1 M2 H2/\RM X.K M2 H2/\RD X.K H2 k v/\tx ρ M2 λz j=>∃kvs' q,j a=S (.dcn kvs')/\k=kdN q/\okK q=WX/\kvs'.length<Ls/\(∀d,ng kvs' q=S d->KE' X.K M H Q d j)/\(ng kvs' q=Y->KE' X.K M H Q z (ad j a (.dcn (np kvs' q z))))):=⟨ρ,O,Jb,G,mk _ _ _ _ (λk M2 q2 v H2 x2 F3 Ja=>⟨M2,k,x2,F3,Ja,q2⟩) q1⟩
 calc QJ rfl (TN (RQ (thn (he pins s1 σ H1 _ I1 Je) λiv s2 U=>?_)));let⟨y,H2,I2,ry,M2,k,x2,F3,Ja,q2⟩:=U;let Jf:=Jb.mono (x2.stab G);let Jg:lE X.K tx σ H2 (λv J=>∃j z kvs' q,Ext M2 H2 j J/\RM X.K j J/\RD X.K J z v/\j a=S (.dcn kvs')/\k=kdN q/\okK q=WX/\kvs'.length<Ls/\(∀d,ng kvs' q=S d->KE' X.K M H Q d j)/\(ng kvs' q=Y->KE' X.K M H Q z (ad j a (.dcn (np kvs' q z))))):=⟨ρ,M2,Jf,F3,mx _ _ _ _ (λz j U v J x3 B Z=>(by let⟨kvs',q,h1,h2,h3,h4,h5,h6⟩:=U;show⟨j,z,kvs',q,x3,B,Z,h1,h2,h3,h4,h5,h6⟩)) q2⟩
 calc RQ (thn (hf pins s2 σ H2 _ I2 Jg) λfv s3 U=>?_);let⟨z,J,I3,rz,j,zd,kvs',kq,x3,B,Z,e3,ek,ok,hl,q3,q4⟩:=U;calc UT ?_;subst ek;let⟨b,rfl,kb⟩:=oz ok (Ja.mono (x3.stab F3))
 cases ry
 let⟨ys,hy,L⟩:=B a _ e3;let Jc:=x1.trans (x2.trans x3);refine Ew hu I3 hy (fC L) kb (by rw[<-OD L];show hl) (λp s4 hp I4=>?_) λhn s4 I4=>?_
 ·rcases iG (k:=kq) L with⟨a1,b1⟩|⟨d,p',v,a1,b1,rv,rd⟩
  ·rw[hp]at b1;cases b1
  ·rw[hp]at b1;cases b1;show⟨v,J,I4,rv,q3 d a1 v J Jc B rd⟩
 ·rcases iG (k:=kq) L with⟨a1,b1⟩|⟨d,p',v,a1,b1,rv,rd⟩
  ·let st:Stab J (upd J a (.ext (NDict a (Q7 ys kq b fv)))):=B.stabPut e3;let x4:Ext j J (ad j a (.dcn (np kvs' kq zd))) (upd J a (.ext (NDict a (Q7 ys kq b fv)))):=Ext.put e3;let Jh:=xB kb rz Z L;refine⟨z,_,I4,rz,q4 a1 z _ (Jc.trans x4) (B.put (o:=.dcn (np kvs' kq zd)) e3 ⟨_,aB,WD Jh λ_ _ U=>(by let⟨z1,z2,v,z3,z4⟩:=U;show⟨z1,z2.keeps st.tup,v,z3,z4.mono st⟩)⟩) (Z.mono st)⟩
  ·rw[hn]at b1;cases b1
def CA{st:Stmt}{i:Nat}{t:TSd}(h:PS X st (lS X.K t)):PS X st (lS X.K (oD i t)):=by intro pins s σ H D I ⟨ρ,M,A,rs,rm,lk,a,kvs,e,m,q⟩;let⟨xs,hx,pn⟩:=rm a _ m;let⟨o,I'⟩:=I.freezeN hx;let sb:Stab H (upd H a (.frz o (.ext (NDict a xs)))):=rm.stabPut m;show h pins s σ _ D I' ⟨ρ,ad M a (.fdn kvs),A,rs.mono sb,rm.put m ⟨o,xs,aB,WD pn λ_ _ j=>(by let⟨z,B,v,F,G⟩:=j;show⟨z,B.keeps sb.tup,v,F,G.mono sb⟩)⟩,lk.ext (Ext.put m),q⟩
def xK{elts:List Expr}{cx}{tpos apos cpos:Pos}(m:ae ta)(he:PE X e (lE X.K ta))(z:Sz e "items" X.env (eval e X.env)=eval e X.env)(B:(apos.endLine==cpos.line)=WX):
 PI X (.Tuple elts cx tpos) (.Call (.Attribute e "items" apos) [] [] cpos) (lI X.K (iH ta)):=by
 intro pins s σ H R I h;let⟨ρ,M,rs,rm,q⟩:=h;let hq:lE X.K ta σ H (λv H1=>∃a kvs L,v=.ref a/\Ext M H L H1/\RM X.K L H1/\L a=S (.fdn kvs)/\∀J,gL X.K H1 (kvs.map kvN) (λ_=>True) J->R J H1):=
  ⟨ρ,M,rs,rm,m _ _ _ _ (fun x L ⟨a,kvs,e,e1,q1⟩ v H1 x1 j rd1=>by
   subst e
   cases WA.mp rd1
   show⟨a,kvs,L,rfl,x1,j,e1,λJ ij=>q1 J H1 x1 j ij⟩) q⟩
 calc wpAny_Call_method0_late z B (thn (he pins s σ H _ I hq) λu s1 g9=>?_);let⟨x,H1,I1,r1,a,kvs,L,e0,x1,j,e1,q1⟩:=g9;subst e0;obtain rfl:u=Ms a:=r1;let⟨o,xs,hp,pn⟩:=j _ _ e1;let⟨O,⟨hz,Ja,o',es,ep,g1,g2,g3,g4,g5⟩,_⟩:=I1.hok a _ hp;rw[O]at g1
 cases g1
 let ty:s1.TypeIs (.ref a) "dict":=⟨o,O,g2.1⟩;let t2:∀b,Ms a=.ref b->∃ob,s1.heap.get? b=S ob/\ob.dict=Y:=λb q=>by cases q;show⟨o,O,g2.2.1⟩
 let⟨cd,dd,dat,sl⟩:=o;dsimp only at g3;subst g3;obtain rfl:cd=.type "dict":=g2.1;let lz:kvs.length=es.size:=by let h1:=OD pn;let h2:=congrArg OE g4;simp at h2;lia
 calc⟨"dict","dict.items",F.plainAttrs_dict,Vd,F.type_dict_items,ty,t2,QJ rfl (PySem.evalArgs_none ?_)⟩;calc xj ty Ja O ?_;let kpv:∀b o,s1.heap.get? b=S o->(s1.heap.push {cls:=MJ "dict_items",data:=So #[Ms a]}).get? b=S o:=λb o e=>h7 _ e;let I2:Inv X pins σ H1 {s1 with heap:=s1.heap.push {cls:=MJ "dict_items",data:=So #[Ms a]}}:=I1.kept (t':=s1.toks) kpv
 refine It.it_view (s:={s1 with heap:=s1.heap.push {cls:=MJ "dict_items",data:=So #[Ms a]}}) (Lu _ rfl) (kpv _ _ O) ?_
 refine⟨_,_,_,_,H1,rfl,I2.kept (t':=s1.toks) λb o e=>h7 _ e,uR (G:=λH=>H a=S (.frz {cls:=.type "dict",dict:=dd,data:=.dict es ep,slots:=sl} (.ext (NDict a xs)))/\PN X.K H kvs xs) (yl:=λi u v H=>∃kv,kvs[i]?=S kv/\RD X.K H (kdN kv.1) u/\RD X.K H kv.2 v) a _ (λH h=>⟨_,h.1⟩) (λi H h hok ⟨ha,pn'⟩ e he=>?_),⟨NM _,_,_,Lu _ rfl⟩,λb hb=>?_,q1 _ ?_⟩
 ·let U:es.toList[i]?=S e:=by simpa using he
  rw[g4,Ly]at U;let⟨x,hx,rfl⟩:=O8.mp U;let⟨kv,v,y1,y2,y3,y4⟩:=xH pn' i x hx;show⟨.ref x.2.1,v,rfl,y3,kv,y1,y2,y4⟩
 ·let e:b=(s1.heap.push {cls:=MJ "dict_items",data:=So #[Ms a]}).objs.size:=by simpa using hb
  subst e;show I2.fpOk (Lz _) (I2.hok.fresh (Lz _))
 ·intro M' H' st rm' _ i;let F3:=st.frz _ _ _ hp;let pn':PN X.K H' kvs xs:=WD pn λ_ _ g9=>(by let⟨z1,z2,v,z3,z4⟩:=g9;show⟨z1,z2.keeps st.tup,v,z3,z4.mono st⟩)
  rw[s9,lz];calc⟨λhi=>⟨hi,F3,pn'⟩,λhi=>⟨⟨hi,F3,pn'⟩,λx H'' y=>?_⟩⟩;let⟨p,u,v,n,e,e2,kv,y1,y2,y3⟩:=y;subst e e2;let Z:Stab H' (upd H' p (.tup [u,v])):=(WK (M:=M') n).stab rm';show⟨.inr ⟨p,[u,v],n,rfl⟩,kvN kv,by rw[Ly,y1];rfl,WJ ⟨p,[u,v],rfl,aB,RDs.cons (y2.mono Z) (RDs.cons (y3.mono Z) RDs.nil)⟩⟩
end
section
inductive BOp where|add|sub|mul|fdiv|mod|pow
inductive COp where|eq|ne|lt|le|gt|ge|is|isn|ninS|inN
inductive BF where|len|abs|min2|int|list|tuple|all|any|sorted|sortk
inductive MF where|append
set_option genCtorIdx false
set_option genInjectivity false
mutual
inductive MG where
 |name (i:Nat)
 |tup (gs:MGs)
inductive MGs where
 |nil
 |cons (g:MG) (r:MGs)
end
mutual
inductive ME where
 |var (i:Nat)
 |int (i:Int)
 |bl (b:Bool)
 |non
 |bin (op:BOp) (a b:ME)
 |neg (a:ME)
 |cmp (op:COp) (a b:ME)
 |and (es:MEs)
 |or (es:MEs)
 |not (a:ME)
 |ite (c:MT) (a b:ME)
 |tup (es:MEs)
 |lst (es:MEs)
 |ix (a b:ME)
 |sl (a:ME) (lo hi:MO)
 |step (a:ME) (lo:MO) (st:ME)
 |call (f:Nat) (es:MEs)
 |blt (f:BF) (es:MEs)
 |isin (a:ME) (T:String)
 |isin2 (a:ME) (T U:String)
 |chain (op op':COp) (a b c:ME)
 |dnew (t:Bool)
 |dnewN
 |ixN (a b:ME)
 |minD (a:ME)
 |sdef (o k x:ME)
 |meth (m:MF) (o a:ME)
 |ins (o i a:ME)
 |comp (fr:List (Option Nat)) (N:List Str) (c:MC)
inductive MEs where
 |nil
 |cons (e:ME) (r:MEs)
inductive MO where
 |none
 |some (e:ME)
inductive MT where
 |tru (e:ME)
 |cmp (op:COp) (a b:ME)
 |chain (op op':COp) (a b c:ME)
 |and (ts:MTs)
 |or (ts:MTs)
 |not (t:MT)
inductive MTs where
 |nil
 |cons (t:MT) (r:MTs)
inductive MI where
 |seq (e:ME)
 |rng1 (a:ME)
 |rng2 (a b:ME)
 |zip (a b:ME)
 |enum (a:ME)
 |itemsN (a:ME)
inductive MC where
 |last (src:MI) (g:MG) (ifs:MTs) (elt:ME)
 |more (src:MI) (g:MG) (ifs:MTs) (rest:MC)
end
mutual
inductive MS where
 |asg (g:MG) (e:ME)
 |par (i j:Nat) (a b:ME)
 |put2 (o i o' i' e:ME)
 |put (o i e:ME)
 |drop (e:ME)
 |ret (e:ME)
 |ite (c:MT) (a b:MSs)
 |for (g:MG) (src:MI) (b:MSs)
 |while (c:MT) (b:MSs)
 |frzN (i:Nat) (s:MS)
 |dell (o i:ME)
 |putN (o i e:ME)
 |bot
 |pass|brk|cnt
inductive MSs where
 |nil
 |cons (s:MS) (r:MSs)
end
set_option genCtorIdx true
set_option genInjectivity true
abbrev opB:BOp->R2d
 |.add=>fT|.sub=>jh|.mul=>gI|.fdiv=>ki|.mod=>pJ|.pow=>pK
abbrev opC:COp->R2d
 |.eq=>wEq|.ne=>wNe|.lt=>wLt|.le=>wLe|.gt=>wGt|.ge=>wGe|.is=>wIs|.isn=>lw| .ninS=>kI|.inN=>uS
abbrev opF:BF->RAd
 |.len=>dI| .abs=>ll| .min2=>kj|.int=>jm|.list=>nT|.tuple=>km| .all=>pZ|.any=>uG|.sorted=>iE| .sortk=>kF
abbrev opM:MF->D->List D->Mem->QD->Prop
 |.append=>im
def qD:∀o,aE (opB o)
 |.add=>zh|.sub=>zi|.mul=>zj|.fdiv=>wp|.mod=>zk|.pow=>zm
def bp:∀o,aE (opC o)
 |.eq=>BJ|.ne=>BK|.lt=>BN|.le=>BO|.gt=>BP|.ge=>BQ|.is=>C9|.isn=>zN| .ninS=>xu|.inN=>A1
def A6:∀o,b8 (opF o)
 |.len=>pO| .abs=>pQ| .min2=>mU|.int=>pR|.list=>mV|.tuple=>kn| .all=>q8|.any=>q9|.sorted=>j9| .sortk=>kG
def A7:∀o,ko (opM o)
 |.append=>j6
noncomputable abbrev Phi:=Nat->RAd
mutual
noncomputable def bG:MG->BT
 |.name i=>b6 i
 |.tup gs=>ur (bGs gs)
noncomputable def bGs:MGs->BTs
 |.nil=>gK
 |.cons g r=>bW (bG g) (bGs r)
end
mutual
noncomputable def wE(Φ:Phi):ME->TEd
 |.var i=>aP i
 |.int i=>wC (.int i)
 |.bl b=>wC (.bl b)
 |.non=>wC .non
 |.bin op a b=>wOp (opB op) (wE Φ a) (wE Φ b)
 |.neg a=>wUn ji (wE Φ a)
 |.cmp op a b=>wOp (opC op) (wE Φ a) (wE Φ b)
 |.and es=>wAnds Φ es
 |.or es=>wOrs Φ es
 |.not a=>nX (wE Φ a)
 |.ite c a b=>wIf (wT Φ c) (wE Φ a) (wE Φ b)
 |.tup es=>wAr pH (wA Φ es)
 |.lst es=>wAr lg (wA Φ es)
 |.ix a b=>wOp wIx (wE Φ a) (wE Φ b)
 |.sl a lo hi=>wSl (wE Φ a) (wO Φ lo) (wO Φ hi)
 |.step a lo st=>ou (wE Φ a) (wO Φ lo) (il (wE Φ st))
 |.call f es=>wAr (Φ f) (wA Φ es)
 |.blt f es=>wAr (opF f) (wA Φ es)
 |.isin a T=>nY T (wE Φ a)
 |.isin2 a T U=>kH T U (wE Φ a)
 |.chain op op' a b c=>dy (opC op) (opC op') (wE Φ a) (wE Φ b) (wE Φ c)
 |.dnew t=>oj t
 |.dnewN=>kJ
 |.ixN a b=>wOp uT (wE Φ a) (wE Φ b)
 |.minD a=>oA (wE Φ a)
 |.sdef o k x=>oC (wE Φ o) (wE Φ k) (wE Φ x)
 |.meth m o a=>wBM (opM m) (wE Φ o) (au (wE Φ a) aY)
 |.ins o i a=>wBM iF (wE Φ o) (au (wE Φ i) (au (wE Φ a) aY))
 |.comp fr _ c=>wCmp Φ fr c
noncomputable def wA(Φ:Phi):MEs->TAd
 |.nil=>aY
 |.cons e r=>au (wE Φ e) (wA Φ r)
noncomputable def wAnds(Φ:Phi):MEs->TEd
 |.nil=>λ_ _ _=>False
 |.cons e .nil=>wE Φ e
 |.cons e (.cons f r)=>nW (wE Φ e) (wAnds Φ (.cons f r))
noncomputable def wOrs(Φ:Phi):MEs->TEd
 |.nil=>λ_ _ _=>False
 |.cons e .nil=>wE Φ e
 |.cons e (.cons f r)=>uo (wE Φ e) (wOrs Φ (.cons f r))
noncomputable def wO(Φ:Phi):MO->TOd
 |.none=>ik
 |.some e=>il (wE Φ e)
noncomputable def wT(Φ:Phi):MT->TTd
 |.tru e=>um (wE Φ e)
 |.cmp op a b=>cv (wOp (opC op) (wE Φ a) (wE Φ b))
 |.chain op op' a b c=>cv (dy (opC op) (opC op') (wE Φ a) (wE Φ b) (wE Φ c))
 |.and ts=>wAndTs Φ ts
 |.or ts=>wOrTs Φ ts
 |.not t=>nU (wT Φ t)
noncomputable def wAndTs(Φ:Phi):MTs->TTd
 |.nil=>λ_ _ _=>False
 |.cons e .nil=>wT Φ e
 |.cons e (.cons f r)=>nV (wT Φ e) (wAndTs Φ (.cons f r))
noncomputable def wOrTs(Φ:Phi):MTs->TTd
 |.nil=>λ_ _ _=>False
 |.cons e .nil=>wT Φ e
 |.cons e (.cons f r)=>pT (wT Φ e) (wOrTs Φ (.cons f r))
noncomputable def wTl(Φ:Phi):MTs->List TTd
 |.nil=>[]
 |.cons t r=>wT Φ t::wTl Φ r
noncomputable def wI(Φ:Phi):MI->TId
 |.seq e=>uu (wE Φ e)
 |.rng1 a=>nZ (au (wE Φ a) aY)
 |.rng2 a b=>oa (au (wE Φ a) (au (wE Φ b) aY))
 |.zip a b=>ln (wE Φ a) (wE Φ b)
 |.enum a=>og (wE Φ a)
 |.itemsN a=>iH (wE Φ a)
noncomputable def wCl(Φ:Phi):MC->TCd
 |.last src g ifs elt=>ed (wI Φ src) (bG g) (aX (wTl Φ ifs) (bv (wE Φ elt)))
 |.more src g ifs rest=>ed (wI Φ src) (bG g) (aX (wTl Φ ifs) (wCl Φ rest))
noncomputable def wCmp(Φ:Phi)(fr:List (Option Nat)):MC->TEd
 |.last src g ifs elt=>iq fr (wI Φ src) (bG g) (aX (wTl Φ ifs) (bv (wE Φ elt)))
 |.more src g ifs rest=>iq fr (wI Φ src) (bG g) (aX (wTl Φ ifs) (wCl Φ rest))
end
mutual
noncomputable def wS(Φ:Phi):MS->TSd
 |.asg g e=>lu (wE Φ e) (bG g)
 |.par i j a b=>uz (au (wE Φ a) (au (wE Φ b) aY)) (bW (b6 i) (bW (b6 j) gK))
 |.put2 o i o' i' e=>ow (wE Φ e) (wE Φ o) (wE Φ i) (wE Φ o') (wE Φ i')
 |.put o i e=>uF (wE Φ e) (wE Φ o) (wE Φ i)
 |.drop e=>oi (wE Φ e)
 |.ret e=>uv (wE Φ e)
 |.ite c a b=>sIf (wT Φ c) (wSs Φ a) (wSs Φ b)
 |.for g src b=>uA (wI Φ src) (bG g) (wSs Φ b)
 |.while c b=>kz (wT Φ c) (wSs Φ b)
 |.frzN i s=>oD i (wS Φ s)
 |.dell o i=>oB (wE Φ o) (wE Φ i)
 |.putN o i e=>ox (wE Φ e) (wE Φ o) (wE Φ i)
 |.bot=>λ_ _ _=>False
 |.pass=>ku
 |.brk=>kx
 |.cnt=>oh
noncomputable def wSs(Φ:Phi):MSs->TSd
 |.nil=>ku
 |.cons s r=>zC (wS Φ s) (wSs Φ r)
end
section
variable{Φ:Phi}(hΦ:∀f,b8 (Φ f))
include hΦ
mutual
theorem mE:∀m,ae (wE Φ m)
 |.var _=>zg
 |.int _=>pE
 |.bl _=>pE
 |.non=>pE
 |.bin op a b=>dY (qD op) (mE a) (mE b)
 |.neg a=>BG pM (mE a)
 |.cmp op a b=>dY (bp op) (mE a) (mE b)
 |.and es=>mAnds es
 |.or es=>mOrs es
 |.not a=>wx (mE a)
 |.ite c a b=>BZ (mT c) (mE a) (mE b)
 |.tup es=>ig wm (mA es)
 |.lst es=>ig wn (mA es)
 |.ix a b=>dY sF (mE a) (mE b)
 |.sl a lo hi=>C1 (mE a) (mO lo) (mO hi)
 |.step a lo st=>xk (mE a) (mO lo) (gJ (mE st))
 |.call f es=>ig (hΦ f) (mA es)
 |.blt f es=>ig (A6 f) (mA es)
 |.isin a T=>wz (mE a)
 |.isin2 a T U=>uP (mE a)
 |.chain op op' a b c=>fV (bp op) (bp op') (mE a) (mE b) (mE c)
 |.dnew _=>wU
 |.dnewN=>uU
 |.ixN a b=>dY qA (mE a) (mE b)
 |.minD a=>xE (mE a)
 |.sdef o k x=>xI (mE o) (mE k) (mE x)
 |.meth m o a=>sK (A7 m) (mE o) (aw (mE a) ay)
 |.ins o i a=>sK ja (mE o) (aw (mE i) (aw (mE a) ay))
 |.comp fr _ c=>mCmp fr c
theorem mA:∀m,bd (wA Φ m)
 |.nil=>ay
 |.cons e r=>aw (mE e) (mA r)
theorem mAnds:∀m,ae (wAnds Φ m)
 |.nil=>λ_ _ _ _ _ q=>q.elim
 |.cons e .nil=>mE e
 |.cons e (.cons f r)=>ww (mE e) (mAnds (.cons f r))
theorem mOrs:∀m,ae (wOrs Φ m)
 |.nil=>λ_ _ _ _ _ q=>q.elim
 |.cons e .nil=>mE e
 |.cons e (.cons f r)=>zx (mE e) (mOrs (.cons f r))
theorem mO:∀m,cS (wO Φ m)
 |.none=>rF
 |.some e=>gJ (mE e)
theorem mT:∀m,aM (wT Φ m)
 |.tru e=>zv (mE e)
 |.cmp op a b=>pF (dY (bp op) (mE a) (mE b))
 |.chain op op' a b c=>pF (fV (bp op) (bp op') (mE a) (mE b) (mE c))
 |.and ts=>mAndTs ts
 |.or ts=>mOrTs ts
 |.not t=>wu (mT t)
theorem mAndTs:∀m,aM (wAndTs Φ m)
 |.nil=>λ_ _ _ _ _ q=>q.elim
 |.cons e .nil=>mT e
 |.cons e (.cons f r)=>wv (mT e) (mAndTs (.cons f r))
theorem mOrTs:∀m,aM (wOrTs Φ m)
 |.nil=>λ_ _ _ _ _ q=>q.elim
 |.cons e .nil=>mT e
 |.cons e (.cons f r)=>zw (mT e) (mOrTs (.cons f r))
theorem mTl:∀m,∀t∈wTl Φ m,aM t
 |.nil=>by rw[wTl];intro t ht;simp at ht
 |.cons t r=>by
  rw[wTl];intro t' ht
  rcases Lw.mp ht with e|e
  ·rw[e];show mT t
  ·show mTl r t' e
theorem mI:∀m,ck (wI Φ m)
 |.seq e=>zA (mE e)
 |.rng1 a=>wG (aw (mE a) ay)
 |.rng2 a b=>wH (aw (mE a) (aw (mE b) ay))
 |.zip a b=>zB (mE a) (mE b)
 |.enum a=>wJ (mE a)
 |.itemsN a=>rM (mE a)
theorem mCl:∀m,cm (wCl Φ m)
 |.last src g ifs elt=>j7 (mI src) (aV (bI (mE elt)) (mTl ifs))
 |.more src g ifs rest=>j7 (mI src) (aV (mCl rest) (mTl ifs))
theorem mCmp(fr:List (Option Nat)):∀m,ae (wCmp Φ fr m)
 |.last src g ifs elt=>mW (mI src) (aV (bI (mE elt)) (mTl ifs))
 |.more src g ifs rest=>mW (mI src) (aV (mCl rest) (mTl ifs))
end
mutual
theorem mS:∀m,aJ (wS Φ m)
 |.asg g e=>zF (mE hΦ e)
 |.par i j a b=>zG (aw (mE hΦ a) (aw (mE hΦ b) ay))
 |.put2 o i o' i' e=>xx (mE hΦ e) (mE hΦ o) (mE hΦ i) (mE hΦ o') (mE hΦ i')
 |.put o i e=>zM (mE hΦ e) (mE hΦ o) (mE hΦ i)
 |.drop e=>wM (mE hΦ e)
 |.ret e=>zD (mE hΦ e)
 |.ite c a b=>zE (mT hΦ c) (mSs a) (mSs b)
 |.for g src b=>zH (mI hΦ src) (mSs b)
 |.while c b=>uC (mT hΦ c) (mSs b)
 |.frzN i s=>xJ (mS s)
 |.dell o i=>xF (mE hΦ o) (mE hΦ i)
 |.putN o i e=>xA (mE hΦ e) (mE hΦ o) (mE hΦ i)
 |.bot=>λ_ _ _ _ _ q=>q
 |.pass=>mY
 |.brk=>uB
 |.cnt=>wK
theorem mSs:∀m,aJ (wSs Φ m)
 |.nil=>mY
 |.cons s r=>wL (mS s) (mSs r)
end
end
end
variable{env:Env}
section
structure Ctx where
 Γ:List Str
 N:List Str
 sc:Scope
 fn:List Str
 cs:List (Str×D)
abbrev glB(sc:Scope)(x:Str):Bool:=sc.names.lookup x==S .globalImplicit
abbrev A8(sc:Scope)(x:Str):Bool:=sc.names.lookup x==S .local || sc.names.lookup x==S .cell || sc.names.lookup x==S .free
abbrev A9(sc:Scope)(x:Str):Bool:=sc.names.lookup x==S .local || sc.names.lookup x==S .cell
abbrev aT:Expr->Bool
 |.Starred ..=>WY
 |_=>WX
abbrev xL:Expr->Bool
 |.Name ..|.Call ..|.Subscript ..|.Constant ..|.BinOp ..|.Attribute ..=>WX
 |_=>WY
abbrev cJ:Expr->Bool
 |.Slice ..=>WY
 |_=>WX
abbrev fD:Expr->Bool
 |.ListComp ..|.SetComp ..|.DictComp ..=>WY
 |_=>WX
abbrev uV:Expr->Bool
 |.Set ..=>WY
 |_=>WX
abbrev fE:Expr->Bool
 |.Call _ (_::_) _ _=>WX
 |.Call ..=>WY
 |_=>WX
abbrev opO:BOp->UQ
 |.add=>.Add|.sub=>.Sub|.mul=>.Mult|.fdiv=>.FloorDiv|.mod=>.Mod|.pow=>.Pow
abbrev jw:COp->Uk
 |.eq=>.Eq|.ne=>.NotEq|.lt=>.Lt|.le=>.LtE|.gt=>.Gt|.ge=>.GtE|.is=>.Is|.isn=>.IsNot| .ninS=>.NotIn|.inN=>.In
abbrev qE:BF->Str
 |.len=>"len"| .abs=>"abs"| .min2=>"min"|.int=>"int"|.list=>"list"|.tuple=>"tuple"| .all=>"all"|.any=>"any"|.sorted=>"sorted"| .sortk=>"sorted"
abbrev Ex:MF->Str
 |.append=>"append"
abbrev bltNames:List Str:=["len","abs","max","min","int","list","tuple","sum","isinstance","range","bool","str","dict","zip","enumerate","reversed","sorted","all","any","set"]
abbrev jx(sc osc:Scope):Scope:={sc with names:=sc.names.map λ(n,k)=>if(k==.free&&osc.kind==.function&&osc.names.lookup n==S .cell)then(n,.cell)else(n,k)}
def rN(sc:Scope)(env:Env):relabel sc env=jx sc env.scope:=rfl
abbrev Aa(sc osc:Scope)(oN N':List Str)(fr:List (Option Nat)):Bool:=
 decide (sc.kind=.function)&&decide ((sc.names.map (·.1)).Nodup)&&decide (N'.Nodup)
  && sc.names.all (λx=>!(x.2==.free) || osc.names.lookup x.1==S .cell || osc.names.lookup x.1==S .free)
  && decide (fr.length=N'.length)
  && (LO N'.length).all λi=>match fr[i]?,N'[i]? with
   |some (S j),S x=>decide (oN[j]?=S x)&&sc.names.any (λy=>decide (y=(x,Mr)))
   |_,_=>WX
def pk{p:Prop}[d:Decidable p]{t:p->Bool}(h:dite p t (λ_=>WY)=WX):∃c,t c=WX:=by
 cases d with
 |isTrue c=>show⟨c,h⟩
 |isFalse c=>cases h
abbrev du(e:Expr)(f:Str->Pos->Bool):Bool:=if h:e.ctorIdx=23 then @Wt.elim (λ_=>Bool) e h f else WY
@[elab_as_elim]
theorem dS{P:Expr->Prop}(e:Expr){f:Str->Pos->Bool}(h:du e f=WX)(k:∀a b,f a b=WX->P (.Name a b)):P e:=(pk h).elim λc=>@Wt.elim (λe=>∀c,@Wt.elim (λ_=>Bool) e c f=WX->P e) e c (λa b _=>k a b) c
abbrev dC(e:Expr)(f:Const->Nat->Pos->Bool):Bool:=if h:e.ctorIdx=19 then @Us.elim (λ_=>Bool) e h f else WY
@[elab_as_elim]
theorem eT{P:Expr->Prop}(e:Expr){f:Const->Nat->Pos->Bool}(h:dC e f=WX)(k:∀a b c,f a b c=WX->P (.Constant a b c)):P e:=(pk h).elim λc=>@Us.elim (λe=>∀c,@Us.elim (λ_=>Bool) e c f=WX->P e) e c (λa b c _=>k a b c) c
abbrev xM(e:Expr)(f:Expr->UQ->Expr->Pos->Bool):Bool:=if h:e.ctorIdx=2 then @Wl.elim (λ_=>Bool) e h f else WY
@[elab_as_elim]
theorem Ey{P:Expr->Prop}(e:Expr){f:Expr->UQ->Expr->Pos->Bool}(h:xM e f=WX)(k:∀a b c d,f a b c d=WX->P (.BinOp a b c d)):P e:=(pk h).elim λc=>@Wl.elim (λe=>∀c,@Wl.elim (λ_=>Bool) e c f=WX->P e) e c (λa b c d _=>k a b c d) c
abbrev fZ(e:Expr)(f:UnaryOp->Expr->Pos->Bool):Bool:=if h:e.ctorIdx=3 then @Vf.elim (λ_=>Bool) e h f else WY
@[elab_as_elim]
theorem jy{P:Expr->Prop}(e:Expr){f:UnaryOp->Expr->Pos->Bool}(h:fZ e f=WX)(k:∀a b c,f a b c=WX->P (.UnaryOp a b c)):P e:=(pk h).elim λc=>@Vf.elim (λe=>∀c,@Vf.elim (λ_=>Bool) e c f=WX->P e) e c (λa b c _=>k a b c) c
abbrev eJ(e:Expr)(f:Expr->List Uk->List Expr->Pos->Bool):Bool:=if h:e.ctorIdx=15 then @Vg.elim (λ_=>Bool) e h f else WY
@[elab_as_elim]
theorem gd{P:Expr->Prop}(e:Expr){f:Expr->List Uk->List Expr->Pos->Bool}(h:eJ e f=WX)(k:∀a b c d,f a b c d=WX->P (.Compare a b c d)):P e:=(pk h).elim λc=>@Vg.elim (λe=>∀c,@Vg.elim (λ_=>Bool) e c f=WX->P e) e c (λa b c d _=>k a b c d) c
abbrev fF(e:Expr)(f:BoolOp->List Expr->Pos->Bool):Bool:=if h:e.ctorIdx=0 then @VS.elim (λ_=>Bool) e h f else WY
@[elab_as_elim]
theorem iI{P:Expr->Prop}(e:Expr){f:BoolOp->List Expr->Pos->Bool}(h:fF e f=WX)(k:∀a b c,f a b c=WX->P (.BoolOp a b c)):P e:=(pk h).elim λc=>@VS.elim (λe=>∀c,@VS.elim (λ_=>Bool) e c f=WX->P e) e c (λa b c _=>k a b c) c
abbrev xN(e:Expr)(f:Expr->Expr->Expr->Pos->Bool):Bool:=if h:e.ctorIdx=5 then @Wn.elim (λ_=>Bool) e h f else WY
@[elab_as_elim]
theorem Ez{P:Expr->Prop}(e:Expr){f:Expr->Expr->Expr->Pos->Bool}(h:xN e f=WX)(k:∀a b c d,f a b c d=WX->P (.IfExp a b c d)):P e:=(pk h).elim λc=>@Wn.elim (λe=>∀c,@Wn.elim (λ_=>Bool) e c f=WX->P e) e c (λa b c d _=>k a b c d) c
abbrev cA(e:Expr)(f:List Expr->Nat->Pos->Bool):Bool:=if h:e.ctorIdx=25 then @Wo.elim (λ_=>Bool) e h f else WY
@[elab_as_elim]
theorem cW{P:Expr->Prop}(e:Expr){f:List Expr->Nat->Pos->Bool}(h:cA e f=WX)(k:∀a b c,f a b c=WX->P (.Tuple a b c)):P e:=(pk h).elim λc=>@Wo.elim (λe=>∀c,@Wo.elim (λ_=>Bool) e c f=WX->P e) e c (λa b c _=>k a b c) c
abbrev Bc(e:Expr)(f:List Expr->Pos->Bool):Bool:=if h:e.ctorIdx=24 then @Wu.elim (λ_=>Bool) e h f else WY
@[elab_as_elim]
theorem FS{P:Expr->Prop}(e:Expr){f:List Expr->Pos->Bool}(h:Bc e f=WX)(k:∀a b,f a b=WX->P (.List a b)):P e:=(pk h).elim λc=>@Wu.elim (λe=>∀c,@Wu.elim (λ_=>Bool) e c f=WX->P e) e c (λa b _=>k a b) c
abbrev bq(e:Expr)(f:Expr->Expr->Pos->Bool):Bool:=if h:e.ctorIdx=21 then @U6.elim (λ_=>Bool) e h f else WY
@[elab_as_elim]
theorem bC{P:Expr->Prop}(e:Expr){f:Expr->Expr->Pos->Bool}(h:bq e f=WX)(k:∀a b c,f a b c=WX->P (.Subscript a b c)):P e:=(pk h).elim λc=>@U6.elim (λe=>∀c,@U6.elim (λ_=>Bool) e c f=WX->P e) e c (λa b c _=>k a b c) c
abbrev oE(e:Expr)(f:Expr->List Expr->List Rz->Pos->Bool):Bool:=if h:e.ctorIdx=16 then @Wv.elim (λ_=>Bool) e h f else WY
@[elab_as_elim]
theorem uW{P:Expr->Prop}(e:Expr){f:Expr->List Expr->List Rz->Pos->Bool}(h:oE e f=WX)(k:∀a b c d,f a b c d=WX->P (.Call a b c d)):P e:=(pk h).elim λc=>@Wv.elim (λe=>∀c,@Wv.elim (λ_=>Bool) e c f=WX->P e) e c (λa b c d _=>k a b c d) c
abbrev kK(e:Expr)(f:Expr->Str->Pos->Bool):Bool:=if h:e.ctorIdx=20 then @U7.elim (λ_=>Bool) e h f else WY
@[elab_as_elim]
theorem uX{P:Expr->Prop}(e:Expr){f:Expr->Str->Pos->Bool}(h:kK e f=WX)(k:∀a b c,f a b c=WX->P (.Attribute a b c)):P e:=(pk h).elim λc=>@U7.elim (λe=>∀c,@U7.elim (λ_=>Bool) e c f=WX->P e) e c (λa b c _=>k a b c) c
abbrev xO(e:Expr)(f:Option Expr->Option Expr->Option Expr->Pos->Bool):Bool:=if h:e.ctorIdx=26 then @Wp.elim (λ_=>Bool) e h f else WY
@[elab_as_elim]
theorem EA{P:Expr->Prop}(e:Expr){f:Option Expr->Option Expr->Option Expr->Pos->Bool}(h:xO e f=WX)(k:∀a b c d,f a b c d=WX->P (.Slice a b c d)):P e:=(pk h).elim λc=>@Wp.elim (λe=>∀c,@Wp.elim (λ_=>Bool) e c f=WX->P e) e c (λa b c d _=>k a b c d) c
abbrev nv(e:Expr)(f:Expr->List MZ->Scope->Pos->Bool):Bool:=if h:e.ctorIdx=8 then @Ut.elim (λ_=>Bool) e h f else WY
@[elab_as_elim]
theorem xP{P:Expr->Prop}(e:Expr){f:Expr->List MZ->Scope->Pos->Bool}(h:nv e f=WX)(k:∀a b c d,f a b c d=WX->P (.ListComp a b c d)):P e:=(pk h).elim λc=>@Ut.elim (λe=>∀c,@Ut.elim (λ_=>Bool) e c f=WX->P e) e c (λa b c d _=>k a b c d) c
abbrev uY(e:Expr)(f:List (Option Expr)->List Expr->Pos->Bool):Bool:=if h:e.ctorIdx=6 then @Ww.elim (λ_=>Bool) e h f else WY
@[elab_as_elim]
theorem Bd{P:Expr->Prop}(e:Expr){f:List (Option Expr)->List Expr->Pos->Bool}(h:uY e f=WX)(k:∀a b c,f a b c=WX->P (.Dict a b c)):P e:=(pk h).elim λc=>@Ww.elim (λe=>∀c,@Ww.elim (λ_=>Bool) e c f=WX->P e) e c (λa b c _=>k a b c) c
abbrev dg(e:Stmt)(f:List Expr->Expr->Pos->Bool):Bool:=if h:e.ctorIdx=5 then @VT.elim (λ_=>Bool) e h f else WY
@[elab_as_elim]
theorem eK{P:Stmt->Prop}(e:Stmt){f:List Expr->Expr->Pos->Bool}(h:dg e f=WX)(k:∀a b c,f a b c=WX->P (.Assign a b c)):P e:=(pk h).elim λc=>@VT.elim (λe=>∀c,@VT.elim (λ_=>Bool) e c f=WX->P e) e c (λa b c _=>k a b c) c
abbrev qF(e:Stmt)(f:List Expr->Pos->Bool):Bool:=if h:e.ctorIdx=4 then @VU.elim (λ_=>Bool) e h f else WY
@[elab_as_elim]
theorem Ab{P:Stmt->Prop}(e:Stmt){f:List Expr->Pos->Bool}(h:qF e f=WX)(k:∀a b,f a b=WX->P (.Delete a b)):P e:=(pk h).elim λc=>@VU.elim (λe=>∀c,@VU.elim (λ_=>Bool) e c f=WX->P e) e c (λa b _=>k a b) c
abbrev xQ(e:Stmt)(f:Expr->Pos->Bool):Bool:=if h:e.ctorIdx=24 then @Wx.elim (λ_=>Bool) e h f else WY
@[elab_as_elim]
theorem EB{P:Stmt->Prop}(e:Stmt){f:Expr->Pos->Bool}(h:xQ e f=WX)(k:∀a b,f a b=WX->P (.Expr a b)):P e:=(pk h).elim λc=>@Wx.elim (λe=>∀c,@Wx.elim (λ_=>Bool) e c f=WX->P e) e c (λa b _=>k a b) c
abbrev qG(e:Stmt)(f:Option Expr->Pos->Bool):Bool:=if h:e.ctorIdx=3 then @VV.elim (λ_=>Bool) e h f else WY
@[elab_as_elim]
theorem Ac{P:Stmt->Prop}(e:Stmt){f:Option Expr->Pos->Bool}(h:qG e f=WX)(k:∀a b,f a b=WX->P (.Return a b)):P e:=(pk h).elim λc=>@VV.elim (λe=>∀c,@VV.elim (λ_=>Bool) e c f=WX->P e) e c (λa b _=>k a b) c
abbrev EC(e:Stmt)(f:Expr->List Stmt->List Stmt->Pos->Bool):Bool:=if h:e.ctorIdx=12 then @Stmt.If.elim (λ_=>Bool) e h f else WY
@[elab_as_elim]
theorem GQ{P:Stmt->Prop}(e:Stmt){f:Expr->List Stmt->List Stmt->Pos->Bool}(h:EC e f=WX)(k:∀a b c d,f a b c d=WX->P (.If a b c d)):P e:=(pk h).elim λc=>@Stmt.If.elim (λe=>∀c,@Stmt.If.elim (λ_=>Bool) e c f=WX->P e) e c (λa b c d _=>k a b c d) c
abbrev Be(e:Stmt)(f:Expr->Expr->List Stmt->List Stmt->Pos->Bool):Bool:=if h:e.ctorIdx=9 then @Stmt.For.elim (λ_=>Bool) e h f else WY
@[elab_as_elim]
theorem FT{P:Stmt->Prop}(e:Stmt){f:Expr->Expr->List Stmt->List Stmt->Pos->Bool}(h:Be e f=WX)(k:∀a b c d e,f a b c d e=WX->P (.For a b c d e)):P e:=(pk h).elim λc=>@Stmt.For.elim (λe=>∀c,@Stmt.For.elim (λ_=>Bool) e c f=WX->P e) e c (λa b c d e _=>k a b c d e) c
abbrev t6(e:Stmt)(f:Expr->List Stmt->List Stmt->Pos->Bool):Bool:=if h:e.ctorIdx=11 then @Wq.elim (λ_=>Bool) e h f else WY
@[elab_as_elim]
theorem CB{P:Stmt->Prop}(e:Stmt){f:Expr->List Stmt->List Stmt->Pos->Bool}(h:t6 e f=WX)(k:∀a b c d,f a b c d=WX->P (.While a b c d)):P e:=(pk h).elim λc=>@Wq.elim (λe=>∀c,@Wq.elim (λ_=>Bool) e c f=WX->P e) e c (λa b c d _=>k a b c d) c
abbrev xR(e:Stmt)(f:Pos->Bool):Bool:=if h:e.ctorIdx=25 then @Wy.elim (λ_=>Bool) e h f else WY
@[elab_as_elim]
theorem ED{P:Stmt->Prop}(e:Stmt){f:Pos->Bool}(h:xR e f=WX)(k:∀a,f a=WX->P (.Pass a)):P e:=(pk h).elim λc=>@Wy.elim (λe=>∀c,@Wy.elim (λ_=>Bool) e c f=WX->P e) e c (λa _=>k a) c
abbrev t7(e:Stmt)(f:Pos->Bool):Bool:=if h:e.ctorIdx=26 then @Wr.elim (λ_=>Bool) e h f else WY
@[elab_as_elim]
theorem CC{P:Stmt->Prop}(e:Stmt){f:Pos->Bool}(h:t7 e f=WX)(k:∀a,f a=WX->P (.Break a)):P e:=(pk h).elim λc=>@Wr.elim (λe=>∀c,@Wr.elim (λ_=>Bool) e c f=WX->P e) e c (λa _=>k a) c
abbrev kL(e:Stmt)(f:Pos->Bool):Bool:=if h:e.ctorIdx=27 then @Uu.elim (λ_=>Bool) e h f else WY
@[elab_as_elim]
theorem uZ{P:Stmt->Prop}(e:Stmt){f:Pos->Bool}(h:kL e f=WX)(k:∀a,f a=WX->P (.Continue a)):P e:=(pk h).elim λc=>@Uu.elim (λe=>∀c,@Uu.elim (λ_=>Bool) e c f=WX->P e) e c (λa _=>k a) c
abbrev lv0{α:Type}(xs:List α)(b:Bool):Bool:=xs.isEmpty&&b
abbrev lvc{α:Type}(xs:List α)(f:α->List α->Bool):Bool:=match xs with
 |y::r=>f y r
 |[]=>WY
abbrev lv1{α:Type}(xs:List α)(f:α->Bool):Bool:=lvc xs λy r=>lv0 r (f y)
abbrev lv2{α:Type}(xs:List α)(f:α->α->Bool):Bool:=lvc xs λy r=>lv1 r (f y)
abbrev os{α:Type}(o:Option α)(f:α->Bool):Bool:=match o with
 |some x=>f x
 |none=>WY
abbrev on{α:Type}(o:Option α)(b:Bool):Bool:=o.isNone&&b
@[elab_as_elim]
theorem fe{α:Type}{P:List α->Prop}(xs:List α){b:Bool}(h:lv0 xs b=WX)(k:b=WX->P []):P xs:=by
 cases xs with
 |nil=>show k h
 |cons _ _=>cases h
@[elab_as_elim]
theorem EE{α:Type}{P:List α->Prop}(xs:List α){f:α->List α->Bool}(h:lvc xs f=WX)(k:∀y r,f y r=WX->P (y::r)):P xs:=by
 cases xs with
 |nil=>cases h
 |cons y r=>show k y r h
@[elab_as_elim]
theorem cw{α:Type}{P:List α->Prop}(xs:List α){f:α->Bool}(h:lv1 xs f=WX)(k:∀y,f y=WX->P [y]):P xs:=EE xs h λy r h=>fe r h λh=>k y h
@[elab_as_elim]
theorem cX{α:Type}{P:List α->Prop}(xs:List α){f:α->α->Bool}(h:lv2 xs f=WX)(k:∀y z,f y z=WX->P [y,z]):P xs:=EE xs h λy r h=>cw r h λz h=>k y z h
@[elab_as_elim]
theorem jos{α:Type}{P:Option α->Prop}(o:Option α){f:α->Bool}(h:os o f=WX)(k:∀x,f x=WX->P (S x)):P o:=by
 cases o with
 |none=>cases h
 |some x=>show k x h
@[elab_as_elim]
theorem jon{α:Type}{P:Option α->Prop}(o:Option α){b:Bool}(h:on o b=WX)(k:b=WX->P Y):P o:=by
 cases o with
 |none=>show k h
 |some x=>cases h
def bX{a b:Bool}(h:(a&&b)=WX):a=WX/\b=WX:=by rwa[D0]at h
abbrev cY(e:Expr)(g:Str->List Expr->Bool):Bool:=oE e λf xs ks _=>lv0 ks (du f λx _=>g x xs)
@[elab_as_elim]
theorem dD{P:Expr->Prop}(e:Expr){g:Str->List Expr->Bool}(h:cY e g=WX)(k:∀x xs p pos,g x xs=WX->P (.Call (.Name x p) xs [] pos)):P e:=uW e h λf xs ks pos h=>fe ks h λh=>dS f h λx p h=>k x xs p pos h
abbrev kM(e:Expr)(g:Expr->Str->List Expr->Pos->Pos->Bool):Bool:=oE e λf xs ks p=>lv0 ks (kK f λo n q=>g o n xs q p)
@[elab_as_elim]
theorem oF{P:Expr->Prop}(e:Expr){g:Expr->Str->List Expr->Pos->Pos->Bool}(h:kM e g=WX)(k:∀o n xs q p,g o n xs q p=WX->P (.Call (.Attribute o n q) xs [] p)):P e:=uW e h λf xs ks pos h=>fe ks h λh=>uX f h λo n q h=>k o n xs q pos h
abbrev iSl(e:Expr)(g:Expr->Option Expr->Option Expr->Option Expr->Bool):Bool:=bq e λx y _=>xO y λl u s _=>g x l u s
@[elab_as_elim]
theorem jSl{P:Expr->Prop}(e:Expr){g:Expr->Option Expr->Option Expr->Option Expr->Bool}(h:iSl e g=WX)(k:∀x l u s p pos,g x l u s=WX->P (.Subscript x (.Slice l u s p) pos)):P e:=bC e h λx y pos h=>EA y h λl u s p h=>k x l u s p pos h
mutual
noncomputable def okG:MG->Ctx->Expr->Bool
 |.name i,C,e=>du e λx _=>decide (C.N[i]?=S x)&&A9 C.sc x&&(C.sc.names.lookup x==S .local || C.fn.contains x)
 |.tup gs,C,e=>cA e λes _ _=>okGs gs C es
noncomputable def okGs:MGs->Ctx->List Expr->Bool
 |.nil,_,es=>es.isEmpty
 |.cons g r,C,es=>match es with
  |e::es=>aT e&&okG g C e&&okGs r C es
  |[]=>WY
end
mutual
noncomputable def okE:ME->Ctx->Expr->Bool
 |.var i,C,e=>du e λx _=>decide (C.N[i]?=S x)&&A8 C.sc x && !(x==("__debug__":Str)) && !(x==("__classdict__":Str))
 |.int i,_,e=>dC e λc _ _=>decide (c=.int i)
 |.bl i,_,e=>dC e λc _ _=>decide (c=.bool i)
 |.non,_,e=>dC e λc _ _=>decide (c=.none)
 |.bin op a b,C,e=>xM e λl o r _=>decide (o=opO op)&&okE a C l&&okE b C r
 |.neg a,C,e=>fZ e λo x _=>decide (o=.USub)&&okE a C x
 |.cmp op a b,C,e=>eJ e λl os rs _=>lv1 os λo=>lv1 rs λr=>decide (o=jw op)&&okE a C l&&okE b C r && !(Qc o r)
 |.and es,C,e=>fF e λo xs _=>decide (o=.And) && !xs.isEmpty&&okEs es C xs
 |.or es,C,e=>fF e λo xs _=>decide (o=.Or) && !xs.isEmpty&&okEs es C xs
 |.not a,C,e=>fZ e λo x _=>decide (o=.Not)&&okE a C x
 |.ite c a b,C,e=>xN e λt x y _=>okT c C t&&okE a C x&&okE b C y
 |.tup es,C,e=>cA e λxs _ _=>okEs es C xs
 |.lst es,C,e=>Bc e λxs _=>okEs es C xs
 |.ix a b,C,e=>bq e λx y _=>cJ y&&okE a C x&&okE b C y
 |.sl a lo hi,C,e=>iSl e λx l u s=>on s (okE a C x&&okO lo C l&&okO hi C u)
 |.step a lo st,C,e=>iSl e λx l u s=>on u (os s λs=>okE a C x&&okO lo C l&&okE st C s)
 |.call f es,C,e=>cY e λx xs=>decide (C.Γ[f]?=S x)&&glB C.sc x && !(x==("__debug__":Str))&&okEs es C xs
 |.blt f es,C,e=>cY e λx xs=>decide (x=qE f)&&glB C.sc x && !xs.isEmpty&&okEs es C xs
 |.isin2 a T U,C,e=>cY e λx xs=>lv2 xs λy w=>cA w λws _ _=>lv2 ws λz' v'=>du z' λz _=>du v' λv _=>decide (x="isinstance")&&glB C.sc x&&glB C.sc z&&glB C.sc v&&decide (z=MU T)&&decide (v=MU U)&&decide (T∈["bool","int","str","tuple","list","dict"])&&decide (U∈["bool","int","str","tuple","list","dict"])&&aT y&&okE a C y
 |.isin a T,C,e=>cY e λx xs=>lv2 xs λy w=>du w λz _=>decide (x="isinstance")&&glB C.sc x&&glB C.sc z&&decide (z=MU T)&&decide (T∈["bool","int","str","tuple","list","dict"])&&aT y&&okE a C y
 |.chain op op' a b c,C,e=>eJ e λl os rs _=>lv2 os λo o'=>lv2 rs λr q=>decide (o=jw op)&&decide (o'=jw op')&&okE a C l&&okE b C r&&okE c C q && !(SI [o,o'] [r,q])
 |.dnew _,_,e=>uY e λks vs _=>lv0 ks (lv0 vs WX)
 |.dnewN,_,e=>uY e λks vs _=>lv0 ks (lv0 vs WX)
 |.ixN a b,C,e=>bq e λx y _=>cJ y&&okE a C x&&okE b C y
 |.minD a,C,e=>oE e λf xs ks _=>du f λx _=>lv1 xs λw=>lv1 ks λq=>dC q.value λc _ _=>decide (x="min")&&glB C.sc x&&aT w&&decide (q.arg=S "default")&&decide (c=.none)&&okE a C w
 |.sdef o k x,C,e=>kM e λy n xs ap cp=>lv2 xs λe1 e2=>decide (n="setdefault")&&fE y&&(ap.endLine==cp.line)&&aT e1&&aT e2&&okE o C y&&okE k C e1&&okE x C e2
 |.meth m o a,C,e=>kM e λx n xs ap cp=>lv1 xs λy=>decide (n=Ex m)&&fE x&&(ap.endLine==cp.line)&&aT y&&okE o C x&&okE a C y
 |.ins o i a,C,e=>kM e λx n xs ap cp=>lv2 xs λy z=>decide (n="insert")&&fE x&&(ap.endLine==cp.line)&&aT y&&aT z&&okE o C x&&okE i C y&&okE a C z
 |.comp fr N' c,C,e=>nv e λelt gens sc _=>Aa sc C.sc C.N N' fr&&okC c C ⟨C.Γ,N',jx sc C.sc,(sc.names.filter (·.2==.cell)).map (·.1),C.cs⟩ gens elt
noncomputable def okEs:MEs->Ctx->List Expr->Bool
 |.nil,_,es=>es.isEmpty
 |.cons m r,C,es=>match es with
  |e::es=>aT e&&okE m C e&&okEs r C es
  |[]=>WY
noncomputable def okO:MO->Ctx->Option Expr->Bool
 |.none,_,e=>e.isNone
 |.some m,C,e=>match e with
  |some e=>okE m C e
  |none=>WY
noncomputable def okT:MT->Ctx->Expr->Bool
 |.tru m,C,e=>xL e&&okE m C e
 |.cmp op a b,C,e=>eJ e λl os rs _=>lv1 os λo=>lv1 rs λr=>decide (o=jw op)&&okE a C l&&okE b C r && !(Qc o r)
 |.chain op op' a b c,C,e=>eJ e λl os rs _=>lv2 os λo o'=>lv2 rs λr q=>decide (o=jw op)&&decide (o'=jw op')&&okE a C l&&okE b C r&&okE c C q && !(SI [o,o'] [r,q])
 |.and ts,C,e=>fF e λo xs _=>decide (o=.And) && !xs.isEmpty&&okTs ts C xs
 |.or ts,C,e=>fF e λo xs _=>decide (o=.Or) && !xs.isEmpty&&okTs ts C xs
 |.not t,C,e=>fZ e λo x _=>decide (o=.Not)&&okT t C x
noncomputable def okTs:MTs->Ctx->List Expr->Bool
 |.nil,_,es=>es.isEmpty
 |.cons m r,C,es=>match es with
  |e::es=>okT m C e&&okTs r C es
  |[]=>WY
noncomputable def okI:MI->Ctx->Expr->Expr->Bool
 |.seq m,C,_,e=>uV e&&okE m C e
 |.itemsN a,C,t,e=>kM e λx n xs ap cp=>lv0 xs (cA t λ_ _ _=>decide (n="items")&&fE x&&(ap.endLine==cp.line)&&okE a C x)
 |.rng1 a,C,_,e=>cY e λx xs=>lv1 xs λy=>decide (x="range")&&glB C.sc x&&aT y&&okE a C y
 |.rng2 a b,C,_,e=>cY e λx xs=>lv2 xs λy z=>decide (x="range")&&glB C.sc x&&aT y&&aT z&&okE a C y&&okE b C z
 |.enum a,C,t,e=>cY e λx xs=>lv1 xs λy=>cA t λ_ _ _=>decide (x="enumerate")&&glB C.sc x&&aT y&&okE a C y
 |.zip a b,C,t,e=>cY e λx xs=>lv2 xs λy z=>cA t λ_ _ _=>decide (x="zip")&&glB C.sc x&&aT y&&aT z&&okE a C y&&okE b C z
noncomputable def okC:MC->Ctx->Ctx->List MZ->Expr->Bool
 |.last src g ifs m,Cs,C,gens,elt=>match gens with
  |[⟨t,it,fs,a⟩]=>decide (a=0)&&okI src Cs t it&&okG g C t&&okTs ifs C fs&&okE m C elt
  |_=>WY
 |.more src g ifs rest,Cs,C,gens,elt=>match gens with
  |⟨t,it,fs,a⟩::g2::gs=>decide (a=0)&&okI src Cs t it&&okG g C t&&okTs ifs C fs&&okC rest C C (g2::gs) elt
  |_=>WY
end
abbrev be(sc:Scope)(ts:List Expr):List Str:=ts.filterMap fun
 |.Name id pos=>if sc.names.lookup id==S .local&&pos.line==(ts.head?.map (·.pos.line)).getD 0 then S id else Y
 |_=>Y
abbrev v5(sc:Scope)(ts vs:List Expr):Bool:=!(ts.length==2 || ts.length==3) || vs.length != ts.length || (be sc ts).length != ts.length || (be sc ts).eraseDups.length != (be sc ts).length || vs.all (Uv 8)
abbrev v6(C:Ctx)(i:Nat)(x:Str):Bool:=decide (C.N[i]?=S x)&&decide (C.sc.names.lookup x=S .local)
abbrev v7(sc:Scope)(ts vs:List Expr)(ns:List Str):Bool:=!(!(ts.length==2 || ts.length==3) || vs.length != ts.length) && !(vs.any λ| .Starred ..=>WX|_=>WY)&&decide (be sc ts=ns) && !((be sc ts).length != ts.length || (be sc ts).eraseDups.length != (be sc ts).length) && !(vs.all (Uv 8)) && !(vs.all (constantsAlone 8))
abbrev Bf(sc:Scope)(tg e:Expr):Bool:=match tg,e with
 |.Tuple ts _ _,.Tuple vs _ _=>v5 sc ts vs
 |.Tuple ..,_=>WX
 |.Name ..,_=>WX
 |_,_=>WY
abbrev EF(sc:Scope)(x:Str)(px:Pos)(e:Expr):Bool:=match e with
 |.DictComp _ _ _ s _=>!(sc.names.lookup x==S .local&&px.line==e.pos.line && !(s.names.any λ(n,k)=>n==x&&(k==.local || k==.cell)))
 |_=>WX
abbrev v8(sc:Scope)(x:Str)(px:Pos)(e:Expr):Bool:=match e with
 |.ListComp _ _ s _=>sc.names.lookup x==S .local&&px.line==e.pos.line && !(s.names.any λ(n,k)=>n==x&&(k==.local || k==.cell))
 |_=>WY
mutual
noncomputable def okS:MS->Ctx->Stmt->Bool
 |.asg g m,C,s=>dg s λts e _=>lv1 ts λtg=>okG g C tg&&okE m C e&&Bf C.sc tg e&&(match tg with|.Name x px=>EF C.sc x px e|_=>fD e)
 |.par i j a b,C,s=>dg s λts e _=>lv1 ts λtg=>cA tg λts _ _=>cA e λes _ _=>lv2 ts λt u=>lv2 es λe f=>du t λx px=>du u λy py=>v6 C i x&&v6 C j y&&decide (i≠j)&&aT e&&aT f&&okE a C e&&okE b C f&&v7 C.sc [.Name x px,.Name y py] [e,f] [x,y]
 |.put2 o i o' i' m,C,s=>dg s λts e _=>lv1 ts λtg=>cA tg λts _ _=>lv2 ts λt u=>bq t λx y _=>bq u λx' y' _=>cJ y&&cJ y'&&fD e&&okE o C x&&okE i C y&&okE o' C x'&&okE i' C y'&&okE m C e
 |.put o i m,C,s=>dg s λts e _=>lv1 ts λtg=>bq tg λx y _=>cJ y&&fD e&&okE o C x&&okE i C y&&okE m C e
 |.drop m,C,s=>xQ s λe _=>fD e&&okE m C e
 |.ret m,C,s=>qG s λo _=>os o λe=>okE m C e
 |.ite c a b,C,s=>EC s λt x y _=>okT c C t&&okSs a C x&&okSs b C y
 |.for g src b,C,s=>Be s λtg it body els _=>lv0 els (uV it&&okG g C tg&&okI src C tg it&&okSs b C body)
 |.while c b,C,s=>t6 s λt body els _=>lv0 els (okT c C t&&okSs b C body)
 |.frzN _ m,C,s=>okS m C s
 |.dell o i,C,s=>qF s λts _=>lv1 ts λt=>bq t λx y _=>okE o C x&&okE i C y
 |.putN o i m,C,s=>dg s λts e _=>lv1 ts λtg=>bq tg λx y _=>cJ y&&fD e&&okE o C x&&okE i C y&&okE m C e
 |.bot,_,_=>WX
 |.pass,_,s=>xR s λ_=>WX
 |.brk,_,s=>t7 s λ_=>WX
 |.cnt,_,s=>kL s λ_=>WX
noncomputable def okSs:MSs->Ctx->List Stmt->Bool
 |.nil,_,ss=>ss.isEmpty
 |.cons m r,C,ss=>match ss with
  |s::ss=>okS m C s&&okSs r C ss
  |[]=>WY
end
def ak{es:List Expr}(h:aT e=WX):LV (e::es) env=(WY,eval e env)::LV es env:=by cases e<;>first|rfl|(cases h;done)
def ny{es:List Expr}(h:aT e=WX):Of (e::es) env=(WY,assign e env)::Of es env:=by cases e<;>first|rfl|(cases h;done)
def v9(h:xL e=WX):∀whole,isTrue e env whole=(do let v <-whole;QC e.pos;holding [v] (truthy v)):=by
 intro w
 cases e<;>first|rfl|(cases h;done)
def qH(h:cJ e=WX):kZ e:=by
 intro o i
 cases e<;>first|rfl|(cases h;done)
def xS(h:uV e=WX):∀x,Om e env x=pure x:=by
 intro x
 cases e<;>first|rfl|(cases h;done)
set_option tactic.hygienic true
def gf{n:Str}(h:fE e=WX):Sz e n env (eval e env)=eval e env:=by
 cases e<;>first
  |rfl
  | (rename_i f xs _ _;cases xs with
     |nil=>cases h
     |cons _ _=>cases f<;>rfl)
set_option tactic.hygienic false
def fG{t:Option Expr}{l:Nat}(h:fD e=WX):Qy e t l env=pure WY:=by cases e<;>first|rfl|(cases h;done)
end
variable{f:Nat}{x:Str}{pos:Pos}{sc:Scope}{fr:List (Option Nat)}
section
abbrev lSp(K:Frag)(r:RAd):Sp:=λvs H Q _=>lR K r vs H Q
structure Good(C:Ctx)(Φ:Phi)(k:Nat)(X:Cx):Prop where
 hx:∀e s,X.xe e s->False
 calm:X.calm=WX
 N:X.N=C.N
 sc:X.env.scope=C.sc
 nd:X.N.Nodup
 fn:∀x∈C.fn,X.fn x=WX
 room:Room k X.A
 mgB:∀x∈bltNames,X.mg x=Y
 fns:∀(i:Nat) (x:Str),C.Γ[i]?=S x->∃f fd ps,X.mg x=S (.ref f)/\QL X.K Nq x=S (S (.ref f))/\PY X.K (.ref f)=WX/\Binds X.K fd ps []/\eB X.prog X.w X.K X.mg X.base CX0 k f fd ps (lSp X.K (Φ i))
 mono:∀f,b8 (Φ f)
 cs:∀x d,(x,d)∈C.cs->∃u,X.mg x=S u/\GV X.K d u
section
variable{C:Ctx}{Φ:Phi}{k:Nat}{X:Cx}
def Good.units(G:Good C Φ k X):X.A.units+64<NW:=G.room.units
def Good.gl(G:Good C Φ k X)(h:glB C.sc x=WX):Gl X x:=by change X.env.scope.names.lookup x=_;rw[G.sc];simpa[glB]using h
def Good.vis(G:Good C Φ k X)(h:A8 C.sc x=WX):Vis X.env.scope x:=by
 unfold Vis;rw[G.sc];simp[A8]at h
 rcases h with(h|h)|h
 ·show .inl h
 ·show .inr (.inl h)
 ·show .inr (.inr h)
def Good.loc(G:Good C Φ k X)(h:A9 C.sc x=WX):Loc X.env.scope x:=by unfold Loc;rw[G.sc];simpa[A9]using h
def Good.own(G:Good C Φ k X)(h:(C.sc.names.lookup x==S .local || C.fn.contains x)=WX):X.fn x=WX∨X.env.scope.names.lookup x=S .local:=by
 rw[G.sc];simp at h
 rcases h with h|h
 ·show .inr h
 ·show .inl (G.fn x h)
def EG(G:Good C Φ k X):∀o:BOp,OpR X (NQ (opO o)) (l2 X.K (opB o))
 |.add=>zn|.sub=>zo|.mul=>zp|.fdiv=>wq|.mod=>zr|.pow=>zt
def ef(G:Good C Φ k X):∀o:COp,OpR X (Mu (jw o)) (l2 X.K (opC o))
 |.eq=>BL (by let:=G.units;lia)|.ne=>BM (by let:=G.units;lia)|.lt=>BR|.le=>BS|.gt=>BU|.ge=>BV|.is=>Cb|.isn=>zP| .ninS=>xw|.inN=>A3 (by let:=G.units;lia)
def EH(G:Good C Φ k X){f:BF}{es:List Expr}{t:TAd}{p:Pos}(mt:bd t)(q:Gl X (qE f))(z:PA X (e::es) (lA X.K t))(he:LV (e::es) X.env=(WY,eval e X.env)::LV es X.env)(j:(Po pos (LV es X.env)).any (·.1)=WY):PE X (.Call (.Name (qE f) p) (e::es) [] pos) (lE X.K (wAr (opF f) t)):=by
 cases f with
 |len=>show PE.imp (bK uh q (G.mgB _ (·)) PySem.boot_len z (·) (·) he j) (bF pO mt)
 |abs=>show PE.imp (bK uj q (G.mgB _ (·)) (by decide +kernel) z (·) (·) he j) (bF pQ mt)
 |min2=>show PE.imp (bK (rD G.calm) q (G.mgB _ (·)) (by decide +kernel) z (·) (·) he j) (bF mU mt)
 |int=>show PE.imp (gD uk q (G.mgB _ (·)) (by decide +kernel) z (·) (·) he j) (bF pR mt)
 |list=>show PE.imp (gD rE q (G.mgB _ (·)) (by decide +kernel) z (·) (·) he j) (bF mV mt)
 |tuple=>show PE.imp (gD pS q (G.mgB _ (·)) (by decide +kernel) z (·) (·) he j) (bF kn mt)
 |all=>show PE.imp (bK (uH G.calm) q (G.mgB _ (·)) (by decide +kernel) z (·) (·) he j) (bF q8 mt)
 |any=>show PE.imp (bK (uI G.calm) q (G.mgB _ (·)) (by decide +kernel) z (·) (·) he j) (bF q9 mt)
 |sorted=>show PE.imp (bK (nO (by let:=G.units;lia)) q (G.mgB _ (·)) (by decide +kernel) z (·) (·) he j) (bF j9 mt)
 |sortk=>show PE.imp (bK (qw (by let:=G.units;lia) G.calm) q (G.mgB _ (·)) (by decide +kernel) z (·) (·) he j) (bF kG mt)
def CD(G:Good C Φ k X){es:List Expr}{t:TAd}{p:Pos}(mt:bd t)(hf:C.Γ[f]?=S x)(z:Gl X x)(j:(x==("__debug__":Str))=WY)(B:PA X (e::es) (lA X.K t))(he:LV (e::es) X.env=(WY,eval e X.env)::LV es X.env)(q:(Po pos (LV es X.env)).any (·.1)=WY):PE X (.Call (.Name x p) (e::es) [] pos) (lE X.K (wAr (Φ f) t)):=by
 let⟨a,fd,ps,hm,_,J,L,F⟩:=G.fns f x hf;calc PE.imp (Bu F G.room z hm J L .nil AY B j he q) λσ H Q h=>?_;let h2:=bF (G.mono f) mt σ H Q h;let:(λvs H1=>lSp X.K (Φ f) (vs++[]) H1 Q E0)=λvs H1=>lR X.K (Φ f) vs H1 Q:=by funext vs H1;rw[MN];rfl
 change(lA X.K t) σ H _;rw[this];show h2
def Ad(G:Good C Φ k X){p:Pos}(hf:C.Γ[f]?=S x)(z:Gl X x)(j:(x==("__debug__":Str))=WY):PE X (.Call (.Name x p) [] [] pos) (lE X.K (wAr (Φ f) aY)):=by let⟨a,fd,ps,hm,_,B,J,F⟩:=G.fns f x hf;calc PE.imp (yR F G.room z hm B J .nil AY j) λσ H Q h=>?_;let⟨ρ,M,rs,rm,q⟩:=h;show⟨[],M,rm,RDs.nil,q⟩
def jz{env:Env}{pos:Pos}:∀{es:List Expr},es.all aT=WX->(Po pos (LV es env)).any (·.1)=WY
 |[],_=>rfl
 |e::es,h=>by
  simp only[NR,D0]at h;rw[ak h.1];change(WY || (Po pos (LV es env)).any (·.1))=WY
  rw[jz h.2];rfl
def gX:∀{ms:MEs} {es:List Expr},okEs ms C es=WX->es.all aT=WX
 |.nil,[],_=>rfl
 |.nil,_::_,h=>by simp[okEs]at h
 |.cons m r,[],h=>by simp[okEs]at h
 |.cons m r,e::es,h=>by simp only[okEs,D0]at h;simp only[NR,D0];show⟨h.1.1,gX h.2⟩
def t8:∀{gs:MGs} {es:List Expr},okGs gs C es=WX->∀ds ρ ρ',bGs gs ds ρ=S ρ'->ds.length=es.length
 |.nil,es,h,ds,ρ,ρ',e=>by
  simp[okGs]at h;subst h;rw[bGs]at e
  cases ds with
  |nil=>rfl
  |cons _ _=>cases e
 |.cons g r,[],h,_,_,_,_=>by simp[okGs]at h
 |.cons g r,x::es,h,ds,ρ,ρ',e=>by
  simp only[okGs,D0]at h;rw[bGs]at e
  cases ds with
  |nil=>cases e
  |cons d ds=>
   simp only[bW]at e
   cases e1:bG g d ρ with
   |none=>rw[e1]at e;cases e
   |some ρ1=>rw[e1]at e;simp[t8 h.2 ds ρ1 ρ' e]
def qI{env:Env}:∀{gs:MGs} {es:List Expr},okGs gs C es=WX->(Of es env).length=es.length/\(Of es env).findIdx? (·.1)=Y
 |.nil,es,h=>by simp[okGs]at h;subst h;show⟨rfl,rfl⟩
 |.cons g r,[],h=>by simp[okGs]at h
 |.cons g r,x::es,h=>by
  simp only[okGs,D0]at h;let⟨a,b⟩:=qI (env:=env) h.2;rw[ny h.1.1];refine⟨by simp[a],?_⟩
  rw[List.findIdx?_cons];simp[b]
mutual
theorem sG(G:Good C Φ k X):∀(m:MG) (e:Expr),okG m C e=WX->PG X e (lG X.K (bG m))
 |.name i,e,h=>by calc dS e h λx _ h=>?_;simp only[D0]at h;show C3 G.nd (by rw[G.N];show of_decide_eq_true h.1.1) (G.loc h.1.2) (G.own h.2)
 |.tup gs,e,h=>by calc cW e h λes _ _ h=>?_;rw[bG];let⟨a,b⟩:=qI (env:=X.env) h;show Eg G.calm (t8 h) (sGs G gs _ h) a b
theorem sGs(G:Good C Φ k X):∀(m:MGs) (es:List Expr),okGs m C es=WX->PGs X es (lGs X.K (bGs m))
 |.nil,es,h=>by simp[okGs]at h;subst h;show C4
 |.cons g r,[],h=>by simp[okGs]at h
 |.cons g r,e::es,h=>by simp only[okGs,D0]at h;show zz (sG G g e h.1.2) (sGs G r es h.2) (by rw[ny h.1.1];rfl)
end
def PB.imp{F:Sem Fin->Sem Fin}{t t':TC}(h:PB X F t)(i:∀σ H N,t' σ H N->t σ H N):PB X F t':=λpins s σ H N k Q E I q hk=>h pins s σ H N k Q E I (i _ _ _ q) hk
def kN{osc:Scope}{oN N':List Str}(h:Aa sc osc oN N' fr=WX):bm sc osc oN N' fr:=by
 simp only[Aa,D0,decide_eq_true_eq]at h;let⟨⟨⟨⟨⟨h1,h2⟩,F⟩,G⟩,J⟩,L⟩:=h;refine⟨h1,h2,F,λx hx e=>?_,J,λi j x hi hf=>?_⟩
 ·let z:=Ra.mp G x hx;rw[e]at z;simpa using z
 ·let B:i<N'.length:=(J4.mp hi).1;let q:=Ra.mp L i (NO.mpr B);rw[hf,hi]at q;simp only[D0,decide_eq_true_eq,SW]at q;let⟨a,y,O,e⟩:=q;show⟨a,by rw[<-e];show O⟩
def Good.blk(G:Good C Φ k X){N':List Str}(B:bm sc C.sc C.N N' fr)(s:tv)(H:Hp)(fp:List WZ):
 Good ⟨C.Γ,N',jx sc C.sc,(sc.names.filter (·.2==.cell)).map (·.1),C.cs⟩ Φ k (aO X sc N' s H fp):=by
 refine⟨λ_ _ h=>h,G.calm,rfl,?_,B.ndN,λx hx=>?_,G.room,G.mgB,G.fns,G.mono,G.cs⟩
 ·change relabel sc X.env=_;rw[rN,G.sc]
 ·let⟨y,q,e⟩:=LI.mp hx;let⟨h1,h2⟩:=Nl.mp q;let⟨n,kd⟩:=y;let j:kd=.cell:=by simpa using h2
  subst j;let e':n=x:=e;subst e';change(sc.names.lookup n==S .cell)=WX;rw[b5 B.nd h1];rfl
end
end
variable{C:Ctx}{tb:TCd}
section
section
variable{Φ:Phi}{k:Nat}
def eg{X:Cx}(G:Good C Φ k X){F:Sem Fin->Sem Fin}{p:WZ}{ifs:List Expr}{ts:List TTd}(mb:cm tb)(mt:∀t∈ts,aM t)(j:PB X F (lC X.K p tb))(q:N6 (λc t=>PT X c t) ifs (ts.map (lT X.K))):
 PB X (λk=>bu ifs X.env>>=λok=>if ok=WX then F k else k) (lC X.K p (aX ts tb)):=
 PB.imp (zc G.hx j q) (kr mb mt)
def gY{m:MC}{Cs:Ctx}{g2:MZ}{gs:List MZ}{elt:Expr}(h:okC m Cs C (g2::gs) elt=WX):g2.is_async=0:=by
 let⟨t,i,f,a⟩:=g2
 cases m with
 |last src g ifs m=>
  cases gs with
  |nil=>simp only[okC,D0,decide_eq_true_eq]at h;show h.1.1.1.1
  |cons _ _=>simp[okC]at h
 |more src g ifs rest=>
  cases gs with
  |nil=>simp[okC]at h
  |cons _ _=>simp only[okC,D0,decide_eq_true_eq]at h;show h.1.1.1.1
def jA{X:Cx}(G:Good C Φ k X):∀T∈["bool","int","str","tuple","list","dict"],X.mg (MU T)=Y/\OA (MU T)=S (.type T)/\MU T≠"__name__"/\(MU T==("__debug__":Str))=WY:=by
 intro T j;simp only[Lw,LW,or_false]at j
 rcases j with rfl|rfl|rfl|rfl|rfl|rfl
 all_goals show⟨G.mgB _ (·),by decide +kernel,by decide,by decide⟩
set_option tactic.hygienic true
mutual
theorem sE:∀(m:ME) {C:Ctx} {X:Cx} (G:Good C Φ k X) (e:Expr),okE m C e=WX->PE X e (lE X.K (wE Φ m))
 |.var i,C,X,G,e,h=>by calc dS e h λx _ h=>?_;simp only[D0,Nv,decide_eq_true_eq]at h;show E3 (by rw[G.N];show h.1.1.1) (G.vis h.1.1.2) h.1.2 h.2
 |.int i,C,X,G,e,h=>by calc eT e h λc _ _ h=>?_;rw[of_decide_eq_true h];show le_int
 |.bl i,C,X,G,e,h=>by calc eT e h λc _ _ h=>?_;rw[of_decide_eq_true h];show FA
 |.non,C,X,G,e,h=>by calc eT e h λc _ _ h=>?_;rw[of_decide_eq_true h];show E4
 |.bin op a b,C,X,G,e,h=>by calc Ey e h λl o r _ h=>?_;simp only[D0,decide_eq_true_eq]at h;rw[h.1.1];show FB (EG G op) (qD op) (mE G.mono a) (mE G.mono b) (sE a G _ h.1.2) (sE b G _ h.2)
 |.neg a,C,X,G,e,h=>by
  calc jy e h λo x _ h=>?_;replace h:=bX h;let⟨ho,h⟩:=h
  cases of_decide_eq_true ho
  show FC zu pM (mE G.mono a) (sE a G _ h)
 |.cmp op a b,C,X,G,e,h=>by calc gd e h λl os rs pos h=>?_;calc cw os h λo h=>?_;calc cw rs h λr h=>?_;simp only[D0,decide_eq_true_eq]at h;let⟨⟨⟨ho,O⟩,hb⟩,hm⟩:=h;rw[Nv]at hm;subst ho;show E5 (ef G op) (bp op) (mE G.mono a) (mE G.mono b) (sE a G _ O) (sE b G _ hb) hm
 |.and es,C,X,G,e,h=>by
  calc iI e h λo xs _ h=>?_;replace h:=bX h;let⟨ho,h⟩:=h;let⟨ho,L⟩:=bX ho
  cases of_decide_eq_true ho
  show sAnds es G _ _ h (by intro z;rw[z]at L;cases L)
 |.or es,C,X,G,e,h=>by
  calc iI e h λo xs _ h=>?_;replace h:=bX h;let⟨ho,h⟩:=h;let⟨ho,L⟩:=bX ho
  cases of_decide_eq_true ho
  show sOrs es G _ _ h (by intro z;rw[z]at L;cases L)
 |.not a,C,X,G,e,h=>by
  calc jy e h λo x _ h=>?_;replace h:=bX h;let⟨ho,h⟩:=h
  cases of_decide_eq_true ho
  show Ef (mE G.mono a) (sE a G _ h)
 |.ite c a b,C,X,G,e,h=>by calc Ez e h λt x y _ h=>?_;simp only[D0]at h;show FI (mT G.mono c) (mE G.mono a) (mE G.mono b) (sT c G _ h.1.1) (sE a G _ h.1.2) (sE b G _ h.2)
 |.tup es,C,X,G,e,h=>by calc cW e h λxs _ _ h=>?_;show E7 (mA G.mono es) (sA es G _ h)
 |.lst es,C,X,G,e,h=>by calc FS e h λxs _ h=>?_;show E8 (mA G.mono es) (sA es G _ h)
 |.ix a b,C,X,G,e,h=>by calc bC e h λx y _ h=>?_;simp only[D0]at h;show B3 (GM (by let:=G.units;lia)) sF (mE G.mono a) (mE G.mono b) (sE a G _ h.1.2) (sE b G _ h.2) (qH h.1.1)
 |.sl a lo hi,C,X,G,e,h=>by calc jSl e h λx l u s p pos h=>?_;calc jon s h fun  h=>?_;simp only[D0]at h;show FJ (mE G.mono a) (mO G.mono lo) (mO G.mono hi) (sE a G _ h.1.1) (sO lo G _ h.1.2) (sO hi G _ h.2)
 |.step a lo st,C,X,G,e,h=>by calc jSl e h λx l u s p pos h=>?_;calc jon u h fun  h=>?_;calc jos s h λs h=>?_;simp only[D0]at h;show Cp (mE G.mono a) (mO G.mono lo) (gJ (mE G.mono st)) (sE a G _ h.1.1) (sO lo G _ h.1.2) (sH (mE G.mono st) (sE st G _ h.2))
 |.call f es,C,X,G,e,h=>by
  calc dD e h λx xs p pos h=>?_;simp only[D0,decide_eq_true_eq,Nv]at h;let hA:=sA es G _ h.2;let J:=gX h.2
  cases xs with
  |nil=>
   cases es with
   |nil=>show Ad G h.1.1.1 (G.gl h.1.1.2) h.1.2
   |cons _ _=>simp[okEs]at h
  |cons y ys=>simp only[NR,D0]at J;show CD G (mA G.mono es) h.1.1.1 (G.gl h.1.1.2) h.1.2 hA (ak J.1) (jz J.2)
 |.blt f es,C,X,G,e,h=>by
  calc dD e h λx xs p pos h=>?_;simp only[D0,decide_eq_true_eq,Nv]at h;let hA:=sA es G _ h.2;let J:=gX h.2;let⟨⟨⟨rfl,F3⟩,L⟩,_⟩:=h
  cases xs with
  |nil=>simp at L
  |cons y ys=>simp only[NR,D0]at J;show EH G (mA G.mono es) (G.gl F3) hA (ak J.1) (jz J.2)
 |.chain op op' a b c,C,X,G,e,h=>by calc gd e h λl os rs pos h=>?_;calc cX os h λo o' h=>?_;calc cX rs h λr q h=>?_;simp only[D0,decide_eq_true_eq,Nv]at h;let⟨⟨⟨⟨⟨rfl,rfl⟩,O⟩,hb⟩,hc⟩,hm⟩:=h;show zQ (ef G op) (ef G op') (bp op) (bp op') (mE G.mono a) (mE G.mono b) (mE G.mono c) (sE a G _ O) (sE b G _ hb) (sE c G _ hc) hm
 |.dnew t,C,X,G,e,h=>by calc Bd e h λks vs _ h=>?_;calc fe ks h fun  h=>?_;calc fe vs h fun  h=>?_;show Cd
 |.dnewN,C,X,G,e,h=>by calc Bd e h λks vs _ h=>?_;calc fe ks h fun  h=>?_;calc fe vs h fun  h=>?_;show A2
 |.ixN a b,C,X,G,e,h=>by calc bC e h λx y _ h=>?_;simp only[D0]at h;show B3 (GP (by let:=G.units;lia)) qA (mE G.mono a) (mE G.mono b) (sE a G _ h.1.2) (sE b G _ h.2) (qH h.1.1)
 |.minD a,C,X,G,e,h=>by calc uW e h λf xs ks pos h=>?_;calc dS f h λx p h=>?_;calc cw xs h λw h=>?_;calc cw ks h λq h=>?_;let⟨qa,qv,qp⟩:=q;calc eT qv h λc j np h=>?_;simp only[D0,decide_eq_true_eq]at h;let⟨⟨⟨⟨⟨rfl,F3⟩,J⟩,rfl⟩,rfl⟩,O⟩:=h;show Cw (by let:=G.units;lia) G.calm (mE G.mono a) (br (mE G.mono a) ay (sE a G _ O) cR (ak J)) (G.gl F3) (G.mgB _ (·)) (by rw[ak J];rfl) (by rw[ak J];rfl)
 |.sdef o k' x,C,X,G,e,h=>by
  calc oF e h λy n xs ap cp h=>?_;calc cX xs h λe1 e2 h=>?_;simp only[D0,decide_eq_true_eq]at h;let⟨⟨⟨⟨⟨⟨⟨rfl,Z⟩,hl⟩,Jc⟩,Ja⟩,ho⟩,hk⟩,hx⟩:=h;let st:LV [e1,e2] X.env=[(WY,eval e1 X.env),(WY,eval e2 X.env)]:=by rw[ak Jc,ak Ja];rfl
  refine Cz (by let:=G.units;lia) (mE G.mono o) (mE G.mono k') (mE G.mono x) (sE o G _ ho) (sE k' G _ hk) (sE x G _ hx) ⟨gf Z,?_,hl,?_⟩
  ·rw[st];rfl
  ·rw[st];rfl
 |.isin2 a T U,C,X,G,e,h=>by calc dD e h λx xs p pos h=>?_;calc cX xs h λy w h=>?_;calc cW w h λws k1 p1 h=>?_;calc cX ws h λz' v' h=>?_;calc dS z' h λz p2 h=>?_;calc dS v' h λv p3 h=>?_;simp only[D0,decide_eq_true_eq]at h;let⟨⟨⟨⟨⟨⟨⟨⟨⟨rfl,F3⟩,Jb⟩,Jd⟩,hz⟩,hy⟩,hT⟩,hU⟩,hs⟩,O⟩:=h;let⟨n1,n2,n3,n4⟩:=jA G T hT;let⟨m1,m2,m3,m4⟩:=jA G U hU;subst hz hy;show zW hT hU (mE G.mono a) (sE a G _ O) (G.gl F3) (G.mgB _ (·)) (G.gl Jb) n1 n2 n3 n4 (G.gl Jd) m1 m2 m3 m4 (ak hs)
 |.isin a T,C,X,G,e,h=>by calc dD e h λx xs p pos h=>?_;calc cX xs h λy w h=>?_;calc dS w h λz p2 h=>?_;simp only[D0,decide_eq_true_eq]at h;let⟨⟨⟨⟨⟨⟨rfl,F3⟩,Jb⟩,hz⟩,hT⟩,hs⟩,O⟩:=h;let⟨n1,n2,n3,n4⟩:=jA G T hT;subst hz;show C2 hT (mE G.mono a) (sE a G _ O) (G.gl F3) (G.mgB _ (·)) (G.gl Jb) n1 n2 n3 n4 (ak hs) rfl
 |.meth m o a,C,X,G,e,h=>by
  calc oF e h λx n xs ap cp h=>?_;calc cw xs h λy h=>?_;simp only[D0,decide_eq_true_eq]at h;let⟨⟨⟨⟨⟨hn,Z⟩,hl⟩,hs⟩,ho⟩,O⟩:=h;subst hn;let pa:PA X [y] (lA X.K (au (wE Φ a) aY)):=br (mE G.mono a) ay (sE a G _ O) cR (ak hs);let few:((Po cp (LV [y] X.env)).all (λx=>!x.1)&&(Wd cp (TM [] X.env)).all (λx=>x.1.isSome)&&decide (([y]:List Expr).length+([]:List Rz).length+(if([]:List Rz).isEmpty then 0 else 1)<30))=WX:=by rw[ak hs];rfl
  cases m with
  |append=>show PE.imp (AX SX PySem.F.slot_list_append PySem.F.type_list_append mG (sE o G _ ho) pa (gf Z) few hl (ak hs) rfl) (sL j6 (mE G.mono o) (aw (mE G.mono a) ay) zy)
 |.ins o i a,C,X,G,e,h=>by
  calc oF e h λx n xs ap cp h=>?_;calc cX xs h λy z h=>?_;simp only[D0,decide_eq_true_eq]at h;let⟨⟨⟨⟨⟨⟨⟨hn,Z⟩,hl⟩,hs⟩,Ja⟩,ho⟩,hi⟩,O⟩:=h;subst hn;let pa:PA X [y,z] (lA X.K (au (wE Φ i) (au (wE Φ a) aY))):=br (mE G.mono i) (aw (mE G.mono a) ay) (sE i G _ hi) (br (mE G.mono a) ay (sE a G _ O) cR (ak Ja)) (ak hs);let few:((Po cp (LV [y,z] X.env)).all (λx=>!x.1)&&(Wd cp (TM [] X.env)).all (λx=>x.1.isSome)&&decide (([y,z]:List Expr).length+([]:List Rz).length+(if([]:List Rz).isEmpty then 0 else 1)<30))=WX:=by rw[ak hs,ak Ja];rfl
  show PE.imp (AX SX SF PySem.F.type_list_insert xt (sE o G _ ho) pa (gf Z) few hl (ak hs) (by rw[ak Ja];rfl)) (sL ja (mE G.mono o) (aw (mE G.mono i) (aw (mE G.mono a) ay)) zZ)
 |.comp fr N' c,C,X,G,e,h=>by
  calc xP e h λelt gens sc pos h=>?_;simp only[D0]at h;let B:bm sc X.env.scope X.N N' fr:=by rw[G.sc,G.N];show kN h.1
  let B':bm sc C.sc C.N N' fr:=kN h.1
  cases c with
  |last src g ifs m=>
   let h2:=h.2;simp only[okC]at h2
   split at h2
   ·rename_i t it fs a;simp only[D0,decide_eq_true_eq]at h2;let⟨⟨⟨⟨rfl,hi⟩,F3⟩,ht⟩,he⟩:=h2;refine PE.imp (j4 G.calm G.hx B (λg' z=>by simp at z) (sI src G _ t hi).1 (λs H fp=>sG (G.blk B' s H fp) g t F3) (tb:=λp=>lC X.K p (aX (wTl Φ ifs) (bv (wE Φ m)))) (λs H fp p=>?_) (sI src G _ t hi).2) (eO (mI G.mono src) (aV (bI (mE G.mono m)) (mTl G.mono ifs)))
    let G':=G.blk B' s H fp;show eg (p:=p) G' (bI (mE G.mono m)) (mTl G.mono ifs) (PB.imp (lf G'.hx (sE m G' elt he) rfl) (gN (mE G.mono m))) (sTl ifs G' fs ht)
   ·cases h2
  |more src g ifs rest=>
   let h2:=h.2;simp only[okC]at h2
   split at h2
   ·rename_i t it fs a g2 gs;simp only[D0,decide_eq_true_eq]at h2;let⟨⟨⟨⟨rfl,hi⟩,F3⟩,ht⟩,he⟩:=h2;let Je:∀g',(g2::gs)[0]?=S g'->g'.is_async=0:=fun g' z=>by
     let z':g2=g':=by simpa using z
     subst z';show gY he
    calc PE.imp (j4 G.calm G.hx B Je (sI src G _ t hi).1 (λs H fp=>sG (G.blk B' s H fp) g t F3) (tb:=λp=>lC X.K p (aX (wTl Φ ifs) (wCl Φ rest))) (λs H fp p=>?_) (sI src G _ t hi).2) (eO (mI G.mono src) (aV (mCl G.mono rest) (mTl G.mono ifs)));let G':=G.blk B' s H fp;show eg (p:=p) G' (mCl G.mono rest) (mTl G.mono ifs) (sCl rest G' elt (⟨t,it,fs,0⟩::g2::gs) sc pos 0 (.inl rfl) p he) (sTl ifs G' fs ht)
   ·cases h2
theorem sA:∀(m:MEs) {C:Ctx} {X:Cx} (G:Good C Φ k X) (es:List Expr),okEs m C es=WX->PA X es (lA X.K (wA Φ m))
 |.nil,C,X,G,es,h=>by simp[okEs]at h;subst h;show cR
 |.cons m r,C,X,G,[],h=>by simp[okEs]at h
 |.cons m r,C,X,G,e::es,h=>by simp only[okEs,D0]at h;show br (mE G.mono m) (mA G.mono r) (sE m G e h.1.2) (sA r G es h.2) (ak h.1.1)
theorem sAnds:∀(m:MEs) {C:Ctx} {X:Cx} (G:Good C Φ k X) (es:List Expr) (pos:Pos),okEs m C es=WX->es≠[]->PE X (.BoolOp .And es pos) (lE X.K (wAnds Φ m))
 |.nil,C,X,G,es,pos,h,j=>by simp[okEs]at h;show absurd h j
 |.cons m r,C,X,G,[],pos,h,j=>absurd rfl j
 |.cons m .nil,C,X,G,e::es,pos,h,_=>by simp only[okEs,D0]at h;let⟨h1,h2⟩:=h;simp at h2;subst h2;show wy (sE m G e h1.2)
 |.cons m (.cons m2 r),C,X,G,e::es,pos,h,_=>by
  simp only[okEs,D0]at h;let⟨h1,h2⟩:=h
  cases es with
  |nil=>simp at h2
  |cons f fs=>show Ee (mE G.mono m) (mAnds G.mono _) (sE m G e h1.2) (sAnds (.cons m2 r) G (f::fs) pos (by simpa only[okEs,D0]using h2) (_))
theorem sOrs:∀(m:MEs) {C:Ctx} {X:Cx} (G:Good C Φ k X) (es:List Expr) (pos:Pos),okEs m C es=WX->es≠[]->PE X (.BoolOp .Or es pos) (lE X.K (wOrs Φ m))
 |.nil,C,X,G,es,pos,h,j=>by simp[okEs]at h;show absurd h j
 |.cons m r,C,X,G,[],pos,h,j=>absurd rfl j
 |.cons m .nil,C,X,G,e::es,pos,h,_=>by simp only[okEs,D0]at h;let⟨h1,h2⟩:=h;simp at h2;subst h2;show wy (sE m G e h1.2)
 |.cons m (.cons m2 r),C,X,G,e::es,pos,h,_=>by
  simp only[okEs,D0]at h;let⟨h1,h2⟩:=h
  cases es with
  |nil=>simp at h2
  |cons f fs=>show FH (mE G.mono m) (mOrs G.mono _) (sE m G e h1.2) (sOrs (.cons m2 r) G (f::fs) pos (by simpa only[okEs,D0]using h2) (_))
theorem sO:∀(m:MO) {C:Ctx} {X:Cx} (G:Good C Φ k X) (e:Option Expr),okO m C e=WX->PO X e (lO X.K (wO Φ m))
 |.none,C,X,G,e,h=>by simp[okO]at h;subst h;show C0
 |.some m,C,X,G,Y,h=>by simp[okO]at h
 |.some m,C,X,G,S e,h=>by simp only[okO]at h;show sH (mE G.mono m) (sE m G e h)
theorem sT:∀(m:MT) {C:Ctx} {X:Cx} (G:Good C Φ k X) (e:Expr),okT m C e=WX->PT X e (lT X.K (wT Φ m))
 |.tru m,C,X,G,e,h=>by simp only[okT,D0]at h;show Ea (mE G.mono m) (sE m G e h.2) (v9 h.1)
 |.cmp op a b,C,X,G,e,h=>by calc gd e h λl os rs pos h=>?_;calc cw os h λo h=>?_;calc cw rs h λr h=>?_;simp only[D0,decide_eq_true_eq]at h;let⟨⟨⟨ho,B⟩,F⟩,hm⟩:=h;rw[Nv]at hm;subst ho;show E6 (ef G op) (bp op) (mE G.mono a) (mE G.mono b) (sE a G _ B) (sE b G _ F) hm
 |.chain op op' a b c,C,X,G,e,h=>by calc gd e h λl os rs pos h=>?_;calc cX os h λo o' h=>?_;calc cX rs h λr q h=>?_;simp only[D0,decide_eq_true_eq,Nv]at h;let⟨⟨⟨⟨⟨rfl,rfl⟩,B⟩,F⟩,J⟩,hm⟩:=h;show zR (ef G op) (ef G op') (bp op) (bp op') (mE G.mono a) (mE G.mono b) (mE G.mono c) (sE a G _ B) (sE b G _ F) (sE c G _ J) hm
 |.and ts,C,X,G,e,h=>by
  calc iI e h λo xs _ h=>?_;replace h:=bX h;let⟨ho,h⟩:=h;let⟨ho,j⟩:=bX ho
  cases of_decide_eq_true ho
  show(sAndTs ts G _ _ h (by intro z;rw[z]at j;cases j)).pt
 |.or ts,C,X,G,e,h=>by
  calc iI e h λo xs _ h=>?_;replace h:=bX h;let⟨ho,h⟩:=h;let⟨ho,j⟩:=bX ho
  cases of_decide_eq_true ho
  show(sOrTs ts G _ _ h (by intro z;rw[z]at j;cases j)).pt
 |.not t,C,X,G,e,h=>by
  calc jy e h λo x _ h=>?_;replace h:=bX h;let⟨ho,h⟩:=h
  cases of_decide_eq_true ho
  show Eb (mT G.mono t) (sT t G _ h)
theorem sAndTs:∀(m:MTs) {C:Ctx} {X:Cx} (G:Good C Φ k X) (es:List Expr) (pos:Pos),okTs m C es=WX->es≠[]->PW X (.BoolOp .And es pos) (lT X.K (wAndTs Φ m))
 |.nil,C,X,G,es,pos,h,j=>by simp[okTs]at h;show absurd h j
 |.cons m r,C,X,G,[],pos,h,j=>absurd rfl j
 |.cons m .nil,C,X,G,e::es,pos,h,_=>by simp only[okTs,D0]at h;let⟨h1,h2⟩:=h;simp at h2;subst h2;show BY (sT m G e h1)
 |.cons m (.cons m2 r),C,X,G,e::es,pos,h,_=>by
  simp only[okTs,D0]at h;let⟨h1,h2⟩:=h
  cases es with
  |nil=>simp at h2
  |cons f fs=>show Ed (mT G.mono m) (mAndTs G.mono _) (sT m G e h1) (sAndTs (.cons m2 r) G (f::fs) pos (by simpa only[okTs,D0]using h2) (_))
theorem sOrTs:∀(m:MTs) {C:Ctx} {X:Cx} (G:Good C Φ k X) (es:List Expr) (pos:Pos),okTs m C es=WX->es≠[]->PW X (.BoolOp .Or es pos) (lT X.K (wOrTs Φ m))
 |.nil,C,X,G,es,pos,h,j=>by simp[okTs]at h;show absurd h j
 |.cons m r,C,X,G,[],pos,h,j=>absurd rfl j
 |.cons m .nil,C,X,G,e::es,pos,h,_=>by simp only[okTs,D0]at h;let⟨h1,h2⟩:=h;simp at h2;subst h2;show Ec (sT m G e h1)
 |.cons m (.cons m2 r),C,X,G,e::es,pos,h,_=>by
  simp only[okTs,D0]at h;let⟨h1,h2⟩:=h
  cases es with
  |nil=>simp at h2
  |cons f fs=>show FG (mT G.mono m) (mOrTs G.mono _) (sT m G e h1) (sOrTs (.cons m2 r) G (f::fs) pos (by simpa only[okTs,D0]using h2) (_))
theorem sTl:∀(m:MTs) {C:Ctx} {X:Cx} (G:Good C Φ k X) (es:List Expr),okTs m C es=WX->N6 (λc t=>PT X c t) es ((wTl Φ m).map (lT X.K))
 |.nil,C,X,G,es,h=>by simp[okTs]at h;subst h;show .nil
 |.cons m r,C,X,G,[],h=>by simp[okTs]at h
 |.cons m r,C,X,G,e::es,h=>by simp only[okTs,D0]at h;show .cons (sT m G e h.1) (sTl r G es h.2)
theorem sI:∀(m:MI) {C:Ctx} {X:Cx} (G:Good C Φ k X) (e tg:Expr),okI m C tg e=WX->PI X tg e (lI X.K (wI Φ m))/\∀x,Om e X.env x=pure x
 |.seq m,C,X,G,e,tg,h=>by simp only[okI,D0]at h;show⟨Ej (mE G.mono m) (sE m G e h.2),xS h.1⟩
 |.rng1 a,C,X,G,e,tg,h=>by calc dD e h λx xs p pos h=>?_;calc cw xs h λy h=>?_;simp only[D0,decide_eq_true_eq]at h;let⟨⟨⟨rfl,B⟩,hs⟩,q⟩:=h;show⟨C5 (aw (mE G.mono a) ay) (G.gl B) (G.mgB _ (·)) (br (mE G.mono a) ay (sE a G _ q) cR (ak hs)) (ak hs),λx=>rfl⟩
 |.rng2 a b,C,X,G,e,tg,h=>by calc dD e h λx xs p pos h=>?_;calc cX xs h λy z h=>?_;simp only[D0,decide_eq_true_eq]at h;let⟨⟨⟨⟨⟨rfl,B⟩,hs⟩,j⟩,q⟩,F⟩:=h;show⟨C6 (aw (mE G.mono a) (aw (mE G.mono b) ay)) (G.gl B) (G.mgB _ (·)) (br (mE G.mono a) (aw (mE G.mono b) ay) (sE a G _ q) (br (mE G.mono b) ay (sE b G _ F) cR (ak j)) (ak hs)) (by rw[ak hs,ak j];rfl) (ak j),λx=>rfl⟩
 |.enum a,C,X,G,e,tg,h=>by calc dD e h λx xs p pos h=>?_;calc cw xs h λy h=>?_;calc cW tg h λts kt pt h=>?_;simp only[D0,decide_eq_true_eq]at h;let⟨⟨⟨rfl,B⟩,hs⟩,q⟩:=h;show⟨C7 (mE G.mono a) (G.gl B) (G.mgB _ (·)) (br (mE G.mono a) ay (sE a G _ q) cR (ak hs)) (ak hs),λx=>rfl⟩
 |.itemsN a,C,X,G,e,tg,h=>by calc oF e h λx n xs ap cp h=>?_;calc fe xs h fun  h=>?_;calc cW tg h λts kt pt h=>?_;simp only[D0,decide_eq_true_eq]at h;let⟨⟨⟨rfl,J⟩,L⟩,q⟩:=h;show⟨xK (mE G.mono a) (sE a G _ q) (gf J) L,λx=>rfl⟩
 |.zip a b,C,X,G,e,tg,h=>by calc dD e h λx xs p pos h=>?_;calc cX xs h λy z h=>?_;calc cW tg h λts kt pt h=>?_;simp only[D0,decide_eq_true_eq]at h;let⟨⟨⟨⟨⟨rfl,B⟩,hs⟩,j⟩,q⟩,F⟩:=h;show⟨El (mE G.mono a) (mE G.mono b) (G.gl B) (G.mgB _ (·)) (br (mE G.mono a) (aw (mE G.mono b) ay) (sE a G _ q) (br (mE G.mono b) ay (sE b G _ F) cR (ak j)) (ak hs)) (by rw[ak hs,ak j];rfl) (ak j),λx=>rfl⟩
theorem sCl:∀(m:MC) {C:Ctx} {X:Cx} (G:Good C Φ k X) (elt:Expr) (gens:List MZ) (sc:Scope) (pos:Pos) (d:Nat) (_:d=0∨d=d) (p:WZ),okC m C C (gens.drop (d+1)) elt=WX->
 PB X (bj elt gens sc pos d (.ref p) X.env) (lC X.K p (wCl Φ m))
 |.last src g ifs m,C,X,G,elt,gens,sc,pos,d,_,p,h=>by
  simp only[okC]at h
  split at h
  ·rename_i t it fs a hd;simp only[D0,decide_eq_true_eq]at h;let⟨⟨⟨⟨rfl,hi⟩,j⟩,ht⟩,he⟩:=h;let e1:gens[d+1]?=S ⟨t,it,fs,0⟩:=by
    let z:(gens.drop (d+1))[0]?=S ⟨t,it,fs,0⟩:=by rw[hd];rfl
    rw[Qx]at z;simpa using z
   let e2:gens[d+1+1]?=Y:=by
    let z:(gens.drop (d+1))[1]?=Y:=by rw[hd];rfl
    rw[Qx]at z;simpa using z
   refine PB.imp (mM G.hx G.calm e1 (λg' z=>by rw[e2]at z;cases z) (sI src G _ t hi).1 (sG G g t j) (eg (p:=p) G (bI (mE G.mono m)) (mTl G.mono ifs) (PB.imp (lf G.hx (sE m G elt he) e2) (gN (mE G.mono m))) (sTl ifs G fs ht)) (sI src G _ t hi).2) (j8 (mI G.mono src) (aV (bI (mE G.mono m)) (mTl G.mono ifs)))
  ·cases h
 |.more src g ifs rest,C,X,G,elt,gens,sc,pos,d,_,p,h=>by
  simp only[okC]at h
  split at h
  ·rename_i t it fs a g2 gs hd;simp only[D0,decide_eq_true_eq]at h;let⟨⟨⟨⟨rfl,hi⟩,j⟩,ht⟩,he⟩:=h;let e1:gens[d+1]?=S ⟨t,it,fs,0⟩:=by
    let z:(gens.drop (d+1))[0]?=S ⟨t,it,fs,0⟩:=by rw[hd];rfl
    rw[Qx]at z;simpa using z
   let e2:gens[d+1+1]?=S g2:=by
    let z:(gens.drop (d+1))[1]?=S g2:=by rw[hd];rfl
    rw[Qx]at z;simpa using z
   let B:gens.drop (d+1+1)=g2::gs:=by
    let z:(gens.drop (d+1)).drop 1=g2::gs:=by rw[hd];rfl
    rw[QM]at z;simpa using z
   let q:∀g',gens[d+1+1]?=S g'->g'.is_async=0:=λg' z=>by rw[e2]at z;cases z;show gY he
   refine PB.imp (mM G.hx G.calm e1 q (sI src G _ t hi).1 (sG G g t j) (eg (p:=p) G (mCl G.mono rest) (mTl G.mono ifs) (sCl rest G elt gens sc pos (d+1) (.inr rfl) p (by rw[B];show he)) (sTl ifs G fs ht)) (sI src G _ t hi).2) (j8 (mI G.mono src) (aV (mCl G.mono rest) (mTl G.mono ifs)))
  ·cases h
end
end
end
variable{p2:Pos}
section
section
variable{Φ:Phi}{k:Nat}{C:Ctx}{X:Cx}
set_option tactic.hygienic false
def Ae{ts vs:List Expr}{kk j:Nat}{pp:Pos}(hs:env.scope=sc)(q:sc.kind=.function)(h:v5 sc ts vs=WX):NP [.Tuple ts kk pp] (.Tuple vs j p2) env=pure Y:=by
 let z:env.blockKind=.function:=by unfold SG;rw[hs,q];rfl
 let h':v5 sc ts vs=WX:=h;unfold NP;dsimp only;rw[z]
 by_cases c1:(!(ts.length==2 || ts.length==3) || vs.length != ts.length)=WX
 ·simp only[c1,Bool.true_or,if_true]
 ·simp only[R3]at c1;rw[c1];simp only[Rc,bne_self_eq_false,Ml,if_false]
  split
  ·rfl
  ·
    generalize B:List.filterMap _ ts=L;obtain rfl:L=be sc ts:=by
     rw[<-B];unfold be;congr 1
     funext x
     cases x<;>first|rfl|(unfold UO;rw[hs])
    unfold v5 at h';rw[c1]at h';simp only[Rc,Tt]at h'
    by_cases c3:((be sc ts).length != ts.length || (be sc ts).eraseDups.length != (be sc ts).length)=WX
    ·rw[if_pos c3]
    ·rw[if_neg c3];let F:vs.all (Uv 8)=WX:=by
      rcases h' with h'|h'
      ·show absurd (Tt _ _ |>.mpr h') c3
      ·show h'
     rw[if_pos F]
set_option tactic.hygienic true
def CF{ts vs:List Expr}{ns:List Str}{kk j:Nat}{pp:Pos}(hs:env.scope=sc)(q:sc.kind=.function)(h:v7 sc ts vs ns=WX):NP [.Tuple ts kk pp] (.Tuple vs j p2) env=pure (S ns):=by
 let B:env.blockKind=.function:=by unfold SG;rw[hs,q];rfl
 simp only[v7,D0,Nv,decide_eq_true_eq]at h;let⟨⟨⟨⟨⟨F,G⟩,J⟩,O⟩,U⟩,F3⟩:=h;unfold NP;dsimp only;rw[B,F];simp only[Rc,bne_self_eq_false,Ml,if_false]
 split
 ·next z=>show absurd z (by rw[R3];show G)
 ·generalize Z:List.filterMap _ ts=L;obtain rfl:L=be sc ts:=by
   rw[<-Z];unfold be;congr 1
   funext x
   cases x<;>first|rfl|(unfold UO;rw[hs])
  rw[O,U,F3,J];rfl
set_option tactic.hygienic false
def t9{i:Nat}(h:v6 C i x=WX):C.N[i]?=S x/\C.sc.names.lookup x=S .local:=by simpa[v6]using h
def cK{tg:Expr}{l:Nat}{b:Bool}(h:Qy e (S tg) l env=pure b):OZ [tg] e l env=pure b:=by unfold OZ;show h
def EI{j q z B:Expr}{F pt:Pos}{kt:Nat}:NP [.Tuple [.Subscript j q F,.Subscript z B p2] kt pt] e env=pure Y:=by
 cases e with
 |Tuple vs G p2=>
  unfold NP;dsimp only
  split
  ·rfl
  ·split
   ·rfl
   ·rfl
 |_=>rfl
def CG{tg:Expr}(hs:env.scope=sc)(j:sc.kind=.function)(h:Bf sc tg e=WX):NP [tg] e env=pure Y:=by
 cases tg with
 |Tuple ts kk pp=>
  cases e with
  |Tuple vs q p2=>show Ae hs j h
  |_=>rfl
 |_=>first|rfl|(cases h;done)
def qJ{elt:Expr}{gens:List MZ}{s:Scope}{px:Pos}{l:Nat}(hs:env.scope=sc)(j:sc.kind=.function):
 Qy (.ListComp elt gens s pos) (S (.Name x px)) l env=pure (v8 sc x px (.ListComp elt gens s pos)):=by
 let q:env.blockKind=.function:=by unfold SG;rw[hs,j];rfl
 unfold Qy;dsimp only;rw[q];unfold v8 UO;rw[hs];rfl
def xT{ek ev:Expr}{gens:List MZ}{s:Scope}{px:Pos}{l:Nat}(hs:env.scope=sc)(j:sc.kind=.function):
 Qy (.DictComp ek ev gens s pos) (S (.Name x px)) l env=pure (sc.names.lookup x==S .local&&px.line==(Expr.DictComp ek ev gens s pos).pos.line && !(s.names.any λ(n,k)=>n==x&&(k==.local || k==.cell))):=by
 let q:env.blockKind=.function:=by unfold SG;rw[hs,j];rfl
 unfold Qy;dsimp only;rw[q];unfold UO;rw[hs];rfl
set_option tactic.hygienic true
mutual
theorem sS:∀(m:MS) (G:Good C Φ k X) (F:C.sc.kind=.function) (s:Stmt),okS m C s=WX->PS X s (lS X.K (wS Φ m))
 |.asg g m,G,F,s,h=>by
  calc eK s h λts e pos h1=>?_;clear h;calc cw ts h1 λtg h=>?_;clear h1;simp only[D0]at h;let⟨⟨⟨J,he⟩,Z⟩,O⟩:=h;let hw:=CG G.sc F Z;let pg:=sG G g tg J;let plain:OZ [tg] e pos.line X.env=pure WY->PS X (.Assign [tg] e pos) (lS X.K (lu (wE Φ m) (bG g))):=λhs=>PS.imp (jP (sE m G e he) pg hs hw (by cases tg<;>first|rfl|(cases Z;done))) (zK (mE G.mono m))
  cases tg with
  |Tuple ts a b=>show plain (cK (fG O))
  |Name x px=>
   cases e with
   |ListComp elt gens sc cpos=>
    by_cases sw:v8 C.sc x px (.ListComp elt gens sc cpos)=WX
    ·cases g with
     |tup gs=>show absurd J Lq
     |name i=>
      cases m with
      |comp fr N' c=>
       replace he:=bX he;let B:bm sc X.env.scope X.N N' fr:=by rw[G.sc,G.N];show kN he.1
       let B':bm sc C.sc C.N N' fr:=kN he.1;let Ja:PG X (.Name x px) (jN i):=by let J:=bX J;let J:=R0 (bX J.1) J.2;show sj G.nd (by rw[G.N];show of_decide_eq_true J.1.1) (G.loc J.1.2) (G.own J.2)
       let Jb:∀l,Qy (.ListComp elt gens sc cpos) (S (.Name x px)) l X.env=pure WX:=λl=>by rw[qJ G.sc F,sw]
       let mc:=mCmp G.mono fr c
       cases c with
       |last src g ifs m=>
        let h2:=he.2;simp only[okC]at h2
        split at h2
        ·rename_i t it fs a;simp only[D0,decide_eq_true_eq]at h2;let⟨⟨⟨⟨rfl,hi⟩,F3⟩,ht⟩,U⟩:=h2;refine PS.imp (ka (i:=i) (g:=lG X.K (bG g)) (wi:=lI X.K (wI Φ src)) G.calm G.hx B (λg' z=>by simp at z) (sI src G _ t hi).1 (λs H fp=>sG (G.blk B' s H fp) g t F3) (tb:=λp=>lC X.K p (aX (wTl Φ ifs) (bv (wE Φ m)))) (λs H fp p=>?_) (sI src G _ t hi).2 Ja (Jb _)) λD σ H h=>?_
         ·let G':=G.blk B' s H fp;show eg (p:=p) G' (bI (mE G.mono m)) (mTl G.mono ifs) (PB.imp (lf G'.hx (sE m G' elt U) rfl) (gN (mE G.mono m))) (sTl ifs G' fs ht)
         ·show eO (mI G.mono src) (aV (bI (mE G.mono m)) (mTl G.mono ifs)) σ H _ (n6 mc D σ H h)
        ·cases h2
       |more src g ifs rest=>
        let h2:=he.2;simp only[okC]at h2
        split at h2
        ·rename_i t it fs a g2 gs;simp only[D0,decide_eq_true_eq]at h2;let⟨⟨⟨⟨rfl,hi⟩,F3⟩,ht⟩,U⟩:=h2;let Jd:∀g',(g2::gs)[0]?=S g'->g'.is_async=0:=fun g' z=>by
          let z':g2=g':=by simpa using z
          subst z';show gY U
         refine PS.imp (ka (i:=i) (g:=lG X.K (bG g)) (wi:=lI X.K (wI Φ src)) G.calm G.hx B Jd (sI src G _ t hi).1 (λs H fp=>sG (G.blk B' s H fp) g t F3) (tb:=λp=>lC X.K p (aX (wTl Φ ifs) (wCl Φ rest))) (λs H fp p=>?_) (sI src G _ t hi).2 Ja (Jb _)) λD σ H h=>?_
         ·let G':=G.blk B' s H fp;show eg (p:=p) G' (mCl G.mono rest) (mTl G.mono ifs) (sCl rest G' elt (⟨t,it,fs,0⟩::g2::gs) sc cpos 0 (.inl rfl) p U) (sTl ifs G' fs ht)
         ·show eO (mI G.mono src) (aV (mCl G.mono rest) (mTl G.mono ifs)) σ H _ (n6 mc D σ H h)
        ·cases h2
      |_=>show absurd he Lq
    ·calc plain ?_;simp only[R3]at sw;calc cK ?_;rw[qJ G.sc F,sw]
   |SetComp _ _ _ _=>cases m<;>show absurd he Lq
   |DictComp _ _ _ _ _=>calc plain (cK ?_);rw[xT G.sc F];unfold EF at O;simp only[Nv]at O;rw[O]
   |_=>show plain (cK rfl)
  |_=>cases Z
 |.par i j a b,G,F,s,h=>by calc eK s h λts e pos h=>?_;calc cw ts h λtg h=>?_;calc cW tg h λts k p h=>?_;calc cW e h λes k' p' h=>?_;calc cX ts h λt u h=>?_;calc cX es h λe f h=>?_;calc dS t h λx px h=>?_;calc dS u h λy py h=>?_;simp only[D0,decide_eq_true_eq]at h;let⟨⟨⟨⟨⟨⟨⟨hi,hj⟩,Je⟩,n1⟩,n2⟩,Z⟩,hb⟩,hw⟩:=h;let⟨i1,i2⟩:=t9 hi;let⟨j1,j2⟩:=t9 hj;show PS.imp (DI G.calm G.nd (by rw[G.N];show i1) (by rw[G.N];show j1) Je (by rw[G.sc];show i2) (by rw[G.sc];show j2) (br (mE G.mono a) (aw (mE G.mono b) ay) (sE a G _ Z) (br (mE G.mono b) ay (sE b G _ hb) cR (ak n2)) (ak n1)) (CF G.sc F hw) (cK rfl)) (wQ (aw (mE G.mono a) (aw (mE G.mono b) ay)))
 |.put2 o i o' i' m,G,F,s,h=>by calc eK s h λts e pos h=>?_;calc cw ts h λtg h=>?_;calc cW tg h λts k p h=>?_;calc cX ts h λt u h=>?_;calc bC t h λx y tp h=>?_;calc bC u h λx' y' tp' h=>?_;simp only[D0]at h;let⟨⟨⟨⟨⟨⟨⟨L,Jc⟩,O⟩,ho⟩,hi⟩,Jf⟩,Jg⟩,he⟩:=h;show Cu G.calm (by let:=G.units;lia) (mE G.mono m) (mE G.mono o) (mE G.mono i) (mE G.mono o') (mE G.mono i') (sE m G e he) (sE o G x ho) (sE i G y hi) (sE o' G x' Jf) (sE i' G y' Jg) (cK (fG O)) EI (λv=>by cases y<;>first|rfl|(cases L;done)) (λv=>by cases y'<;>first|rfl|(simp[cJ]at Jc;done))
 |.put o i m,G,F,s,h=>by calc eK s h λts e pos h=>?_;calc cw ts h λtg h=>?_;calc bC tg h λx y tp h=>?_;simp only[D0]at h;let⟨⟨⟨⟨L,O⟩,ho⟩,hi⟩,he⟩:=h;show Eo (by let:=G.units;lia) (mE G.mono m) (mE G.mono o) (mE G.mono i) (sE m G e he) (sE o G x ho) (sE i G y hi) (cK (fG O)) rfl (λv=>by cases y<;>first|rfl|(cases L;done))
 |.drop m,G,F,s,h=>by calc EB s h λe _ h=>?_;simp only[D0]at h;show PS.imp (Bq (sE m G _ h.2) (fG h.1)) (wP (mE G.mono m))
 |.ret m,G,F,s,h=>by calc Ac s h λo _ h=>?_;calc jos o h λe h=>?_;show PS.imp (DF (sE m G _ h)) (zJ (mE G.mono m))
 |.ite c a b,G,F,s,h=>by calc GQ s h λt x y _ h=>?_;simp only[D0]at h;show PS.imp (Ff (sT c G _ h.1.1) (sSs a G F _ h.1.2) (sSs b G F _ h.2)) (C8 (mT G.mono c))
 |.for g src b,G,F,s,h=>by calc FT s h λtg it body els _ h=>?_;calc fe els h fun  h=>?_;simp only[D0]at h;let⟨⟨⟨hs,J⟩,hi⟩,hb⟩:=h;show PS.imp (DK (λe s z=>(G.hx e s z).elim) G.calm (sI src G _ _ hi).1 (sG G g _ J) (sSs b G F _ hb) (xS hs)) (zL (mI G.mono src) (mSs G.mono b))
 |.while c b,G,F,s,h=>by calc CB s h λt body els _ h=>?_;calc fe els h fun  h=>?_;simp only[D0]at h;show PS.imp (yJ (λe s z=>(G.hx e s z).elim) (sT c G _ h.1) (sSs b G F _ h.2)) (uE (mT G.mono c) (mSs G.mono b))
 |.frzN i m,G,F,s,h=>by show CA (sS m G F s h)
 |.dell o i,G,F,s,h=>by calc Ab s h λts pos h=>?_;calc cw ts h λt h=>?_;calc bC t h λx y tp h=>?_;simp only[D0]at h;show Cy (mE G.mono o) (mE G.mono i) (sE o G x h.1) (sE i G y h.2)
 |.putN o i m,G,F,s,h=>by calc eK s h λts e pos h=>?_;calc cw ts h λtg h=>?_;calc bC tg h λx y tp h=>?_;simp only[D0]at h;let⟨⟨⟨⟨L,O⟩,ho⟩,hi⟩,he⟩:=h;show Cv (by let:=G.units;lia) (mE G.mono m) (mE G.mono o) (mE G.mono i) (sE m G e he) (sE o G x ho) (sE i G y hi) (cK (fG O)) rfl (λv=>by cases y<;>first|rfl|(cases L;done))
 |.bot,G,F,s,h=>λpins s0 σ H D I g9=>(by let⟨ρ,M,A,rs,rm,l,q⟩:=g9;show q.elim)
 |.pass,G,F,s,h=>by calc ED s h λ_ h=>?_;show PS.imp Bp mZ
 |.brk,G,F,s,h=>by calc CC s h λ_ h=>?_;show PS.imp yI uD
 |.cnt,G,F,s,h=>by calc uZ s h λ_ h=>?_;show PS.imp rB wN
theorem sSs:∀(m:MSs) (G:Good C Φ k X) (j:C.sc.kind=.function) (s:List Stmt),okSs m C s=WX->PSs X s (lS X.K (wSs Φ m))
 |.nil,G,j,s,h=>by simp[okSs]at h;subst h;show PSs.imp Bo mZ
 |.cons m r,G,j,[],h=>by simp[okSs]at h
 |.cons m r,G,j,s::ss,h=>by simp only[okSs,D0]at h;show PSs.imp (yH (sS m G j s h.1) (sSs r G j ss h.2)) (zI (mS G.mono m) (mSs G.mono r))
end
end
end
variable{a:WZ}{ns:List Int}
section
set_option tactic.hygienic false
structure FD where
 name:Str
 st:Stmt
 N:List Str
 np:Nat
 body:MSs
abbrev fH(N:List Str)(ds:List D):ax:=ds.map S++LQ (N.length-ds.length) Y
abbrev phi(T:List FD):Nat->Phi
 |0=>λ_ _ _ _=>False
 |k+1=>λf ds M Q=>∃d,T[f]?=S d/\ds.length=d.np/\wSs (phi T k) d.body {nx:=λ_ M'=>Q .non M',rt:=Q} (fH d.N ds) M
def eL(T:List FD):∀k f,b8 (phi T k f)
 |0,f=>λ_ _ _ _ _ q=>q.elim
 |k+1,f=>λds M Q Q' h j=>(by let⟨d,e,l,q⟩:=j;show⟨d,e,l,mSs (eL T k) d.body {nx:=λ_ M'=>Q .non M',rt:=Q} {nx:=λ_ M'=>Q' .non M',rt:=Q'} _ _ ⟨λ_ M' q'=>h _ _ q',h,λ_ _ z=>z,λ_ _ z=>z⟩ q⟩)
abbrev va(Γ:List Str)(cs:List (Str×D))(d:FD):Bool:=
 decide ((aF d.st).kind=.function) && !(aF d.st).isCoroutine && !(aF d.st).isGenerator&&decide (d.N.Nodup)&&decide (d.np<=d.N.length)
  && (d.N.take d.np).all (λx=>(aF d.st).names.lookup x==S .local || (aF d.st).names.lookup x==S .cell)
  && (aF d.st).names.all (λy=>!(y.2==.free))&&okSs d.body ⟨Γ,d.N,aF d.st,d.N,cs⟩ (cj d.st)
def Af{Γ:List Str}{cs:List (Str×D)}{d:FD}(h:va Γ cs d=WX):ie d.N (d.N.take d.np) (aF d.st)/\(d.N.take d.np).length=d.np/\okSs d.body ⟨Γ,d.N,aF d.st,d.N,cs⟩ (cj d.st)=WX:=by
 simp only[va,D0,decide_eq_true_eq,Nv]at h;let⟨⟨⟨⟨⟨⟨⟨h1,h2⟩,q⟩,B⟩,O⟩,F⟩,G⟩,J⟩:=h;let j:(d.N.take d.np).length=d.np:=by rw[LS];lia
 refine⟨⟨h1,h2,q,B,by rw[j],λx hx=>?_,λy L e=>?_⟩,j,J⟩
 ·let z:=Ra.mp F x hx;simpa using z
 ·let z:=Ra.mp G y L;rw[e]at z;simp at z
section
variable{P:LR}{w:Mn}{K:Frag}{mg:Str->Option gV}{base:Heap}
structure Bg(K:Frag)(mg:Str->Option gV)(T:List FD)(cs:List (Str×D)):Prop where
 blt:∀x∈bltNames,mg x=Y
 fns:∀(i:Nat) (d:FD),T[i]?=S d->∃f fd,Fun K d.name d.name d.st f fd/\mg d.name=S (.ref f)/\QL K Nq d.name=S (S (.ref f))/\Binds K fd (d.N.take d.np) []
 ok:∀d∈T,va (T.map (·.name)) cs d=WX
 cst:∀x d,(x,d)∈cs->∃u,mg x=S u/\GV K d u
def xU{T:List FD}{cs:List (Str×D)}(O:Bg K mg T cs):∀(k i:Nat) (d:FD) (f:WZ) (fd:PX),T[i]?=S d->Fun K d.name d.name d.st f fd->eB P w K mg base CX0 k f fd (d.N.take d.np) (lSp K (phi T k i))
 |0,i,d,f,fd,e,F=>⟨λvs H Q E h=>by let⟨ds,M,_,_,q⟩:=h;show q.elim,λA outer s H args us vs Q E _ _ _ _ h=>by let⟨ds,M,_,_,q⟩:=h;show q.elim⟩
 |k+1,i,d,f,fd,e,F=>by
  let⟨F2,Z,hb⟩:=Af (O.ok d (LJ e));refine F.ok F2 (λvs H Q E h=>?_) λcdv A outer s H vs Q E hr h=>?_
  ·let⟨ds,M,rm,rs,d',e',l,q⟩:=h;rw[e]at e';cases e';rw[rs.length,l,Z]
  ·let⟨ds,M,rm,rs,d',e',l,q⟩:=h;rw[e]at e';cases e';let G:Good ⟨T.map (·.name),d.N,aF d.st,d.N,cs⟩ (phi T k) k ((jd CX0 P w K mg base d.N d.name (aF d.st) f cdv A outer s H E).nox):=by
    calc⟨λ_ _ z=>z,rfl,rfl,rfl,F2.nd,λ_ _=>rfl,hr,O.blt,λj x hx=>?_,eL T k,O.cst⟩;let B:(T.map (·.name))[j]?=S x:=hx;rw[Ly]at B
    cases e2:T[j]? with
    |none=>rw[e2]at B;cases B
    |some d2=>rw[e2]at B;cases B;let⟨f2,U,F3,m2,n2,b2⟩:=O.fns j d2 e2;show⟨f2,U,_,m2,n2,F3.kp,b2,xU O k j d2 f2 U e2 F3⟩
   refine⟨_,sSs d.body G F2.kind _ hb,fH d.N ds,M,{nx:=λ_ M'=>KE' K M H Q .non M',rt:=KE' K M H Q},?_,rm,⟨λρ M' σ H' x rs' rm' q'=>?_,λd M' v H' x rm' rd' q'=>q' v H' x rm' rd',λ_ _ _ _ _ _ _ z=>z,λ_ _ _ _ _ _ _ z=>z⟩,q⟩
   ·refine⟨by simp[dq,fH,rs.length],λj dd J=>?_⟩
    unfold fH at J;unfold dq
    by_cases L:j<ds.length
    ·rw[LC (by simpa using L),Ly]at J
     cases e3:ds[j]? with
     |none=>rw[e3]at J;cases J
     |some z=>rw[e3]at J;cases J;let⟨v,hv,rv⟩:=rs.get e3;calc⟨v,?_,rv⟩;rw[LC (by rw[s9,rs.length];show L),Ly,hv];rfl
    ·rw[Lo (by simpa using L),SJ]at J
     split at J<;>cases J
   ·show q' .non H' x rm' (WH.mpr rfl)
def EJ{T:List FD}{k i:Nat}{H:Hp}(B:u8 H)(F:SqL K H a (ns.map V.int))(h:phi T k i [.con (ns.map D.int)] (λ_=>Y) λd _=>d=.bl WX):
 lSp K (phi T k i) [.ref a] H (λv _=>v=.bl WX) λ_ _ _=>False:=by
 let j:RM K (λ_=>Y) H:=λ_ _ z=>by cases z
 refine⟨[.con (ns.map D.int)],λ_=>Y,j,RDs.cons (WG.mpr ⟨a,ns.map V.int,rfl,?_,WR ns⟩) RDs.nil,eL T k i [.con (ns.map D.int)] (λ_=>Y) (λd _=>d=.bl WX) (KE' K (λ_=>Y) H λv _=>v=.bl WX) (λd M' e=>λv H' x rm rd=>?_) h⟩
 ·rcases F with(z|⟨o,z⟩)|z
  ·rcases B a with q|⟨o,xs,q⟩
   ·rw[z]at q;cases q
   ·rw[z]at q;cases q
  ·show .inl ⟨o,z⟩
  ·show .inr z
 ·subst e;show WB.mp rd
end
def FU(us:List gV)(h:us.length=0):us=[]:=Mp.mp h
def bg(us:List gV)(h:us.length=1):∃a,us=[a]:=List.length_eq_one_iff.mp h
def bw(us:List gV)(h:us.length=2):∃a b,us=[a,b]:=by
 cases us with
 |nil=>cases h
 |cons a us=>let⟨b,rfl⟩:=bg us (Nat.succ.inj h);show⟨a,b,rfl⟩
def vc(us:List gV)(h:us.length=3):∃a b c,us=[a,b,c]:=by
 cases us with
 |nil=>cases h
 |cons a us=>let⟨b,c,rfl⟩:=bw us (Nat.succ.inj h);show⟨a,b,c,rfl⟩
def FV(us:List gV)(h:us.length=4):∃a b c d,us=[a,b,c,d]:=by
 cases us with
 |nil=>cases h
 |cons a us=>let⟨b,c,d,rfl⟩:=vc us (Nat.succ.inj h);show⟨a,b,c,d,rfl⟩
end
variable{i j z B:Int}{o l:List Int}{n m r fm L0 L1 L2 fn fa ft fd fl fp most cap:Nat}{s sn sa:Stmt}{d:FD}{T:List FD}{ds xs:List D}{M M' M'':Mem}{Q:QD}{ρ:ax}{Φ:Phi}{y v:D}{kvs:List (NK×D)}{N:NC}{E:bV}{c:Nat×List Int}{o0:Option D}{nss:List (List Int)}{p0:WZ}{xn xv:Str}
section
def EK{k:Nat}(e:T[f]?=S d)(l:ds.length=d.np)(r:fH d.N ds=ρ)(h:wSs (phi T k) d.body {nx:=λ_ M'=>Q .non M',rt:=Q} ρ M):phi T (k+1) f ds M Q:=⟨d,e,l,by rw[r];show h⟩
def ao(j:1<=n)(e:T[f]?=S d)(l:ds.length=d.np)(r:fH d.N ds=ρ)(h:wSs (phi T (n-1)) d.body {nx:=λ_ M'=>Q .non M',rt:=Q} ρ M):phi T n f ds M Q:=by
 obtain⟨k,rfl⟩:∃k,n=k+1:=⟨n-1,∅⟩
 show EK e l r h
def Hg{D:bV}:wSs Φ .nil D ρ M=D.nx ρ M:=by rw[wSs];rfl
def gh{s:MS}{r:MSs}{D:bV}:wSs Φ (.cons s r) D ρ M=wS Φ s {D with nx:=wSs Φ r D} ρ M:=by rw[wSs];rfl
def Hh:wIx (.tup ds) y M Q=∃i d,y=.int i/\atI ds i=S d/\Q d M:=rfl
def Hi:wIx (.con ds) y M Q=∃i d,y=.int i/\atI ds i=S d/\Q d M:=rfl
def al{d:D}(h:M a=S (.lst ds))(e:atI ds i=S d)(q:Q d M):wIx (.ref a) (.int i) M Q:=.inl ⟨ds,i,d,h,rfl,e,q⟩
def b9{j:Nat}{Q:Mem->Prop}(h:M a=S (.lst ds))(e:ixN ds.length i=S j)(q:Q (ad M a (.lst (ds.set j v)))):eP (.ref a) (.int i) v M Q:=⟨a,rfl,.inl ⟨ds,i,j,rfl,h,e,q⟩⟩
def aQ(h:M a=S (.lst ds))(q:Q (.int ds.length) M):dI [.ref a] M Q:=⟨_,_,rfl,by simp only[jl,h],q⟩
def af(h:M a=S (.lst ds)):aC M (.ref a)=S ds:=by simp only[aC,h]
def HW:jm [.int i] M Q=Q (.int i) M:=by
 apply propext;constructor
 ·rintro(⟨j,e,q⟩|⟨k,e,q⟩)
  ·cases e;show q
  ·cases e
 ·showλq=>.inl ⟨i,rfl,q⟩
def xV{b:Bool}:jm [.bl b] M Q=Q (.int (if b then 1 else 0)) M:=by
 apply propext;constructor
 ·rintro(⟨j,e,q⟩|⟨k,e,q⟩)
  ·cases e
  ·cases e;show q
 ·showλq=>.inr ⟨b,rfl,q⟩
def Bh:wEq (.int i) (.int j) M Q=Q (.bl (i==j)) M:=by simp[wEq,rb,Md]
def IX:wNe (.int i) (.int j) M Q=Q (.bl (!(i==j))) M:=by simp[wNe,rb,Md]
def HX:fT (.int i) (.int j) M Q=Q (.int (i+j)) M:=rfl
def HY{a b:List D}:fT (.tup a) (.tup b) M Q=((a≠[]∨True)/\a.length+b.length<=Ls/\Q (.tup (a++b)) M):=rfl
def HZ:jh (.int i) (.int j) M Q=Q (.int (i-j)) M:=rfl
def I0:gI (.int i) (.int j) M Q=(MulOk i j/\Q (.int (i*j)) M):=rfl
def I8{k:Int}:gI (.tup ds) (.int k) M Q=(-(2^63)<=k/\k<2^63/\ds.length*k.toNat<=Ls/\Q (.tup (LQ k.toNat ds).flatten) M):=rfl
def Hj:ki (.int i) (.int j) M Q=(0<j/\j<2^256/\Q (.int (i / j)) M):=rfl
def I9:pJ (.int i) (.int j) M Q=(0<j/\Q (.int (i%j)) M):=rfl
def Ia:pK (.int i) (.int j) M Q=(0<=j/\j<=1000000/\i.natAbs<2^64/\Q (.int (i^j.toNat)) M):=rfl
def IY:wLt (.int i) (.int j) M Q=Q (.bl (decide (i<j))) M:=rfl
def IZ:wLe (.int i) (.int j) M Q=Q (.bl (decide (i<=j))) M:=rfl
def FW:wGt (.int i) (.int j) M Q=Q (.bl (decide (j<i))) M:=rfl
def J0:wGe (.int i) (.int j) M Q=Q (.bl (decide (j<=i))) M:=rfl
def Ib:ji (.int i) M Q=Q (.int (-i)) M:=rfl
def Ic:ll [.int i] M Q=Q (.int (if i<0 then -i else i)) M:=by simp[ll]
def Hk:kj [.int i,.int j] M Q=Q (.int (if j<i then j else i)) M:=by
 apply propext;constructor
 ·rintro⟨a,b,e,q⟩;cases e;show q
 ·showλq=>⟨i,j,rfl,q⟩
def Id:dI [.con ds] M Q=Q (.int ds.length) M:=by simp[dI,jl]
def Ie:dI [.tup ds] M Q=Q (.int ds.length) M:=by simp[dI,jl]
def Ig:aC M (.tup ds)=S ds:=rfl
def Ih:aC M (.con ds)=S ds:=rfl
def J1{α:Sort _}{a b:α}:(if WX=WX then a else b)=a:=rfl
def J2{α:Sort _}{a b:α}:(if WY=WX then a else b)=b:=rfl
def Hl{tb:TEd}{R:List D->(Mem->Prop)->Mem->Prop}:ln ta tb ρ M R=ta ρ M λx j=>tb ρ j λy M2=>∃xs ys,aC M2 x=S xs/\aC M2 y=S ys/\R (OB fU xs ys) (λM=>aC M x=S xs/\aC M y=S ys) M2:=by
 unfold ln au;congr 1;funext x j;unfold aY;congr 1;funext y M2;apply propext;constructor
 ·rintro⟨x',y',xs,ys,e,q⟩
  cases e;show⟨xs,ys,q⟩
 ·rintro⟨xs,ys,q⟩;show⟨x,y,xs,ys,rfl,q⟩
def Ii{y:Str}:fT (.str x) (.str y) M Q=(x.length+y.length<=Ls/\Q (.str (x++y)) M):=rfl
def Ij{i}:wE Φ (.var i)=aP i:=rfl
def Ik{i}:wE Φ (.int i)=wC (.int i):=rfl
def J3{b}:wE Φ (.bl b)=wC (.bl b):=rfl
def Il:wE Φ (.non)=wC .non:=rfl
def Im{op}{a}{b}:wE Φ (.bin op a b)=wOp (opB op) (wE Φ a) (wE Φ b):=rfl
def Io{a}:wE Φ (.neg a)=wUn ji (wE Φ a):=rfl
def Ip{op}{a}{b}:wE Φ (.cmp op a b)=wOp (opC op) (wE Φ a) (wE Φ b):=rfl
def Iq{es}:wE Φ (.and es)=wAnds Φ es:=rfl
def J6{es}:wE Φ (.or es)=wOrs Φ es:=rfl
def Ir{a}:wE Φ (.not a)=nX (wE Φ a):=rfl
def Iu{c}{a}{b}:wE Φ (.ite c a b)=wIf (wT Φ c) (wE Φ a) (wE Φ b):=rfl
def Iv{es}:wE Φ (.tup es)=wAr pH (wA Φ es):=rfl
def Iw{es}:wE Φ (.lst es)=wAr lg (wA Φ es):=rfl
def J7{a}{b}:wE Φ (.ix a b)=wOp wIx (wE Φ a) (wE Φ b):=rfl
def J8{a}{lo}{hi}:wE Φ (.sl a lo hi)=wSl (wE Φ a) (wO Φ lo) (wO Φ hi):=rfl
def Hm{a}{lo}{j}:wE Φ (.step a lo j)=ou (wE Φ a) (wO Φ lo) (il (wE Φ j)):=rfl
def Hn{f}{es}:wE Φ (.call f es)=wAr (Φ f) (wA Φ es):=rfl
def Ix{f}{es}:wE Φ (.blt f es)=wAr (opF f) (wA Φ es):=rfl
def Ho{a}{T}:wE Φ (.isin a T)=nY T (wE Φ a):=rfl
def GR{a}{T}{U}:wE Φ (.isin2 a T U)=kH T U (wE Φ a):=rfl
def GS{op}{op'}{a}{b}{c}:wE Φ (.chain op op' a b c)=dy (opC op) (opC op') (wE Φ a) (wE Φ b) (wE Φ c):=rfl
def Hq{t}:wE Φ (.dnew t)=oj t:=rfl
def GT:wE Φ (.dnewN)=kJ:=rfl
def Iy{a}{b}:wE Φ (.ixN a b)=wOp uT (wE Φ a) (wE Φ b):=rfl
def Hr{a}:wE Φ (.minD a)=oA (wE Φ a):=rfl
def Hs{o}{k}{x}:wE Φ (.sdef o k x)=oC (wE Φ o) (wE Φ k) (wE Φ x):=rfl
def Ht{m}{o}{a}:wE Φ (.meth m o a)=wBM (opM m) (wE Φ o) (au (wE Φ a) aY):=rfl
def Iz{o}{i}{a}:wE Φ (.ins o i a)=wBM iF (wE Φ o) (au (wE Φ i) (au (wE Φ a) aY)):=rfl
def Hu{fr}{j}{c}:wE Φ (.comp fr j c)=wCmp Φ fr c:=rfl
def Hv:wA Φ (.nil)=aY:=rfl
def GU{e}{r}:wA Φ (.cons e r)=au (wE Φ e) (wA Φ r):=rfl
def GW:wTl Φ (.nil)=[]:=rfl
def Gd{t}{r}:wTl Φ (.cons t r)=wT Φ t::wTl Φ r:=rfl
def IA{e}:wI Φ (.seq e)=uu (wE Φ e):=rfl
def Hw{a}:wI Φ (.rng1 a)=nZ (au (wE Φ a) aY):=rfl
def Hx{a}{b}:wI Φ (.rng2 a b)=oa (au (wE Φ a) (au (wE Φ b) aY)):=rfl
def IB{a}{b}:wI Φ (.zip a b)=ln (wE Φ a) (wE Φ b):=rfl
def Hy{a}:wI Φ (.enum a)=og (wE Φ a):=rfl
def Gf{a}:wI Φ (.itemsN a)=iH (wE Φ a):=rfl
def Gg{src}{g}{ifs}{elt}:wCl Φ (.last src g ifs elt)=ed (wI Φ src) (bG g) (aX (wTl Φ ifs) (bv (wE Φ elt))):=rfl
def Gh{src}{g}{ifs}{rest}:wCl Φ (.more src g ifs rest)=ed (wI Φ src) (bG g) (aX (wTl Φ ifs) (wCl Φ rest)):=rfl
def FX{src}{g}{ifs}{elt}:wCmp Φ fr (.last src g ifs elt)=iq fr (wI Φ src) (bG g) (aX (wTl Φ ifs) (bv (wE Φ elt))):=rfl
def FY{src}{g}{ifs}{rest}:wCmp Φ fr (.more src g ifs rest)=iq fr (wI Φ src) (bG g) (aX (wTl Φ ifs) (wCl Φ rest)):=rfl
def IC{g}{e}:wS Φ (.asg g e)=lu (wE Φ e) (bG g):=rfl
def ID{i}{j}{a}{b}:wS Φ (.par i j a b)=uz (au (wE Φ a) (au (wE Φ b) aY)) (bW (b6 i) (bW (b6 j) gK)):=rfl
def Hz{o}{i}{o'}{i'}{e}:wS Φ (.put2 o i o' i' e)=ow (wE Φ e) (wE Φ o) (wE Φ i) (wE Φ o') (wE Φ i'):=rfl
def IE{o}{i}{e}:wS Φ (.put o i e)=uF (wE Φ e) (wE Φ o) (wE Φ i):=rfl
def HA{e}:wS Φ (.drop e)=oi (wE Φ e):=rfl
def IF{e}:wS Φ (.ret e)=uv (wE Φ e):=rfl
def IG{c}{a}{b}:wS Φ (.ite c a b)=sIf (wT Φ c) (wSs Φ a) (wSs Φ b):=rfl
def IH{g}{src}{b}:wS Φ (.for g src b)=uA (wI Φ src) (bG g) (wSs Φ b):=rfl
def GX{c}{b}:wS Φ (.while c b)=kz (wT Φ c) (wSs Φ b):=rfl
def HB{i}{s}:wS Φ (.frzN i s)=oD i (wS Φ s):=rfl
def HC{o}{i}:wS Φ (.dell o i)=oB (wE Φ o) (wE Φ i):=rfl
def HD{o}{i}{e}:wS Φ (.putN o i e)=ox (wE Φ e) (wE Φ o) (wE Φ i):=rfl
def II:wS Φ (.bot)=λ_ _ _=>False:=rfl
def HE:wS Φ (.pass)=ku:=rfl
def IJ:wS Φ (.brk)=kx:=rfl
def IK:wS Φ (.cnt)=oh:=rfl
def IM{e}:wT Φ (.tru e)=um (wE Φ e):=rfl
def IN{op}{a}{b}:wT Φ (.cmp op a b)=cv (wOp (opC op) (wE Φ a) (wE Φ b)):=rfl
def GY{op}{op'}{a}{b}{c}:wT Φ (.chain op op' a b c)=cv (dy (opC op) (opC op') (wE Φ a) (wE Φ b) (wE Φ c)):=rfl
def IO{ts}:wT Φ (.and ts)=wAndTs Φ ts:=rfl
def J9{ts}:wT Φ (.or ts)=wOrTs Φ ts:=rfl
def IP{t}:wT Φ (.not t)=nU (wT Φ t):=rfl
def F4:wAndTs Φ (.nil)=λ_ _ _=>False:=rfl
def EL{e}:wAndTs Φ (.cons e .nil)=wT Φ e:=rfl
def EM{e}{f}{r}:wAndTs Φ (.cons e (.cons f r))=nV (wT Φ e) (wAndTs Φ (.cons f r)):=rfl
def FZ:wOrTs Φ (.nil)=λ_ _ _=>False:=rfl
def F5{e}:wOrTs Φ (.cons e .nil)=wT Φ e:=rfl
def F6{e}{f}{r}:wOrTs Φ (.cons e (.cons f r))=pT (wT Φ e) (wOrTs Φ (.cons f r)):=rfl
def G0:wAnds Φ (.nil)=λ_ _ _=>False:=rfl
def F7{e}:wAnds Φ (.cons e .nil)=wE Φ e:=rfl
def F8{e}{f}{r}:wAnds Φ (.cons e (.cons f r))=nW (wE Φ e) (wAnds Φ (.cons f r)):=rfl
def Gi:wOrs Φ (.nil)=λ_ _ _=>False:=rfl
def G1{e}:wOrs Φ (.cons e .nil)=wE Φ e:=rfl
def G2{e}{f}{r}:wOrs Φ (.cons e (.cons f r))=uo (wE Φ e) (wOrs Φ (.cons f r)):=rfl
def GZ{i}:bG (.name i)=b6 i:=rfl
def HF{gs}:bG (.tup gs)=ur (bGs gs):=rfl
def H0:bGs (.nil)=gK:=rfl
def Gj{g}{r}:bGs (.cons g r)=bW (bG g) (bGs r):=rfl
def H8:wO Φ (.none)=ik:=rfl
def H9{e}:wO Φ (.some e)=il (wE Φ e):=rfl
def HG:opB (.add)=fT:=rfl
def HH:opB (.sub)=jh:=rfl
def HI:opB (.mul)=gI:=rfl
def Ha:opB (.fdiv)=ki:=rfl
def HJ:opB (.mod)=pJ:=rfl
def HK:opB (.pow)=pK:=rfl
def IQ:opC (.eq)=wEq:=rfl
def IR:opC (.ne)=wNe:=rfl
def IS:opC (.lt)=wLt:=rfl
def IT:opC (.le)=wLe:=rfl
def IU:opC (.gt)=wGt:=rfl
def IV:opC (.ge)=wGe:=rfl
def IW:opC (.is)=wIs:=rfl
def HM:opC (.isn)=lw:=rfl
def Hb:opC (.ninS)=kI:=rfl
def HN:opC (.inN)=uS:=rfl
def HP:opF (.len)=dI:=rfl
def HQ:opF (.abs)=ll:=rfl
def Hc:opF (.min2)=kj:=rfl
def HR:opF (.int)=jm:=rfl
def Hd:opF (.list)=nT:=rfl
def Gk:opF (.tuple)=km:=rfl
def HS:opF (.all)=pZ:=rfl
def HU:opF (.any)=uG:=rfl
def G3:opF (.sorted)=iE:=rfl
def Gm:opF (.sortk)=kF:=rfl
def G4:opM (.append)=im:=rfl
local macro_rules|`(tactic| ac_nf)=>do
 let f:=fun(n:Lean.Name)(s:String)=>(s.splitOn " ").toArray.map fun x=>(⟨(Lean.mkIdent (n++x.toName)).raw⟩:Lean.Term)
 let a:=f `_root_.L2.Mi "uf aP wC wOp wUn aY au wAr cv pH lg um nU nV pT nW uo nX wIf ik il wSl nY wBM b6 gK bW ur uu nZ oa og bv aX ed iq ku zC kx oh oi uv sIf lu uz uA kz uF dy oj ou kH ow kJ ox oA oB oC iH Hg Hh Hi HW xV Bh IX HX HY HZ I0 I8 Hj I9 Ia IY IZ FW J0 Ib Ic Hk Id Ie Ig Ih J1 J2 Hl Ii Ij Ik J3 Il Im Io Ip Iq J6 Ir Iu Iv Iw J7 J8 Hm Hn Ix Ho GR GS Hq GT Iy Hr Hs Ht Iz Hu Hv GU GW Gd IA Hw Hx IB Hy Gf Gg Gh FX FY IC ID Hz IE HA IF IG IH GX HB HC HD II HE IJ IK IM IN GY IO J9 IP F4 EL EM FZ F5 F6 G0 F7 F8 Gi G1 G2 GZ HF H0 Gj H8 H9 HG HH HI Ha HJ HK IQ IR IS IT IU IV IW HM Hb HN HP HQ Hc HR Hd Gk HS HU G3 Gm G4"
 let b1:=a++f .anonymous "SY Ot Sb Sd R4 Pz VE VF VG LL Pt My Nm"
 let b2:=a++f .anonymous "Ml if_false if_true SY Ot Sb Sd Sv exists_eq_left' exists_eq_left exists_eq_right exists_and_left exists_and_right D.bl.injEq D.int.injEq D.ref.injEq D.tup.injEq R4 Pz VE VF VG LL Pt decide_eq_true_eq OS and_true true_and My Nm"
 `(tactic| ((try dsimp only[$[$b1:term],*]);(try simp only[$[$b2:term],*])))
local macro_rules|`(tactic| nofun)=>`(tactic| ((first|rw[gh]|(dsimp only;rw[gh]));ac_nf))
def EN{t:Bool}{kvs:List (D×D)}{k d:D}(h:M a=S (.dct t kvs))(ok:kh t k=WX)(e:bU kvs k=S d)(q:Q d M):wIx (.ref a) k M Q:=.inr (.inl ⟨t,kvs,d,h,ok,e,q⟩)
def Ag{t:Bool}{kvs:List (D×D)}{k:D}{Q:Mem->Prop}(h:M a=S (.dct t kvs))(ok:kh t k=WX)(j:kvs.length<Ls)(q:Q (ad M a (.dct t (gH kvs k v)))):eP (.ref a) k v M Q:=⟨a,rfl,.inr ⟨t,kvs,h,ok,j,q⟩⟩
def gZ{o o':O}:ad (ad M a o) a o'=ad M a o':=by funext b;unfold ad;split<;>rfl
abbrev Ge(M M':Mem):Prop:=∀a o,M a=S o->M' a=S o
def Ge.refl:Ge M M:=λ_ _ h=>h
def Ge.trans(h:Ge M M')(g:Ge M' M''):Ge M M'':=λ_ _ e=>g _ _ (h _ _ e)
def Ge.new{p:WZ}{o:O}(h:M p=Y):Ge M (ad M p o):=λa o' e=>by rw[aj (λz=>by rw[z,h]at e;cases e)];show e
abbrev Box(b:WZ)(M:Mem):Prop:=∃x y z:Int,M b=S (.lst [.int x,.int y,.int z])
structure Bx(b:WZ)(M M':Mem):Prop where
 box:Box b M'
 keep:∀a o,a≠b->M a=S o->M' a=S o
def Bx.refl(h:Box b M):Bx b M M:=⟨h,λ_ _ _ e=>e⟩
def Bx.trans(h:Bx b M M')(g:Bx b M' M''):Bx b M M'':=⟨g.box,λa o n e=>g.keep a o n (h.keep a o n e)⟩
def Bx.ge(h:Bx b M M')(g:Ge M' M''):Bx b M M'':=⟨by let⟨x,y,z,e⟩:=h.box;show⟨x,y,z,g _ _ e⟩,λa o n e=>g _ _ (h.keep a o n e)⟩
def Bx.put{x y:Int}:Bx b M (ad M b (.lst [.int x,.int y,.int z])):=⟨⟨x,y,z,aa⟩,λa o n e=>by rw[aj n];show e⟩
def Bx.of(h:Box b M)(g:Ge M M'):Bx b M M':=(Bx.refl h).ge g
def nA{b:BT}{chk:Mem->Prop}(I:List D->ax->Mem->List D->Prop){acc:List D}(h0:I [] ρ M acc)(q:∀l ρ M acc,I l ρ M acc->chk M)(hs:∀l x r ρ M acc,xs=l++x::r->I l ρ M acc->∃ρ',b x ρ=S ρ'/\∀N':NC,(∀ρ2 M2 j,I (l++[x]) ρ2 M2 j->N' ρ2 M2 j)->tb ρ' M acc N')(z:∀ρ M acc,I xs ρ M acc->N ρ M acc):aU b tb chk N xs ρ M acc:=by
 let g:∀(r l:List D) (ρ:ax) (M:Mem) (acc:List D),xs=l++r->I l ρ M acc->aU b tb chk N r ρ M acc:=by
  intro r
  induction r with
  |nil=>intro l ρ M acc e i;rw[MN]at e;subst e;show⟨q _ _ _ _ i,z _ _ _ i⟩
  |cons x r ih=>intro l ρ M acc e i;let⟨ρ',e1,h⟩:=hs l x r ρ M acc e i;show⟨q _ _ _ _ i,ρ',e1,h _ λρ2 M2 j B=>ih (l++[x]) ρ2 M2 j (by rw[e];simp) B⟩
 show g xs [] ρ M acc rfl h0
def qK{b:BT}{tb:TSd}{chk:Mem->Prop}(I:List D->ax->Mem->Prop)(h0:I [] ρ M)(j:∀l ρ M,I l ρ M->chk M)(hs:∀l x r ρ M,xs=l++x::r->I l ρ M->∃ρ',b x ρ=S ρ'/\∀F:ax->Mem->Prop,(∀ρ2 M2,I (l++[x]) ρ2 M2->F ρ2 M2)->tb {E with nx:=F,ct:=F,bk:=E.nx} ρ' M)(q:∀ρ M,I xs ρ M->E.nx ρ M):bN b tb chk E xs ρ M:=by
 let g:∀(r l:List D) (ρ:ax) (M:Mem),xs=l++r->I l ρ M->bN b tb chk E r ρ M:=by
  intro r
  induction r with
  |nil=>intro l ρ M e i;rw[MN]at e;subst e;show⟨j _ _ _ i,q _ _ i⟩
  |cons x r ih=>intro l ρ M e i;let⟨ρ',e1,h⟩:=hs l x r ρ M e i;show⟨j _ _ _ i,ρ',e1,h _ λρ2 M2 z=>ih (l++[x]) ρ2 M2 (by rw[e];simp) z⟩
 show g xs [] ρ M rfl h0
section
variable{T:List FD}
abbrev kP(s:Stmt):FD:=⟨"_law_cell_at",s,["_law_script","_law_k"],2,
 (.cons (.ite (.cmp .lt (.var 1) (.blt .len (.cons (.var 0) .nil))) (.cons (.ret (.ix (.var 0) (.var 1)))
 .nil) .nil)
 (.cons (.ret (.int 0))
 .nil))⟩
def Ah{α:Type}{xs:List α}(h0:0<=i)(h1:i<xs.length):∃x,atI xs i=S x/\xs[i.toNat]?=S x:=by
 let:i.toNat<xs.length:=∅
 calc⟨xs[i.toNat],?_,D1 this⟩;unfold atI ixN;simp[h0,h1,D1 this]
set_option tactic.hygienic true
def CH(hf:T[f]?=S (kP s))(j:1<=n){k:Int}(h0:0<=k)(q:∀i,Q (.int i) M):phi T n f [.con (ns.map D.int),.int k] M Q:=by
 calc ao j hf rfl (ρ:=[S _,S _]) rfl ?_;unfold kP;nofun
 split
 ·next h=>
  nofun;let⟨x,e,e2⟩:=Ah (xs:=ns.map D.int) h0 h;rw[Ly]at e2
  cases e3:ns[k.toNat]? with
  |none=>rw[e3]at e2;cases e2
  |some y=>rw[e3]at e2;cases e2;show⟨_,e,q y⟩
 ·nofun;show q 0
set_option tactic.hygienic false
def gi(h:-(2^64)<i/\i<2^64):MulOk i j:=.inl h
def qL(h:-(2^64)<j/\j<2^64):MulOk i j:=.inr (.inl h)
abbrev tf(s:Stmt):FD:=⟨"_law_mixed",s,["_law_number_here","_law_k","_law_once","_law_twice"],2,
 (.cons (.asg (.name 2) (.bin .mod (.bin .mul (.bin .add (.bin .add (.bin .mod (.var 0) (.int 1000000007)) (.bin .mul (.int 7) (.var 1))) (.int 1)) (.int 48271)) (.int 2147483647)))
 (.cons (.asg (.name 3) (.bin .mod (.bin .mul (.var 2) (.bin .add (.bin .add (.bin .mod (.var 2) (.int 1009)) (.var 1)) (.int 3))) (.int 998244353)))
 (.cons (.ret (.bin .fdiv (.bin .mod (.bin .add (.bin .mul (.var 3) (.int 39373)) (.var 2)) (.int 2147483629)) (.int 64)))
 .nil)))⟩
abbrev vd(s:Stmt)(fc fm:Nat):FD:=⟨"_law_box",s,["_law_script","_law_k","_law_cell"],2,
 (.cons (.asg (.name 2) (.call fc (.cons (.var 0) (.cons (.var 1) .nil))))
 (.cons (.ret (.lst (.cons (.bin .mul (.blt .abs (.cons (.var 2) .nil)) (.blt .int (.cons (.cmp .ge (.blt .abs (.cons (.var 2) .nil)) (.bin .pow (.int 10) (.int 18))) .nil))) (.cons (.call fm (.cons (.var 2) (.cons (.bin .add (.int 900) (.var 1)) .nil))) (.cons (.int 0) .nil)))))
 .nil))⟩
def EO{fc:Nat}{sc:Stmt}(hf:T[f]?=S (vd s fc fm))(z:T[fc]?=S (kP sc))(B:∀{x k:Int} {M:Mem} {Q:QD},(∀i,Q (.int i) M)->phi T (n-1) fm [.int x,.int k] M Q)(G:2<=n){k:Int}(h0:0<=k)(q:∀p x y,M p=Y->Q (.ref p) (ad M p (.lst [.int x,.int y,.int 0]))):phi T n f [.con (ns.map D.int),.int k] M Q:=by
 refine ao ∅ hf rfl (ρ:=[S _,S _,Y]) rfl ?_
 unfold vd;nofun;refine CH z ∅ h0 λi=>?_
 nofun;refine⟨by decide,by decide,by decide,qL ?_,?_⟩
 ·split<;>lia
 calc B λj=>?_;show⟨by rw[hH];lia,λp F=>q p _ _ F⟩
abbrev qM(s:Stmt)(fm:Nat):FD:=⟨"_law_take",s,["_law_box_here","_law_many","_law_found","_law_reach"],2,
 (.cons (.ite (.cmp .gt (.ix (.var 0) (.int 0)) (.int 0)) (.cons (.asg (.name 2) (.bin .mod (.ix (.var 0) (.int 0)) (.var 1)))
 (.cons (.put (.var 0) (.int 0) (.bin .fdiv (.ix (.var 0) (.int 0)) (.var 1)))
 (.cons (.ret (.var 2))
 .nil))) .nil)
 (.cons (.asg (.tup (.cons (.name 2) (.cons (.name 3) .nil))) (.tup (.cons (.int 0) (.cons (.int 1) .nil))))
 (.cons (.while (.cmp .lt (.var 3) (.var 1)) (.cons (.put (.var 0) (.int 2) (.bin .add (.ix (.var 0) (.int 2)) (.int 1)))
 (.cons (.asg (.name 2) (.bin .add (.bin .mul (.var 2) (.int 33554432)) (.call fm (.cons (.ix (.var 0) (.int 1)) (.cons (.ix (.var 0) (.int 2)) .nil)))))
 (.cons (.asg (.name 3) (.bin .mul (.var 3) (.int 33554432)))
 .nil))))
 (.cons (.ret (.bin .mod (.var 2) (.var 1)))
 .nil))))⟩
abbrev ve(T:List FD)(n fm:Nat):Prop:=∀{x k:Int} {M:Mem} {Q:QD},(∀i,Q (.int i) M)->phi T n fm [.int x,.int k] M Q
set_option tactic.hygienic true
def CI(hf:T[f]?=S (qM s fm))(J:ve T (n-1) fm)(O:2<=n){m:Int}(L:Box b M)(h1:0<m)(h2:m<=2^120)(q:∀r M',0<=r->r<m->Bx b M M'->Q (.int r) M'):phi T n f [.ref b,.int m] M Q:=by
 refine ao ∅ hf rfl (ρ:=[S _,S _,Y,Y]) rfl ?_
 unfold qM;let⟨x,y,z,G⟩:=L;nofun;calc al G (d:=.int x) rfl ?_;simp only[FW];ac_nf
 split
 ·next hx=>
  nofun;calc al G (d:=.int x) rfl ?_;ac_nf;calc⟨h1,?_⟩;nofun;calc al G (d:=.int x) rfl ?_;ac_nf;refine⟨h1,∅,?_⟩
  calc b9 G (j:=0) rfl ?_;nofun;show q _ _ (Qu _ ∅) (Pw _ h1) Bx.put
 ·next hx=>
  nofun;refine⟨by rw[hH];lia,?_⟩
  nofun;calc⟨6,?_⟩;let go:∀(f:Nat) (found reach z:Int) (M':Mem),m<=reach*33554432^f->M' b=S (.lst [.int x,.int y,.int z])->Bx b M M'->
   aN (cv (wOp wLt (aP 3) (aP 1))) (wSs (phi T (n-1)) (MSs.cons (MS.put (ME.var 0) (ME.int 2) (ME.bin BOp.add ((ME.var 0).ix (ME.int 2)) (ME.int 1)))
    (MSs.cons (MS.asg (MG.name 2) (ME.bin BOp.add (ME.bin BOp.mul (ME.var 2) (ME.int 33554432)) (ME.call fm (MEs.cons ((ME.var 0).ix (ME.int 1)) (MEs.cons ((ME.var 0).ix (ME.int 2)) MEs.nil)))))
      (MSs.cons (MS.asg (MG.name 3) (ME.bin BOp.mul (ME.var 3) (ME.int 33554432))) MSs.nil))))
    {nx:=wSs (phi T (n-1)) (MSs.cons (MS.ret (ME.bin BOp.mod (ME.var 2) (ME.var 1))) MSs.nil) {nx:=λx M'=>Q D.non M',rt:=Q},rt:=Q} (f+1) [S (.ref b),S (.int m),S (.int found),S (.int reach)] M':=by
   intro f
   induction f with
   |zero=>
    intro found reach z M' hm F B;simp only[aN];ac_nf;rw[if_neg ∅]
    nofun;show⟨h1,q _ _ (Qu _ ∅) (Pw _ h1) B⟩
   |succ f ih=>
    intro found reach z M' hm F B;rw[aN];ac_nf
    split
    ·next hr=>
     nofun;calc al F (d:=.int z) rfl ?_;ac_nf;calc b9 F (j:=2) rfl ?_;nofun;refine⟨qL (·),?_⟩
     calc al aa (d:=.int y) rfl ?_;calc al aa (d:=.int (z+1)) rfl ?_;calc J λi=>?_;ac_nf;nofun;refine⟨qL (·),?_⟩
     show ih _ _ (z+1) _ (by rw[Int.mul_assoc,<-Int.pow_succ'];show hm) aa (B.trans Bx.put)
    ·nofun;show⟨h1,q _ _ (Qu _ ∅) (Pw _ h1) B⟩
  show go 5 0 1 z M ∅ G (Bx.refl ⟨x,y,z,G⟩)
set_option tactic.hygienic false
abbrev cB(T:List FD)(n f:Nat):Prop:=∀{b:WZ} {m:Int} {M:Mem} {Q:QD},Box b M->0<m->m<=2^120->(∀r M',0<=r->r<m->Bx b M M'->Q (.int r) M')->phi T n f [.ref b,.int m] M Q
end
section
variable{T:List FD}
def bD{lo:Int}:(aW lo n).length=n:=by simp[aW]
def ar{α:Type}{xs l r:List α}{x:α}(e:xs=l++x::r):l.length<xs.length:=by rw[e];simp
def hJ{α:Type}{xs l r:List α}{x:α}(e:xs=l++x::r):xs[l.length]?=S x:=by rw[e];simp
noncomputable abbrev Pr:=List Int×List Int×List Int
abbrev prD(p:Pr):D:=.tup [.tup (p.1.map .int),.tup (p.2.1.map .int),.tup (p.2.2.map .int)]
abbrev fg(p:Pr):Ni:=.tuple [.tuple (p.1.map .int),.tuple (p.2.1.map .int),.tuple (p.2.2.map .int)]
def cn{k:Nat}{M:Mem}:∀ns:List Int,aD (rb k M) (ns.map D.int)=S (ns.map Qv)
 |[]=>rfl
 |x::r=>by
  let e:rb k M (.int x)=S (.int x):=by cases k<;>rfl
  simp[aD,e,cn r]
def G5{k:Nat}(p:Pr):rb (k+2) M (prD p)=S (fg p):=by simp[rb,prD,fg,aD,cn]
def xW{k:Nat}{M:Mem}:∀ps:List Pr,aD (rb (k+2) M) (ps.map prD)=S (ps.map fg)
 |[]=>rfl
 |p::r=>by simp[aD,G5,xW r]
def cc{k:Nat}(h:M a=S (.lst ds)):rb (k+1) M (.ref a)=(aD (rb k M) ds).map VO:=by simp only[rb,h]
def ce{s:MS}{r:MSs}(I:ax->Mem->Prop)(h1:∀R:ax->Mem->Prop,(∀ρ M,I ρ M->R ρ M)->wS Φ s {E with nx:=R} ρ M)(h2:∀ρ M,I ρ M->wSs Φ r E ρ M):wSs Φ (.cons s r) E ρ M:=by rw[gh];show h1 _ h2
def Bx.upd{q:WZ}{o:O}(h:Bx b M M')(B:M q=Y)(j:q≠b):Bx b M (ad M' q o):=
 ⟨by let⟨x,y,z,e⟩:=h.box;show⟨x,y,z,by rw[aj j.symm];show e⟩,fun u o' nu eu=>by rw[aj (λz=>by rw[z,B]at eu;cases eu)];show h.keep u o' nu eu⟩
def Bx.none{q:WZ}(h:Bx b M M')(z:M' q=Y)(j:q≠b):M q=Y:=by
 cases e:M q with
 |none=>rfl
 |some o=>rw[h.keep q o j e]at z;cases z
abbrev prL(p:Pr):List D:=[.tup (p.1.map .int),.tup (p.2.1.map .int),.tup (p.2.2.map .int)]
def EQ{k:Nat}:(LQ k [D.int 0]).flatten=(LQ k (0:Int)).map D.int:=by
 induction k with
 |zero=>rfl
 |succ k ih=>rw[Nf,N9,ih];rfl
end
section
def aA{α:Type}{f:α->D}{b:BT}{chk:Mem->Prop}(I:List α->ax->Mem->List D->Prop){ys:List α}(hx:xs=ys.map f){acc:List D}(h0:I [] ρ M acc)(q:∀l ρ M acc,I l ρ M acc->chk M)(hs:∀l x r ρ M acc,ys=l++x::r->I l ρ M acc->∃ρ',b (f x) ρ=S ρ'/\∀N':NC,(∀ρ2 M2 j,I (l++[x]) ρ2 M2 j->N' ρ2 M2 j)->tb ρ' M acc N')(z:∀ρ M acc,I ys ρ M acc->N ρ M acc):aU b tb chk N xs ρ M acc:=by
 subst hx;let g:∀(r l:List α) (ρ:ax) (M:Mem) (acc:List D),ys=l++r->I l ρ M acc->aU b tb chk N (r.map f) ρ M acc:=by
  intro r
  induction r with
  |nil=>intro l ρ M acc e i;rw[MN]at e;subst e;show⟨q _ _ _ _ i,z _ _ _ i⟩
  |cons x r ih=>intro l ρ M acc e i;let⟨ρ',e1,h⟩:=hs l x r ρ M acc e i;show⟨q _ _ _ _ i,ρ',e1,h _ λρ2 M2 j B=>ih (l++[x]) ρ2 M2 j (by rw[e];simp) B⟩
 show g ys [] ρ M acc rfl h0
def aI{α:Type}{f:α->D}{b:BT}{tb:TSd}{chk:Mem->Prop}(I:List α->ax->Mem->Prop){ys:List α}(hx:xs=ys.map f)(h0:I [] ρ M)(j:∀l ρ M,I l ρ M->chk M)(hs:∀l x r ρ M,ys=l++x::r->I l ρ M->∃ρ',b (f x) ρ=S ρ'/\∀F:ax->Mem->Prop,(∀ρ2 M2,I (l++[x]) ρ2 M2->F ρ2 M2)->tb {E with nx:=F,ct:=F,bk:=E.nx} ρ' M)(q:∀ρ M,I ys ρ M->E.nx ρ M):bN b tb chk E xs ρ M:=by
 subst hx;let g:∀(r l:List α) (ρ:ax) (M:Mem),ys=l++r->I l ρ M->bN b tb chk E (r.map f) ρ M:=by
  intro r
  induction r with
  |nil=>intro l ρ M e i;rw[MN]at e;subst e;show⟨j _ _ _ i,q _ _ i⟩
  |cons x r ih=>intro l ρ M e i;let⟨ρ',e1,h⟩:=hs l x r ρ M e i;show⟨j _ _ _ i,ρ',e1,h _ λρ2 M2 z=>ih (l++[x]) ρ2 M2 (by rw[e];simp) z⟩
 show g ys [] ρ M rfl h0
set_option tactic.hygienic true
def tj{x:D}(h:aC M x=S ds)(g:Ge M M'):aC M' x=S ds:=by
 cases x with
 |ref a=>
  simp only[aC]at h⊢
  split at h
  ·next e=>rw[g _ _ e];show h
  ·cases h
 |_=>show h
def Ai{x:D}(h:aC M x=S ds):jl M x=S ds.length:=by
 cases x with
 |ref a=>
  simp only[aC]at h
  split at h
  ·next e=>cases h;simp only[jl,e]
  ·cases h
 |tup es=>cases h;rfl
 |con es=>cases h;rfl
 |_=>cases h
set_option tactic.hygienic false
def lH{x:D}(h:aC M x=S ds)(q:Q (.int ds.length) M):dI [x] M Q:=⟨_,_,rfl,Ai h,q⟩
def am{α:Type}{xs:List α}{k:Nat}{x:α}(h:xs[k]?=S x):atI xs (k:Int)=S x:=by
 let j:k<xs.length:=(J4.mp h).1;unfold atI ixN;rw[if_pos ∅,if_pos ∅]
 show h
def aR:aW 0 n=(LO n).map λi=>D.int (i:Nat):=by simp[aW]
end
section
variable{T:List FD}
def Aj(a b:List Int):OB fU (a.map .int) (b.map .int)=(a.zip b).map λxy=>.tup [.int xy.1,.int xy.2]:=by rw[VH,Ui,Rb];rfl
def rO{α β γ:Type}(f:α->β->γ)(a:List α)(b:List β):OB f a b=(a.zip b).map λxy=>f xy.1 xy.2:=by rw[Ui,Rb]
end
section
variable{T:List FD}
abbrev qN(x:Str)(s:Stmt):FD:=⟨"_law_mixed",s,[x,"_law_k","_law_once","_law_twice"],2,(tf s).body⟩
def xX(hf:T[f]?=S (qN x s))(j:1<=n):ve T n f:=by
 intro x k M Q q;calc ao j hf rfl (ρ:=[S _,S _,Y,Y]) rfl ?_;unfold qN tf;nofun;refine⟨by decide,gi (·),qL (·),by decide,?_⟩
 nofun;refine⟨by decide,gi ?_,by decide,?_⟩
 ·let h1:=Qu ((x%1000000007+7*k+1)*48271) (b:=2147483647) (·)
  let h2:=Pw ((x%1000000007+7*k+1)*48271) (b:=2147483647) (·)
  lia
 nofun;refine⟨qL (·),by decide,by decide,by decide,?_⟩
 show q _
end
section
open L2.Srt
variable{T:List FD}
noncomputable abbrev K3:=Int×Int×Int
noncomputable abbrev Tm:=K3×Int
abbrev k3D(k:K3):D:=.tup [.int k.1,.int k.2.1,.int k.2.2]
abbrev kcD(t:Tm):D×D:=(k3D t.1,.int t.2)
abbrev k3K(k:K3):Ky:=.tup [.int k.1,.int k.2.1,.int k.2.2]
abbrev klt(a b:K3):Prop:=ltK (k3K a) (k3K b)=WX
def lJ{a b:K3}(h:k3D a=k3D b):a=b:=by let⟨a1,a2,j⟩:=a;let⟨q,z,B⟩:=b;simp[k3D]at h;simp[h]
def CJ{a b:K3}(h:k3K a=k3K b):a=b:=by let⟨a1,a2,j⟩:=a;let⟨q,z,B⟩:=b;simp[k3K]at h;simp[h]
abbrev cf(ts:List Tm)(k:K3):Int:=((ts.filter λt=>decide (t.1=k)).map (·.2)).sum
def eh{t:Tm}{ts:List Tm}{k:K3}:cf (t::ts) k=(if t.1=k then t.2 else 0)+cf ts k:=by
 unfold cf
 by_cases h:t.1=k
 ·rw[Mv (by simpa using h),if_pos h];simp
 ·rw[Mw (by simpa using h),if_neg h];simp
def CK{a b:List Tm}(h:a.Perm b){k:K3}:cf a k=cf b k:=by
 induction h with
 |nil=>rfl
 |cons x h ih=>rw[eh,eh,ih]
 |swap x y l=>simp only[eh];lia
 |trans _ _ j q=>rw[j,q]
def tt{ts:List Tm}{k:K3}(h:∀t∈ts,t.1≠k):cf ts k=0:=by
 induction ts with
 |nil=>rfl
 |cons t ts ih=>rw[eh,if_neg (h t (_)),ih λu j=>h u (by simp[j])];rfl
def xY{ts:List Tm}(j:(ts.map (·.1)).Nodup){t:Tm}(ht:t∈ts):cf ts t.1=t.2:=by
 induction ts with
 |nil=>simp at ht
 |cons u ts ih=>
  simp only[LL,Ov]at j;rw[eh]
  rcases Lw.mp ht with z|z
  ·subst z;rw[if_pos rfl,tt λv q e=>j.1 (by rw[<-e];show MM q)]
   lia
  ·rw[if_neg λe=>j.1 (by rw[e];show MM z),ih j.2 z];lia
def CL{L:List Tm}{k:K3}:bU (L.map kcD) (k3D k)=(L.find? λp=>decide (p.1=k)).map λp=>.int p.2:=by
 unfold bU
 induction L with
 |nil=>rfl
 |cons t L ih=>
  by_cases h:t.1=k
  ·rw[LL,Tg (by simp[kcD,h]),Tg (by simpa using h)];rfl
  ·rw[LL,QU (by simp only[decide_eq_true_eq];showλe=>h (lJ e)),QU (by simpa using h),ih]
def ER{L:List Tm}{k:K3}:((L.map kcD).any λp=>decide (p.1=k3D k))=L.any λp=>decide (p.1=k):=by
 induction L with
 |nil=>rfl
 |cons t L ih=>
  rw[LL,O6,O6,ih];congr 1
  by_cases h:t.1=k
  ·simp[kcD,h]
  ·rw[decide_eq_false h];show decide_eq_false (λe=>h (lJ e))
def CM{a:K3}(h:klt a a):False:=by let:=jt _ _ h;unfold klt at h;rw[h]at this;cases this
def Ge.upd{j:Mem}{d:WZ}{o:O}(g:Ge M j)(hd:M d=Y):Ge M (ad j d o):=λa o' e=>by rw[aj (λz=>by rw[z,hd]at e;cases e)];show g _ _ e
end
section
open L2.Srt
variable{T:List FD}
def Ak{l:List Nat}{g:Nat->Nat->Tm}:(l.flatMap λi=>(LO m).map (g i)).length=l.length*m:=by
 induction l with
 |nil=>simp
 |cons i l ih=>rw[Oa,I7,ih,My,QK];simp;lia
end
section
open L2.Srt
def bH{p:WZ}(j:Box b M)(q:M p=Y):p≠b:=λz=>by let⟨x,y,w,e⟩:=j;rw[<-z,q]at e;cases e
end
section
open L2.Srt
variable{T:List FD}
abbrev cy(m p a b c:Nat):Tm:=(((a*p+c:Nat),((a*m+b:Nat):Int),((b*p+c:Nat):Int)),1)
abbrev gj(m p a:Nat):List Tm:=(LO m).flatMap λb=>(LO p).map (cy m p a b)
abbrev cZ(n m p:Nat):List Tm:=(LO n).flatMap (gj m p)
def Al{p a:Nat}:(gj m p a).length=m*p:=by unfold gj;rw[Ak,Mg]
def CN{p:Nat}{l:List Nat}:(l.flatMap (gj m p)).length=l.length*(m*p):=by
 induction l with
 |nil=>simp
 |cons i l ih=>rw[Oa,I7,ih,My,Al,QK];lia
def lK{p:Nat}{t:Tm}(h:t∈cZ n m p):∃a b c,a<n/\b<m/\c<p/\t=cy m p a b c:=by let⟨a,j,h⟩:=O0.mp h;let⟨b,q,h⟩:=O0.mp h;let⟨c,z,rfl⟩:=LI.mp h;show⟨a,b,c,NO.mp j,NO.mp q,NO.mp z,rfl⟩
def qO{a b:Nat}(j:a<n)(q:b<m):a*m+b<n*m:=by let:(a+1)*m<=n*m:=Nat.mul_le_mul_right m j;rw[QK]at this;lia
end
section
open L2.Srt
variable{T:List FD}
abbrev eM(L:List Tm)(k:K3)(c:Int):List Tm:=if(L.any λp=>decide (p.1=k))=WX then L.map (λp=>if p.1=k then(p.1,c)else p)else L++[(k,c)]
def Am{L:List Tm}{k:K3}{c:Int}:gH (L.map kcD) (k3D k) (.int c)=(eM L k c).map kcD:=by
 unfold gH eM;rw[ER]
 split
 ·rw[NG,NG];calc Pg λp _=>?_;simp only[Qm]
  by_cases h:p.1=k
  ·rw[if_pos h,if_pos (show(kcD p).1=k3D k by change k3D p.1=k3D k;rw[h])];rfl
  ·rw[if_neg h,if_neg (show ¬(kcD p).1=k3D k fromλz=>h (lJ z))]
 ·rw[Mj];rfl
set_option tactic.hygienic true
def vf{L:List Tm}(j:(L.map (·.1)).Nodup){k:K3}{c:Int}:((eM L k c).map (·.1)).Nodup:=by
 unfold eM
 split
 ·rw[NG];let e:L.map ((fun x:Tm=>x.1)∘fun p=>if p.1=k then(p.1,c)else p)=L.map (·.1):=Pg fun p _=>by
   simp only[Qm];split<;>rfl
  rw[e];show j
 ·next h=>
  rw[Mj,PV];refine⟨j,by simp,λa z b q e=>?_⟩
  simp at q;subst e q;let⟨p,B,rfl⟩:=LI.mp z;show h (SW.mpr ⟨p,B,by simp⟩)
set_option tactic.hygienic false
def An{L:List Tm}{k:K3}{c:Int}{t:Tm}(h:t∈eM L k c):t∈L∨t=(k,c):=by
 unfold eM at h
 split at h
 ·let⟨p,j,rfl⟩:=LI.mp h
  by_cases e:p.1=k
  ·rw[if_pos e];show .inr (by rw[e])
  ·rw[if_neg e];show .inl j
 ·rcases Lv.mp h with h|h
  ·show .inl h
  ·show .inr (by simpa using h)
def Ao{L:List Tm}{k:K3}{c:Int}:(eM L k c).length<=L.length+1:=by unfold eM;split<;>simp
def rP{L:List Tm}(B:(L.map (·.1)).Nodup){ys:List D}(q:ys.Perm ((L.map kcD).map (·.1)))(hs:eI ys):∃rs:List Tm,rs.Perm L/\ys=rs.map (λt=>k3D t.1)/\rs.Pairwise λa b=>klt a.1 b.1:=by
 let e0:(L.map kcD).map (·.1)=L.map λt=>k3D t.1:=by rw[NG];rfl
 rw[e0]at q;let⟨rs,z,p2⟩:=nj (λt:Tm=>k3D t.1) q rfl;calc⟨rs,z,p2.symm,?_⟩;let j:(rs.map (·.1)).Nodup:=(z.map (·.1)).nodup_iff.mpr B;unfold eI at hs;rw[<-p2,MP]at hs;rw[Nz,MP]at j;calc(hs.and j).imp ?_;rintro a b ⟨h1,h2⟩;unfold klt
 cases e1:ltK (k3K a.1) (k3K b.1)with
 |true=>rfl
 |false=>show absurd (CJ (gT _ _ e1 h1)) h2
def Ap{L:List Tm}(j:(L.map (·.1)).Nodup){t:Tm}(ht:t∈L):bU (L.map kcD) (k3D t.1)=S (.int t.2):=by
 rw[CL];let:L.find? (λp=>decide (p.1=t.1))=S t:=by
  induction L with
  |nil=>simp at ht
  |cons x L ih=>
   simp only[LL,Ov]at j
   rcases Lw.mp ht with z|z
   ·subst z;simp
   ·let:x.1≠t.1:=λe=>j.1 (by rw[e];show MM z)
    rw[QU (by simpa using this)]
    show ih j.2 z
 rw[this];rfl
def Bi(k:K3):dw (k3D k)=WX:=rfl
end
section
open L2.Srt
abbrev gz(l:List Int)(i:Int):Int:=if i<0 then 0 else l.getD i.toNat 0
def qP:gz [] i=0:=by unfold gz;split<;>simp
def dh{x:Int}:gz (x::l) i=if i=0 then x else gz l (i-1):=by
 unfold gz
 by_cases h:i<0
 ·rw[if_pos h,if_neg ∅,if_pos ∅]
 ·rw[if_neg h]
  by_cases h0:i=0
  ·subst h0;simp
  ·rw[if_neg h0,if_neg ∅]
   obtain⟨n,rfl⟩:∃n:Nat,i=((n+1:Nat):Int):=⟨(i-1).toNat,∅⟩
   rw[show(((n+1:Nat):Int)-1).toNat=n by lia,LU]
   simp
def xZ{x:Int}:∀{b:List Int} {i:Int},gz (b.map (x * ·)) i=x*gz b i
 |[],i=>by rw[Pt,qP];simp
 |y::b,i=>by rw[LL,dh,dh,xZ];split<;>rfl
def qQ(h:gz l i≠0):0<=i/\i<l.length:=by
 unfold gz at h
 by_cases hi:i<0
 ·rw[if_pos hi]at h;show absurd rfl h
 ·rw[if_neg hi]at h;refine⟨∅,?_⟩
  by_cases hl:i.toNat<l.length
  ·lia
  ·rw[MQ,TH ∅]at h;show absurd rfl h
abbrev Tn(ps:List Pr)(k i j:Int):Int:=(ps.map λp=>gz p.1 i*gz p.2.1 j*gz p.2.2 k).sum
def hW{a b:List Pr}{k:Int}:Tn (a++b) k i j=Tn a k i j+Tn b k i j:=by simp[Tn]
def lL{p:Pr}{a:List Pr}{k:Int}:Tn (p::a) k i j=gz p.1 i*gz p.2.1 j*gz p.2.2 k+Tn a k i j:=by simp[Tn]
def ya{L0 L1 L2:Nat}{k i j:Int}:∀{us:List Pr},(∀u∈us,u.1.length=L0/\u.2.1.length=L1/\u.2.2.length=L2)->Tn us k i j≠0->(0<=k/\k<L2)/\(0<=i/\i<L0)/\(0<=j/\j<L1)
 |[],_,h=>absurd (by simp[Tn]) h
 |u::us,q,h=>by
  let⟨e0,e1,e2⟩:=q u (_)
  rw[lL]at h
  by_cases z:gz u.1 i*gz u.2.1 j*gz u.2.2 k=0
  ·rw[z,Int.zero_add]at h;show ya (λv B=>q v (by simp[B])) h
  ·let a1:gz u.1 i≠0:=λe=>z (by rw[e];simp)
   let a2:gz u.2.1 j≠0:=λe=>z (by rw[e];simp)
   let F:gz u.2.2 k≠0:=λe=>z (by rw[e];simp)
   let:=qQ a1;let:=qQ a2;let:=qQ F;lia
def fR{l:List Tm}(g:(l.map (·.1)).Nodup):l.Nodup:=by rw[Nz]at g⊢;rw[MP]at g;show g.imp λ{a b} hab e=>hab (by rw[e])
end
section
open L2.Srt
abbrev nzf(l:List Int):List Int:=l.filter λx=>!(x==0)
abbrev bbl(l:List Int):Bool:=match nzf l with
 |[]=>WY
 |x::_=>decide (x<0)
abbrev ngl(l:List Int):List Int:=l.map λx=>-x
abbrev adl(a b:List Int):List Int:=OB (· + ·) a b
abbrev sg1(p:Pr):Pr:=if bbl p.1=WX then(ngl p.1,p.2.1,ngl p.2.2)else p
abbrev sg2(p:Pr):Pr:=if bbl p.2.1=WX then(p.1,ngl p.2.1,ngl p.2.2)else p
abbrev sgn(p:Pr):Pr:=sg2 (sg1 p)
abbrev nzb(l:List Int):Bool:=l.any λx=>x != 0
abbrev okp(p:Pr):Bool:=nzb p.1&&nzb p.2.1&&nzb p.2.2
abbrev al2(p q:Pr):Prop:=(p.1=q.1/\p.2.1=q.2.1)∨(p.1=q.1/\p.2.2=q.2.2)∨(p.2.1=q.2.1/\p.2.2=q.2.2)
abbrev ptg(p q:Pr):Pr:=if p.1=q.1/\p.2.1=q.2.1 then(p.1,p.2.1,adl p.2.2 q.2.2)else if p.1=q.1/\p.2.2=q.2.2 then(p.1,adl p.2.1 q.2.1,p.2.2)else(adl p.1 q.1,p.2.1,p.2.2)
inductive Fw(ps:List Pr):Option (List Pr)->Prop
 |nought (A C:List Pr) (p:Pr) (e:ps=A++p::C) (hn:okp p=WY) (hb:∀q∈A,okp q=WX):Fw ps (S (A++C))
 | alike (A B C:List Pr) (p q:Pr) (e:ps=A++p::(B++q::C)) (ha:al2 p q) (ok:∀p∈ps,okp p=WX)
    (hb:∀(r s:Nat) p' q',ps[r]?=S p'->ps[s]?=S q'->r<s->al2 p' q'->A.length<r∨(A.length=r/\A.length+1+B.length<=s)):Fw ps (S (A++ptg p q::(B++C)))
 |none (ok:∀p∈ps,okp p=WX) (hb:∀(r s:Nat) p' q',ps[r]?=S p'->ps[s]?=S q'->r<s->¬al2 p' q'):Fw ps Y
def vg{A B C:List Pr}{p q:Pr}:(A++p::(B++q::C))[A.length]?=S p:=by simp
def vh{A B C:List Pr}{p q:Pr}:(A++p::(B++q::C))[A.length+1+B.length]?=S q:=by rw[Lo ∅,show A.length+1+B.length-A.length=B.length+1 by lia,Ot,Lo ∅];simp
def rQ{A C A' C':List Pr}{p p':Pr}(e:A++p::C=A'++p'::C')(B:okp p=WY)(F:∀q∈A,okp q=WX)(j:okp p'=WY)(z:∀q∈A',okp q=WX):A++C=A'++C':=by
 let G:A.length=A'.length:=by
  rcases Vh A.length A'.length with h|h|h
  ·let h1:(A++p::C)[A.length]?=S p:=by simp
   rw[e,LC h]at h1;rw[z p (LJ h1)]at B;cases B
  ·show h
  ·let h1:(A'++p'::C')[A'.length]?=S p':=by simp
   rw[<-e,LC h]at h1;rw[F p' (LJ h1)]at j;cases j
 let⟨rfl,e2⟩:=Tw e G
 cases e2;rfl
def Fw.uniq{ps:List Pr}{a b:Option (List Pr)}(h:Fw ps a)(g:Fw ps b):a=b:=by
 cases h with
 |nought A C p e G J=>
  cases g with
  |nought A' C' p' e' z j=>rw[rQ (e▸e') G J z j]
  |alike A' B' C' p' q' e' F ok' j=>rw[ok' p (by rw[e];simp)]at G;cases G
  |none ok' j=>rw[ok' p (by rw[e];simp)]at G;cases G
 |alike A B C p q e L ok J=>
  cases g with
  |nought A' C' p' e' z j=>rw[ok p' (by rw[e'];simp)]at z;cases z
  |alike A' B' C' p' q' e' F ok' j=>
   let h1:=J A'.length (A'.length+1+B'.length) p' q' (by rw[e'];show vg) (by rw[e'];show vh) ∅ F
   let h2:=j A.length (A.length+1+B.length) p q (by rw[e];show vg) (by rw[e];show vh) ∅ L
   let l1:A.length=A'.length:=∅
   let l2:B.length=B'.length:=∅
   rw[e]at e';let⟨rfl,e2⟩:=Tw e' l1;simp only[OS]at e2;let⟨rfl,O⟩:=e2;let⟨rfl,U⟩:=Tw O l2
   cases U;rfl
  |none ok' j=>show absurd L (j A.length (A.length+1+B.length) p q (by rw[e];show vg) (by rw[e];show vh) ∅)
 |none ok J=>
  cases g with
  |nought A' C' p' e' z j=>rw[ok p' (by rw[e'];simp)]at z;cases z
  |alike A' B' C' p' q' e' F ok' j=>show absurd F (J A'.length (A'.length+1+B'.length) p' q' (by rw[e'];show vg) (by rw[e'];show vh) ∅)
  |none ok' j=>rfl
inductive Td:List Pr->List Pr->Prop
 |done {ps:List Pr} (h:Fw ps Y):Td ps ps
 |step {ps qs rs:List Pr} (h:Fw ps (S qs)) (t:Td qs rs):Td ps rs
def Td.uniq{ps a b:List Pr}(h:Td ps a)(g:Td ps b):a=b:=by
 induction h with
 |done h=>
  cases g with
  |done _=>rfl
  |step h' _=>cases h.uniq h'
 |step h _ ih=>
  cases g with
  |done h'=>cases h.uniq h'
  |step h' t'=>cases h.uniq h';show ih t'
def Fw.len{ps qs:List Pr}(h:Fw ps (S qs)):qs.length+1=ps.length:=by
 generalize hz:S qs=z at h
 cases h with
 |nought A C p e _ _=>cases hz;rw[e];simp;lia
 |alike A B C p q e _ _ _=>cases hz;rw[e];simp;lia
 |none _ _=>cases hz
abbrev Lns(L0 L1 L2:Nat)(ps:List Pr):Prop:=∀p∈ps,p.1.length=L0/\p.2.1.length=L1/\p.2.2.length=L2
def bS{a b:List Int}{L:Nat}(j:a.length=L)(q:b.length=L):(adl a b).length=L:=by simp[adl,j,q]
def CO{p q:Pr}(j:p.1.length=L0/\p.2.1.length=L1/\p.2.2.length=L2)(z:q.1.length=L0/\q.2.1.length=L1/\q.2.2.length=L2):(ptg p q).1.length=L0/\(ptg p q).2.1.length=L1/\(ptg p q).2.2.length=L2:=by
 unfold ptg
 split
 ·show⟨j.1,j.2.1,bS j.2.2 z.2.2⟩
 ·split
  ·show⟨j.1,bS j.2.1 z.2.1,j.2.2⟩
  ·show⟨bS j.1 z.1,j.2.1,j.2.2⟩
def Fw.all{P:Pr->Prop}{ps qs:List Pr}(h:Fw ps (S qs))(j:∀p∈ps,P p)(F:∀p∈ps,∀q∈ps,okp p=WX->okp q=WX->P (ptg p q)):∀p∈qs,P p:=by
 generalize hz:S qs=z at h
 cases h with
 |nought A C p e _ _=>
  cases hz;intro x hx
  calc j x ?_;rw[e]
  rcases Lv.mp hx with h|h
  ·simp[h]
  ·simp[h]
 |alike A B C p q e _ ok _=>
  cases hz;intro x hx
  let mp:p∈ps:=by rw[e];simp
  let mq:q∈ps:=by rw[e];simp
  simp only[Lv,Lw]at hx
  rcases hx with h|rfl|h|h
  ·show j x (by rw[e];simp[h])
  ·show F p mp q mq (ok p mp) (ok q mq)
  ·show j x (by rw[e];simp[h])
  ·show j x (by rw[e];simp[h])
 |none _ _=>cases hz
def Fw.lns{ps qs:List Pr}(h:Fw ps (S qs))(j:Lns L0 L1 L2 ps):Lns L0 L1 L2 qs:=h.all j λp mp q mq _ _=>CO (j p mp) (j q mq)
def Td.lns{ps qs:List Pr}(h:Td ps qs)(j:Lns L0 L1 L2 ps):Lns L0 L1 L2 qs:=by
 induction h with
 |done _=>show j
 |step h _ ih=>show ih (h.lns j)
def Td.len{ps qs:List Pr}(h:Td ps qs):qs.length<=ps.length:=by
 induction h with
 |done _=>show Lz _
 |step h _ ih=>let:=h.len;lia
def gp{x:Int}:bbl (x::l)=if x=0 then bbl l else decide (x<0):=by
 unfold bbl nzf
 by_cases h:x=0
 ·rw[Mw (by simp[h]),if_pos h]
 ·rw[Mv (by simp[h]),if_neg h]
def qR{x:Int}:nzb (x::l)=(decide (x≠0) || nzb l):=by unfold nzb;rw[O6];congr 1;by_cases h:x=0<;>simp[h]
def lM:∀{l:List Int},bbl l=WX->bbl (ngl l)=WY
 |[],h=>by cases h
 |x::l,h=>by
  rw[gp]at h;change bbl (-x::ngl l)=WY;rw[gp]
  by_cases e:x=0
  ·rw[if_pos e]at h;rw[if_pos ∅];show lM h
  ·rw[if_neg e]at h;rw[if_neg ∅]
   let:=of_decide_eq_true h;show decide_eq_false ∅
def lN:∀{a b:List Int},bbl a=WY->nzb a=WX->bbl b=WY->nzb b=WX->bbl (adl a b)=WY
 |[],_,_,h,_,_=>by cases h
 |_::_,[],_,_,_,h=>by cases h
 |x::a,y::b,q,na,j,nb=>by
  rw[gp]at q j;rw[qR]at na nb;change bbl ((x+y)::adl a b)=WY;rw[gp]
  by_cases e1:x=0
  ·rw[if_pos e1]at q
   by_cases e2:y=0
   ·rw[if_pos e2]at j;rw[if_pos ∅]
    show lN q (by simpa[e1]using na) j (by simpa[e2]using nb)
   ·rw[if_neg e2]at j;let:=of_decide_eq_false j;rw[if_neg ∅];show decide_eq_false ∅
  ·rw[if_neg e1]at q;let h1:=of_decide_eq_false q
   by_cases e2:y=0
   ·rw[if_neg ∅];show decide_eq_false ∅
   ·rw[if_neg e2]at j;let h2:=of_decide_eq_false j;rw[if_neg ∅];show decide_eq_false ∅
abbrev Sgd(p:Pr):Prop:=bbl p.1=WY/\bbl p.2.1=WY
def CP{p:Pr}(h:Sgd p):sgn p=p:=by
 unfold sgn sg1;rw[if_neg (by rw[h.1];decide)]
 unfold sg2;rw[if_neg (by rw[h.2];decide)]
set_option tactic.hygienic true
def CQ(p:Pr):Sgd (sgn p):=by
 let h1:bbl (sg1 p).1=WY:=by
  unfold sg1;split
  ·next h=>show lM h
  ·next h=>simpa using h
 unfold sgn sg2
 split
 ·next h=>show⟨h1,lM h⟩
 ·next h=>show⟨h1,by simpa using h⟩
set_option tactic.hygienic false
def CS{p q:Pr}(j:Sgd p)(z:Sgd q)(op:okp p=WX)(oq:okp q=WX):Sgd (ptg p q):=by
 simp only[okp,D0]at op oq;unfold ptg
 split
 ·show j
 ·split
  ·show⟨j.1,lN j.2 op.1.2 z.2 oq.1.2⟩
  ·show⟨lN j.1 op.1.1 z.1 oq.1.1,j.2⟩
def Fw.sgd{ps qs:List Pr}(h:Fw ps (S qs))(hs:∀p∈ps,Sgd p):∀p∈qs,Sgd p:=h.all hs λp mp q mq op oq=>CS (hs p mp) (hs q mq) op oq
def CT{ps:List Pr}(h:∀p∈ps,Sgd p):ps.map sgn=ps:=by
 induction ps with
 |nil=>rfl
 |cons p ps ih=>rw[LL,CP (h p (_)),ih λq j=>h q (by simp[j])]
def CU{ps:List Pr}:∀p∈ps.map sgn,Sgd p:=λp h=>by let⟨q,_,rfl⟩:=LI.mp h;show CQ q
def CV{p:Pr}(h:p.1.length=L0/\p.2.1.length=L1/\p.2.2.length=L2):(sgn p).1.length=L0/\(sgn p).2.1.length=L1/\(sgn p).2.2.length=L2:=by
 unfold sgn sg2 sg1
 split<;>split<;>simp[ngl,h]
def CW{ps:List Pr}(h:Lns L0 L1 L2 ps):Lns L0 L1 L2 (ps.map sgn):=λp j=>by let⟨q,z,rfl⟩:=LI.mp j;show CV (h q z)
abbrev Bdd(B:Nat)(l:List Int):Prop:=∀x∈l,x.natAbs<=B
abbrev BdP(B:Nat)(p:Pr):Prop:=Bdd B p.1/\Bdd B p.2.1/\Bdd B p.2.2
def Bdd.le{B C:Nat}(h:B<=C)(b:Bdd B l):Bdd C l:=λx hx=>MR (b x hx) h
def CY{B:Nat}(h:Bdd B l):Bdd B (ngl l):=λx hx=>by let⟨y,j,rfl⟩:=LI.mp hx;let:=h y j;lia
end
section
open L2.Srt
variable{T:List FD}
abbrev eU(s:Stmt):FD:=⟨"has_noughts",s,["product"],1,
 (.cons (.ret (.not (.blt .all (.cons (.comp [Y] ["part"] (.last (.seq (.var 0)) (.name 0) .nil (.blt .any (.cons (.var 0) .nil)))) .nil))))
 .nil)⟩
def yb:aD jq (l.map D.int)=S (l.map λx=>x != 0):=by
 induction l with
 |nil=>rfl
 |cons x l ih=>rw[LL,aD,ih];rfl
def CZ:(l.map λx=>x != 0).any id=nzb l:=by unfold nzb;rw[List.any_map];rfl
def rR(hf:T[f]?=S (eU s)){k:Nat}(F:1<=k){u:Pr}(q:∀M',Ge M M'->Q (.bl (!okp u)) M'):phi T k f [prD u] M Q:=by
 refine ao ∅ hf rfl (ρ:=[S _]) rfl ?_
 unfold eU prD;nofun;refine aA (f:=λw:List Int=>D.tup (w.map .int)) (ys:=[u.1,u.2.1,u.2.2]) (I:=λl ρ M' acc=>(∃o0,ρ=[o0])/\M'=M/\acc=l.map λw=>D.bl (nzb w)) rfl ⟨⟨_,rfl⟩,rfl,rfl⟩ (λ_ _ _ _ _=>by first|rfl|trivial) ?_ ?_
 ·rintro l w r ρ M1 acc e ⟨⟨o0,rfl⟩,rfl,rfl⟩;calc⟨_,rfl,λN j=>?_⟩;let z:l.length<3:=ar e;ac_nf;calc⟨_,_,_,rfl,rfl,yb,?_⟩;rw[CZ];show⟨by rw[s9,hH];lia,j _ _ _ ⟨⟨_,rfl⟩,rfl,by simp⟩⟩
 ·rintro ρ M1 acc ⟨⟨o0,rfl⟩,rfl,rfl⟩ p B;calc⟨_,_,[nzb u.1,nzb u.2.1,nzb u.2.2],rfl,af aa,rfl,?_⟩;let e:[nzb u.1,nzb u.2.1,nzb u.2.2].all id=okp u:=by simp[okp,Bool.and_assoc]
  rw[e];show⟨_,rfl,q _ (Ge.new B)⟩
abbrev iJ(s:Stmt):FD:=⟨"begins_below",s,["part","some"],1,
 (.cons (.asg (.name 1) (.comp [Y] ["x"] (.last (.seq (.var 0)) (.name 0) (.cons (.cmp .ne (.var 0) (.int 0)) .nil) (.var 0))))
 (.cons (.ret (.and (.cons (.cmp .gt (.blt .len (.cons (.var 1) .nil)) (.int 0)) (.cons (.cmp .lt (.ix (.var 1) (.int 0)) (.int 0)) .nil))))
 .nil))⟩
def D3:(nzf l).length<=l.length:=Nc _ _
def qS(G:l.length<=100000){chk:Mem->Prop}(z:chk M)(q:∀ρ,N ρ M ((nzf l).map .int)):
 aU (b6 0) (aX [cv (wOp wNe (aP 0) (wC (.int 0)))] (bv (aP 0))) chk N (l.map .int) [o0] M []:=by
 refine aA (f:=D.int) (ys:=l) (I:=λs ρ M' acc=>(∃o0,ρ=[o0])/\M'=M/\acc=(nzf s).map .int) rfl ⟨⟨_,rfl⟩,rfl,rfl⟩ (λ_ _ _ _ h=>by rw[h.2.1];show z) ?_ ?_
 ·rintro l' x r ρ M1 acc e ⟨⟨o0,rfl⟩,rfl,rfl⟩;calc⟨_,rfl,λN' j=>?_⟩;let B:=ar e;let F:=D3 (l:=l');ac_nf
  by_cases hz:x=0
  ·rw[if_neg (by simp[hz])]
   calc j _ _ _ ⟨⟨_,rfl⟩,rfl,?_⟩;unfold nzf;rw[Mb,Mw (by simp[hz])];simp
  ·rw[if_pos (by simp[hz])]
   refine⟨by rw[s9,hH];lia,j _ _ _ ⟨⟨_,rfl⟩,rfl,?_⟩⟩
   unfold nzf;rw[Mb,Mv (by simp[hz])];simp
 ·rintro ρ M1 acc ⟨⟨o0,rfl⟩,rfl,rfl⟩;show q _
def qT(hf:T[f]?=S (iJ s)){k:Nat}(z:1<=k)(j:l.length<=100000)(q:∀M',Ge M M'->Q (.bl (bbl l)) M'):phi T k f [.tup (l.map .int)] M Q:=by
 refine ao ∅ hf rfl (ρ:=[S _,Y]) rfl ?_
 unfold iJ;nofun;refine qS j (by first|rfl|trivial) λρ p hp=>?_
 nofun;calc aQ aa ?_;ac_nf;rw[s9]
 cases h:nzf l with
 |nil=>
  rw[if_neg (_)]
  let:bbl l=WY:=by unfold bbl;rw[h]
  rw[<-this];let:=q _ (Ge.new (o:=.lst ([].map .int)) hp);simpa[bbl,h]using this
 |cons x r=>
  rw[if_pos (_)]
  calc al aa (d:=.int x) (am (k:=0) rfl) ?_;ac_nf;let:=q _ (Ge.new (o:=.lst ((x::r).map .int)) hp);simpa[bbl,h]using this
abbrev cL(s:Stmt):FD:=⟨"negated",s,["part"],1,
 (.cons (.ret (.blt .tuple (.cons (.comp [Y] ["x"] (.last (.seq (.var 0)) (.name 0) .nil (.neg (.var 0)))) .nil)))
 .nil)⟩
def jB(F:l.length<=100000){chk:Mem->Prop}(z:chk M)(q:∀ρ,N ρ M ((ngl l).map .int)):
 aU (b6 0) (bv (wUn ji (aP 0))) chk N (l.map .int) [o0] M []:=by
 refine aA (f:=D.int) (ys:=l) (I:=λs ρ M' acc=>(∃o0,ρ=[o0])/\M'=M/\acc=(ngl s).map .int) rfl ⟨⟨_,rfl⟩,rfl,rfl⟩ (λ_ _ _ _ h=>by rw[h.2.1];show z) ?_ ?_
 ·rintro l' x r ρ M1 acc e ⟨⟨o0,rfl⟩,rfl,rfl⟩;calc⟨_,rfl,λN' j=>?_⟩;let B:=ar e;ac_nf;refine⟨by simp[ngl,hH];lia,j _ _ _ ⟨⟨_,rfl⟩,rfl,?_⟩⟩
  simp[ngl]
 ·rintro ρ M1 acc ⟨⟨o0,rfl⟩,rfl,rfl⟩;show q _
def bP(hf:T[f]?=S (cL s)){k:Nat}(B:1<=k)(j:l.length<=100000)(q:∀M',Ge M M'->Q (.tup ((ngl l).map .int)) M'):phi T k f [.tup (l.map .int)] M Q:=by
 refine ao ∅ hf rfl (ρ:=[S _]) rfl ?_
 unfold cL;nofun;refine jB j (by first|rfl|trivial) λρ p z=>?_
 show⟨_,_,rfl,af aa,q _ (Ge.new z)⟩
abbrev di(s:Stmt):FD:=⟨"added",s,["one","other"],2,
 (.cons (.ret (.blt .tuple (.cons (.comp [Y,Y] ["x","y"] (.last (.zip (.var 0) (.var 1)) (.tup (.cons (.name 0) (.cons (.name 1) .nil))) .nil (.bin .add (.var 0) (.var 1)))) .nil)))
 .nil)⟩
def bQ(hf:T[f]?=S (di s)){k:Nat}(F:1<=k){a b:List Int}(G:a.length<=100000)(q:∀M',Ge M M'->Q (.tup ((adl a b).map .int)) M'):phi T k f [.tup (a.map .int),.tup (b.map .int)] M Q:=by
 refine ao ∅ hf rfl (ρ:=[S _,S _]) rfl ?_
 unfold di;nofun;rw[Aj];let hz:(a.zip b).length<=a.length:=by simp;lia
 refine aA (f:=λxy:Int×Int=>D.tup [.int xy.1,.int xy.2]) (ys:=a.zip b) (I:=λs ρ M' acc=>(∃o0 j,ρ=[o0,j])/\M'=M/\acc=(s.map λxy=>xy.1+xy.2).map .int) rfl ⟨⟨_,_,rfl⟩,rfl,rfl⟩ (λ_ _ _ _ _=>trivial) ?_ ?_
 ·rintro l' x r ρ M1 acc e ⟨⟨o0,j,rfl⟩,rfl,rfl⟩;calc⟨_,rfl,λN' z=>?_⟩;let B:=ar e;ac_nf;refine⟨by simp[hH];lia,z _ _ _ ⟨⟨_,_,rfl⟩,rfl,?_⟩⟩
  simp
 ·rintro ρ M1 acc ⟨⟨o0,j,rfl⟩,rfl,rfl⟩ p hp;calc⟨_,_,rfl,af aa,?_⟩;let e:(a.zip b).map (λxy=>xy.1+xy.2)=adl a b:=by unfold adl;rw[rO]
  rw[e];show q _ (Ge.new hp)
abbrev jC(s:Stmt)(fb fn:Nat):FD:=⟨"signed",s,["product","l","r","o"],1,
 (.cons (.asg (.tup (.cons (.name 1) (.cons (.name 2) (.cons (.name 3) .nil)))) (.var 0))
 (.cons (.ite (.tru (.call fb (.cons (.var 1) .nil))) (.cons (.par 1 3 (.call fn (.cons (.var 1) .nil)) (.call fn (.cons (.var 3) .nil)))
 .nil) .nil)
 (.cons (.ite (.tru (.call fb (.cons (.var 2) .nil))) (.cons (.par 2 3 (.call fn (.cons (.var 2) .nil)) (.call fn (.cons (.var 3) .nil)))
 .nil) .nil)
 (.cons (.ret (.tup (.cons (.var 1) (.cons (.var 2) (.cons (.var 3) .nil)))))
 .nil))))⟩
abbrev cE(B:Nat)(p:Pr):Prop:=p.1.length<=B/\p.2.1.length<=B/\p.2.2.length<=B
def yc{fb:Nat}{sb:Stmt}(hf:T[f]?=S (jC s fb fn))(J:T[fb]?=S (iJ sb))(B:T[fn]?=S (cL sn)){k:Nat}(Z:2<=k){p:Pr}(L:cE 100000 p)(q:∀M',Ge M M'->Q (prD (sgn p)) M'):phi T k f [prD p] M Q:=by
 refine ao ∅ hf rfl (ρ:=[S _,Y,Y,Y]) rfl ?_
 unfold jC prD;let⟨l,r,o⟩:=p;let⟨h1,h2,F⟩:=L;dsimp only at h1 h2 F⊢;nofun;refine ce (I:=λρ M'=>Ge M M'/\ρ=[S (.tup [.tup (l.map .int),.tup (r.map .int),.tup (o.map .int)]),S (.tup ((sg1 (l,r,o)).1.map .int)),S (.tup (r.map .int)),S (.tup ((sg1 (l,r,o)).2.2.map .int))]) (λR j=>?_) ?_
 ·ac_nf;refine qT J ∅ h1 λO g1=>⟨_,rfl,?_⟩
  unfold sg1 at j;dsimp only at j
  cases hz:bbl l with
  |false=>
   rw[if_neg (·)]
   ac_nf;rw[hz,if_neg (·)]at j
   show j _ _ ⟨g1,rfl⟩
  |true=>
   rw[if_pos rfl];nofun;rw[hz,if_pos rfl]at j;refine bP B ∅ h1 λM2 g2=>?_
   refine bP B ∅ F λU g3=>?_
   show j _ _ ⟨g1.trans (g2.trans g3),rfl⟩
 rintro ρ O ⟨g1,rfl⟩;let z:(sg1 (l,r,o)).2.1=r:=by unfold sg1;split<;>rfl
 let G:(sg1 (l,r,o)).2.2.length<=100000:=by unfold sg1;split<;>simp[ngl,F]
 refine ce (I:=λρ M'=>Ge M M'/\ρ=[S (.tup [.tup (l.map .int),.tup (r.map .int),.tup (o.map .int)]),S (.tup ((sgn (l,r,o)).1.map .int)),S (.tup ((sgn (l,r,o)).2.1.map .int)),S (.tup ((sgn (l,r,o)).2.2.map .int))]) (λR j=>?_) ?_
 ·ac_nf;refine qT J ∅ h2 λM2 g2=>⟨_,rfl,?_⟩
  unfold sgn sg2 at j;rw[z]at j
  cases hz:bbl r with
  |false=>
   rw[if_neg (·)]
   ac_nf;rw[hz,if_neg (·)]at j
   calc j _ _ ⟨g1.trans g2,?_⟩;rw[z]
  |true=>
   rw[if_pos rfl];nofun;rw[hz,if_pos rfl]at j;refine bP B ∅ h2 λU g3=>?_
   refine bP B ∅ G λM4 F3=>?_
   show j _ _ ⟨g1.trans (g2.trans (g3.trans F3)),rfl⟩
 rintro ρ M2 ⟨g2,rfl⟩;nofun;show⟨by rw[hH];lia,q _ g2⟩
def cq{a b:List Int}(q:Q (.bl (decide (a=b))) M):wEq (.tup (a.map .int)) (.tup (b.map .int)) M Q:=by
 refine⟨.tuple (a.map .int),.tuple (b.map .int),by simp[rb,cn],by simp[rb,cn],?_⟩
 rw[Md,L2.eqv_ints];show q
abbrev dU(s:Stmt)(fa:Nat):FD:=⟨"put_together",s,["one","other","l","r","o","x","y","z"],2,
 (.cons (.asg (.tup (.cons (.tup (.cons (.name 2) (.cons (.name 3) (.cons (.name 4) .nil)))) (.cons (.tup (.cons (.name 5) (.cons (.name 6) (.cons (.name 7) .nil)))) .nil))) (.tup (.cons (.var 0) (.cons (.var 1) .nil))))
 (.cons (.ite (.and (.cons (.cmp .eq (.var 2) (.var 5)) (.cons (.cmp .eq (.var 3) (.var 6)) .nil))) (.cons (.ret (.tup (.cons (.var 2) (.cons (.var 3) (.cons (.call fa (.cons (.var 4) (.cons (.var 7) .nil))) .nil)))))
 .nil) .nil)
 (.cons (.ite (.and (.cons (.cmp .eq (.var 2) (.var 5)) (.cons (.cmp .eq (.var 4) (.var 7)) .nil))) (.cons (.ret (.tup (.cons (.var 2) (.cons (.call fa (.cons (.var 3) (.cons (.var 6) .nil))) (.cons (.var 4) .nil)))))
 .nil) .nil)
 (.cons (.ret (.tup (.cons (.call fa (.cons (.var 2) (.cons (.var 5) .nil))) (.cons (.var 3) (.cons (.var 4) .nil)))))
 .nil))))⟩
def rS(hf:T[f]?=S (dU s fa))(B:T[fa]?=S (di sa)){k:Nat}(U:2<=k){p q:Pr}(J:cE 100000 p)(h:∀M',Ge M M'->Q (prD (ptg p q)) M'):phi T k f [prD p,prD q] M Q:=by
 refine ao ∅ hf rfl (ρ:=[S _,S _,Y,Y,Y,Y,Y,Y]) rfl ?_
 unfold dU prD;let⟨l,r,o⟩:=p;let⟨x,y,z⟩:=q;let⟨h1,h2,F⟩:=J;dsimp only at h1 h2 F⊢;unfold ptg at h;dsimp only at h;nofun;refine⟨by rw[hH];lia,?_⟩
 nofun;calc cq ?_;let third:¬(l=x/\r=y)->¬(l=x/\o=z)->wSs (phi T (k-1)) (.cons (.ret (.tup (.cons (.call fa (.cons (.var 2) (.cons (.var 5) .nil))) (.cons (.var 3) (.cons (.var 4) .nil))))) .nil) {nx:=λ_ M'=>Q .non M',rt:=Q}
  [S (.tup [.tup (l.map .int),.tup (r.map .int),.tup (o.map .int)]),S (.tup [.tup (x.map .int),.tup (y.map .int),.tup (z.map .int)]),S (.tup (l.map .int)),S (.tup (r.map .int)),S (.tup (o.map .int)),S (.tup (x.map .int)),S (.tup (y.map .int)),S (.tup (z.map .int))] M:=by
  intro L O;nofun;refine bQ B ∅ h1 λG g1=>?_
  ac_nf;rw[if_neg L,if_neg O]at h;show⟨by rw[hH];lia,h _ g1⟩
 by_cases e1:l=x
 ·rw[decide_eq_true e1];ac_nf;calc cq ?_;ac_nf
  by_cases e2:r=y
  ·rw[if_pos e2];nofun;refine bQ B ∅ F λG g1=>?_
   ac_nf;rw[if_pos ⟨e1,e2⟩]at h;show⟨by rw[hH];lia,h _ g1⟩
  ·rw[if_neg e2];nofun;calc cq ?_;rw[decide_eq_true e1];ac_nf;calc cq ?_;ac_nf
   by_cases j:o=z
   ·rw[if_pos j];nofun;refine bQ B ∅ h2 λG g1=>?_
    ac_nf;rw[if_neg (λz=>e2 z.2),if_pos ⟨e1,j⟩]at h;show⟨by rw[hH];lia,h _ g1⟩
   ·rw[if_neg j];show third (λz=>e2 z.2) (λz=>j z.2)
 ·rw[decide_eq_false e1];ac_nf;nofun;calc cq ?_;rw[decide_eq_false e1];ac_nf;show third (λz=>e1 z.1) (λz=>e1 z.1)
end
section
open L2.Srt
variable{T:List FD}
noncomputable instance memNK(k:NK)(l:List NK):Decidable (k∈l):=decidable_of_iff (∃x∈l,x=k) ⟨λg9=>(by let⟨_,h,e⟩:=g9;show e▸h),λh=>⟨k,h,rfl⟩⟩
abbrev kyA(p:Pr):NK:=[.inl 0,.inr p.2.1,.inr p.2.2]
abbrev kyB(p:Pr):NK:=[.inl 1,.inr p.1,.inr p.2.2]
abbrev kyC(p:Pr):NK:=[.inl 2,.inr p.1,.inr p.2.1]
abbrev ky(p:Pr):List NK:=[kyA p,kyB p,kyC p]
abbrev fi(k:NK):List Pr->Option Nat
 |[]=>Y
 |p::ps=>if k∈ky p then S 0 else(fi k ps).map (· + 1)
def fJ{k:NK}{p:Pr}:∀{ps:List Pr},fi k (ps++[p])=match fi k ps with|some i=>S i|none=>if k∈ky p then S ps.length else Y
 |[]=>by simp[fi]
 |u::ps=>by
  change fi k (u::(ps++[p]))=_;unfold fi
  by_cases h:k∈ky u
  ·rw[if_pos h,if_pos h]
  ·rw[if_neg h,if_neg h,fJ (ps:=ps)]
   cases fi k ps with
   |some i=>rfl
   |none=>
    simp only[Option.map_none]
    by_cases h2:k∈ky p<;>simp[h2]
def lP{k:NK}:∀{ps:List Pr} {i:Nat},fi k ps=S i->∃p,ps[i]?=S p/\k∈ky p
 |[],i,h=>by cases h
 |u::ps,i,h=>by
  unfold fi at h
  by_cases c:k∈ky u
  ·rw[if_pos c]at h;cases h;show⟨u,rfl,c⟩
  ·rw[if_neg c]at h;let⟨j,q,rfl⟩:=O8.mp h;let⟨p,h1,h2⟩:=lP q;show⟨p,by simpa using h1,h2⟩
def vj{k:NK}{p:Pr}:∀{ps:List Pr} {r:Nat},ps[r]?=S p->k∈ky p->∃i,i<=r/\fi k ps=S i
 |[],r,h,_=>by simp at h
 |u::ps,r,h,j=>by
  unfold fi
  by_cases c:k∈ky u
  ·rw[if_pos c];show⟨0,NM _,rfl⟩
  ·rw[if_neg c]
   cases r with
   |zero=>simp at h;subst h;show absurd j c
   |succ r=>
    let⟨i,h1,h2⟩:=vj (ps:=ps) (r:=r) (by simpa using h) j
    show⟨i+1,∅,by rw[h2];rfl⟩
def ky_al{p q:Pr}:(∃k,k∈ky p/\k∈ky q)↔al2 p q:=by
 constructor
 ·rintro⟨k,h1,h2⟩;simp only[ky,Lw,LW,or_false]at h1 h2;unfold al2
  rcases h1 with rfl|rfl|rfl
  ·rcases h2 with h|h|h
   ·simp only[kyA,OS,Uw,and_true,true_and]at h;show .inr (.inr h)
   ·simp[kyA,kyB]at h
   ·simp[kyA,kyC]at h
  ·rcases h2 with h|h|h
   ·simp[kyA,kyB]at h
   ·simp only[kyB,OS,Uw,and_true,true_and]at h;show .inr (.inl h)
   ·simp[kyB,kyC]at h
  ·rcases h2 with h|h|h
   ·simp[kyA,kyC]at h
   ·simp[kyB,kyC]at h
   ·simp only[kyC,OS,Uw,and_true,true_and]at h;show .inl h
 ·rintro(⟨h1,h2⟩|⟨h1,h2⟩|⟨h1,h2⟩)
  ·show⟨kyC p,by simp[ky],by simp[ky,kyC,h1,h2]⟩
  ·show⟨kyB p,by simp[ky],by simp[ky,kyB,h1,h2]⟩
  ·show⟨kyA p,by simp[ky],by simp[ky,kyA,h1,h2]⟩
def G6{k k':NK}(h:ng kvs k=Y):ng (np kvs k v) k'=if k'=k then S v else ng kvs k':=by
 unfold np;rw[h];change ng (kvs++[(k,v)]) k'=_;unfold ng at h⊢;rw[List.find?_append]
 by_cases e:k'=k
 ·subst e;let:kvs.find? (λp=>decide (p.1=k'))=Y:=by simpa using h
  rw[this];simp
 ·rw[if_neg e];let:¬k=k':=λz=>e z.symm
  cases kvs.find? (λp=>decide (p.1=k'))<;>simp[this]
def ES{k:NK}(h:ng kvs k=Y):(np kvs k v).length=kvs.length+1:=by unfold np;rw[h];simp
def dj(h:l≠[]):fk (l.map D.int)=WX:=by
 match l,h with
 |[_],_=>rfl
 |[_,_],_=>rfl
 |[_,_,_],_=>rfl
 |_::_::_::_::_,_=>rfl
abbrev NeP(p:Pr):Prop:=p.1≠[]/\p.2.1≠[]/\p.2.2≠[]
def vm{p:Pr}(h:NeP p):∀k∈ky p,okK k=WX:=by
 intro k j;simp only[ky,Lw,LW,or_false]at j
 rcases j with rfl|rfl|rfl
 ·simp only[okK,kyA,NR,lF,dj h.2.1,dj h.2.2];rfl
 ·simp only[okK,kyB,NR,lF,dj h.1,dj h.2.2];rfl
 ·simp only[okK,kyC,NR,lF,dj h.1,dj h.2.1];rfl
structure FiI(ps:List Pr)(d:List NK)(kvs:List (NK×D))(nss:List (List Int)):Prop where
 g:∀k,ng kvs k=match fi k ps with|some i=>S (.int (i:Nat))|none=>if k∈d then S (.int ps.length)else Y
 n:∀ns,ns∈nss↔(∃(i s:Nat) (p:Pr) (k:NK),ns=[(i:Int),(s:Int)]/\ps[s]?=S p/\i<s/\k∈ky p/\fi k ps=S i)∨∃(i:Nat) (k:NK),ns=[(i:Int),(ps.length:Int)]/\k∈d/\fi k ps=S i
 l:kvs.length<=3*ps.length+d.length
 m:nss.length<=3*ps.length+d.length
def FiI.nil:FiI [] [] [] []:=⟨λk=>by simp[ng,fi],λns=>by simp,by simp,by simp⟩
def G7{k:NK}{ps:List Pr}{i:Nat}(h:fi k ps=S i):i<ps.length:=by let⟨p,h1,_⟩:=lP h;show(J4.mp h1).1
def FiI.next{ps:List Pr}{p:Pr}(h:FiI ps (ky p) kvs nss):FiI (ps++[p]) [] kvs nss where
 g:=λk=>by
  rw[h.g k,fJ]
  cases fi k ps with
  |some i=>rfl
  |none=>by_cases c:k∈ky p<;>simp[c]
 n:=λns=>by
  rw[h.n ns];constructor
  ·rintro(⟨i,s,q,k,e,e1,e2,B,z⟩|⟨i,k,e,e1,e2⟩)
   ·show .inl ⟨i,s,q,k,e,by rw[LC (J4.mp e1).1];show e1,e2,B,by rw[fJ,z]⟩
   ·show .inl ⟨i,ps.length,p,k,e,by simp,G7 e2,e1,by rw[fJ,e2]⟩
  ·rintro(⟨i,s,q,k,e,e1,e2,B,z⟩|⟨i,k,e,e1,e2⟩)
   ·let hs:s<(ps++[p]).length:=(J4.mp e1).1;rw[fJ]at z;let G:fi k ps=S i:=by
     cases hz:fi k ps with
     |some j=>rw[hz]at z;show z
     |none=>
      rw[hz]at z;dsimp only at z
      split at z
      ·cases z;simp at hs;lia
      ·cases z
    by_cases c:s<ps.length
    ·rw[LC c]at e1;show .inl ⟨i,s,q,k,e,e1,e2,B,G⟩
    ·let F:s=ps.length:=by simp at hs;lia
     subst F;simp at e1;subst e1;show .inr ⟨i,k,e,B,G⟩
   ·cases e1
 l:=by let:=h.l;simp[ky]at this⊢;lia
 m:=by let:=h.m;simp[ky]at this⊢;lia
def FiI.old{ps:List Pr}{d:List NK}(h:FiI ps d kvs nss){k:NK}{i:Nat}(e:fi k ps=S i):FiI ps (d++[k]) kvs (nss++[[(i:Int),(ps.length:Int)]]) where
 g:=λk'=>by
  rw[h.g k']
  cases hz:fi k' ps with
  |some j=>rfl
  |none=>
   let:¬k'=k:=λz=>by rw[z,e]at hz;cases hz
   simp[this]
 n:=λns=>by
  rw[Lv,h.n ns];constructor
  ·rintro((h1|⟨j,k',e1,e2,q⟩)|h1)
   ·show .inl h1
   ·show .inr ⟨j,k',e1,by simp[e2],q⟩
   ·simp at h1;show .inr ⟨i,k,by simp[h1],by simp,e⟩
  ·rintro(h1|⟨j,k',e1,e2,q⟩)
   ·show .inl (.inl h1)
   ·rcases Lv.mp e2 with e2|e2
    ·show .inl (.inr ⟨j,k',e1,e2,q⟩)
    ·simp at e2;subst e2;rw[e]at q;cases q;show .inr (by simp[e1])
 l:=by let:=h.l;simp;lia
 m:=by let:=h.m;simp;lia
def FiI.new{ps:List Pr}{d:List NK}(h:FiI ps d kvs nss){k:NK}(e:fi k ps=Y)(hd:k∉d):FiI ps (d++[k]) (np kvs k (.int (ps.length:Nat))) nss where
 g:=λk'=>by
  let z:ng kvs k=Y:=by rw[h.g k,e];simp[hd]
  rw[G6 z]
  by_cases c:k'=k
  ·subst c;rw[if_pos rfl,e];simp
  ·rw[if_neg c,h.g k']
   cases fi k' ps with
   |some j=>rfl
   |none=>simp[c]
 n:=λns=>by
  rw[h.n ns];constructor
  ·rintro(h1|⟨j,k',e1,e2,q⟩)
   ·show .inl h1
   ·show .inr ⟨j,k',e1,by simp[e2],q⟩
  ·rintro(h1|⟨j,k',e1,e2,q⟩)
   ·show .inl h1
   ·rcases Lv.mp e2 with e2|e2
    ·show .inr ⟨j,k',e1,e2,q⟩
    ·simp at e2;subst e2;rw[e]at q;cases q
 l:=by
  let z:ng kvs k=Y:=by rw[h.g k,e];simp[hd]
  let:=h.l;rw[ES z];simp;lia
 m:=by let:=h.m;simp;lia
def Aq{p:Pr}:(ky p).Nodup:=by simp[ky,kyA,kyB,kyC]
abbrev iK(s:Stmt):FD:=⟨"first_alike",s,["products","firsts","pairs","at","l","r","o","key"],1,
 (.cons (.par 1 2 .dnewN (.lst .nil))
 (.cons (.for (.tup (.cons (.name 3) (.cons (.tup (.cons (.name 4) (.cons (.name 5) (.cons (.name 6) .nil)))) .nil))) (.enum (.var 0)) (.cons (.for (.name 7) (.seq (.lst (.cons (.tup (.cons (.int 0) (.cons (.var 5) (.cons (.var 6) .nil)))) (.cons (.tup (.cons (.int 1) (.cons (.var 4) (.cons (.var 6) .nil)))) (.cons (.tup (.cons (.int 2) (.cons (.var 4) (.cons (.var 5) .nil)))) .nil))))) (.cons (.ite (.cmp .inN (.var 7) (.var 1)) (.cons (.drop (.meth .append (.var 2) (.tup (.cons (.ixN (.var 1) (.var 7)) (.cons (.var 3) .nil)))))
 .nil) (.cons (.putN (.var 1) (.var 7) (.var 3))
 .nil))
 .nil))
 .nil))
 (.cons (.ret (.minD (.var 2)))
 .nil)))⟩
abbrev enP(ps:List Pr):List (Nat×Pr):=ps.mapIdx λi p=>(i,p)
abbrev enD(x:Nat×Pr):D:=.tup [.int (x.1:Nat),prD x.2]
def jD{ps:List Pr}:eN (ps.map prD)=(enP ps).map enD:=by
 unfold eN enP;apply OY;intro j;simp only[OV,Ly]
 cases ps[j]?<;>rfl
def hZ{ps:List Pr}{l r:List (Nat×Pr)}{x:Nat×Pr}(e:enP ps=l++x::r):ps=l.map (·.2)++x.2::r.map (·.2)/\x.1=l.length:=by
 let h2:ps=(enP ps).map (·.2):=by
  unfold enP;apply OY;intro j;simp only[OV,Ly]
  cases ps[j]?<;>rfl
 let hx:(enP ps)[l.length]?=S x:=hJ e;refine⟨by rw[e]at h2;simpa using h2,?_⟩
 unfold enP at hx;rw[OV]at hx
 cases hz:ps[l.length]? with
 |none=>rw[hz]at hx;cases hx
 |some p=>rw[hz]at hx;cases hx;rfl
def D4{ps:List Pr}:(enP ps).map (·.2)=ps:=by
 unfold enP;apply OY;intro j;simp only[OV,Ly]
 cases ps[j]?<;>rfl
abbrev nsD(ns:List Int):D:=.tup (ns.map .int)
def Ar(hf:T[f]?=S (iK s)){k:Nat}(hk:1<=k){ps:List Pr}(Jb:∀p∈ps,NeP p)(hl:ps.length<=100000)(h0:M p0=S (.lst (ps.map prD)))(q0:∀M',Ge M M'->(∀(r s:Nat) p' q',ps[r]?=S p'->ps[s]?=S q'->r<s->¬al2 p' q')->Q .non M')(q1:∀(r s:Nat) p q M',Ge M M'->ps[r]?=S p->ps[s]?=S q->r<s->al2 p q->(∀(r' s':Nat) p' q',ps[r']?=S p'->ps[s']?=S q'->r'<s'->al2 p' q'->r<r'∨(r=r'/\s<=s'))->Q (.tup [.int (r:Nat),.int (s:Nat)]) M'):phi T k f [.ref p0] M Q:=by
 refine ao ∅ hf rfl (ρ:=[S _,Y,Y,Y,Y,Y,Y,Y]) rfl ?_
 unfold iK;nofun;intro a ha;refine⟨by rw[hH];lia,λb U=>?_⟩
 let j:a≠b:=λz=>by rw[<-z,aa]at U;cases U
 let Jc:M b=Y:=by rw[<-U,aj (Ne.symm j)]
 let B:ad (ad M a (.dcn [])) b (.lst []) a=S (.dcn []):=by rw[aj j,aa]
 let G:ad (ad M a (.dcn [])) b (.lst []) b=S (.lst []):=aa;let m3:Ge M (ad (ad M a (.dcn [])) b (.lst [])):=(Ge.new ha).trans (Ge.new U);generalize ad (ad M a (.dcn [])) b (.lst [])=M0 at B G m3;clear U;nofun;calc⟨_,af (m3 _ _ h0),?_⟩;rw[jD];refine aI (f:=enD) (ys:=enP ps) (I:=λl ρ M'=>∃(o3 o4 o5 o6 J:Option D) (kvs:List (NK×D)) (nss:List (List Int)),ρ=[S (.ref p0),S (.ref a),S (.ref b),o3,o4,o5,o6,J]/\Ge M M'/\M' a=S (.dcn kvs)/\M' b=S (.lst (nss.map nsD))/\FiI (l.map (·.2)) [] kvs nss) rfl
  ⟨Y,Y,Y,Y,Y,[],[],rfl,m3,B,G,FiI.nil⟩ ?_ ?_ ?_
 ·rintro l ρ M' ⟨_,_,_,_,_,_,_,rfl,g,_⟩;show af (g _ _ h0)
 ·rintro l x r ρ M1 e ⟨o3,o4,o5,o6,J,kvs,nss,rfl,g,n1,n2,fI⟩;let⟨e1,e2⟩:=hZ e;let hx:NeP x.2:=Jb x.2 (by rw[e1];simp)
  let hlen:(l.map (·.2)).length<ps.length:=by let:=congrArg OE e1;simp at this⊢;lia
  calc⟨_,rfl,λF hF=>?_⟩;nofun;refine⟨by rw[hH];lia,by rw[hH];lia,by rw[hH];lia,by rw[hH];lia,λc F3=>?_⟩
  let gc:=Ge.new (o:=.lst ((ky x.2).map kdN)) F3;calc⟨_,af aa,?_⟩;let Jd:c≠a:=λz=>by rw[z,n1]at F3;cases F3
  let Je:c≠b:=λz=>by rw[z,n2]at F3;cases F3
  refine aI (f:=kdN) (ys:=ky x.2) (I:=λd ρ M'=>∃(J:Option D) (kvs:List (NK×D)) (nss:List (List Int)),ρ=[S (.ref p0),S (.ref a),S (.ref b),S (.int (x.1:Nat)),S (.tup (x.2.1.map .int)),S (.tup (x.2.2.1.map .int)),S (.tup (x.2.2.2.map .int)),J]/\Ge M M'/\M' c=S (.lst ((ky x.2).map kdN))/\M' a=S (.dcn kvs)/\M' b=S (.lst (nss.map nsD))/\FiI (l.map (·.2)) d kvs nss) rfl
   ⟨J,kvs,nss,rfl,g.trans gc,aa,gc _ _ n1,gc _ _ n2,fI⟩ ?_ ?_ ?_
  ·rintro d ρ M' ⟨_,_,_,rfl,_,m,_⟩;show af m
  ·rintro d y r' ρ M2 ey ⟨J,kvs,nss,rfl,g2,mc,B,G,fI⟩;let hy:y∈ky x.2:=by rw[ey];simp
   let hd:y∉d:=λz=>by let Z:=Aq (p:=x.2);rw[ey,PV]at Z;show Z.2.2 y z y (_) rfl
   let Jm:d.length<=3:=by let:=congrArg OE ey;simp[ky]at this;lia
   calc⟨_,rfl,λF2 O=>?_⟩;nofun;calc⟨a,kvs,y,rfl,B,rfl,vm hx y hy,?_⟩;ac_nf;let L:=fI.g y
   cases hz:fi y (l.map (·.2))with
   |some i=>
    rw[hz]at L;dsimp only at L;rw[L,if_pos (_)]
    nofun;calc⟨⟨_,G⟩,a,kvs,y,.int (i:Nat),rfl,B,rfl,vm hx y hy,L,?_⟩;refine⟨by rw[hH];lia,?_⟩
    refine⟨b,_,_,rfl,rfl,G,?_,?_⟩
    ·let:=fI.m;rw[s9,hH];simp at this hlen;lia
    refine O _ _ ⟨_,kvs,nss++[[(i:Int),((l.map (·.2)).length:Int)]],rfl,λu o eu=>?_,?_,?_,?_,fI.old hz⟩
    ·rw[aj (λz=>by rw[z,Jc]at eu;cases eu)];show g2 _ _ eu
    ·rw[aj Je];show mc
    ·rw[aj j];show B
    ·rw[aa,Mj,e2];simp[nsD]
   |none=>
    rw[hz]at L;dsimp only at L;rw[if_neg hd]at L;rw[L,if_neg (_)]
    nofun;refine⟨a,kvs,y,rfl,B,rfl,vm hx y hy,?_,?_⟩
    ·let:=fI.l;rw[hH];simp at this hlen;lia
    let e3:((x.1:Nat):Int)=(((l.map (·.2)).length:Nat):Int):=by rw[e2];simp
    rw[e3]at O⊢;refine O _ _ ⟨_,np kvs y (.int (l.map (·.2)).length),nss,rfl,λu o eu=>?_,?_,aa,?_,fI.new hz hd⟩
    ·rw[aj (λz=>by rw[z,ha]at eu;cases eu)];show g2 _ _ eu
    ·rw[aj Jd];show mc
    ·rw[aj (Ne.symm j)];show G
  ·rintro ρ M2 ⟨J,kvs,nss,rfl,g2,mc,B,G,fI⟩;let:=fI.next;show hF _ _ ⟨_,_,_,_,_,kvs,nss,rfl,g2,B,G,by simpa using this⟩
 ·rintro ρ M1 ⟨o3,o4,o5,o6,J,kvs,nss,rfl,g,n1,n2,fI⟩;rw[D4]at fI;nofun;refine⟨nss,n2,λhz=>q0 M1 g λr s p' q' hr hs Jn Jf=>?_,λns Jg hle=>?_⟩
  ·let⟨k,k1,k2⟩:=ky_al.mpr Jf;let⟨i,i1,i2⟩:=vj hr k1;let:=(fI.n [(i:Int),(s:Int)]).mpr (.inl ⟨i,s,q',k,rfl,hs,∅,k2,i2⟩)
   rw[hz]at this;cases this
  ·rcases(fI.n ns).mp Jg with⟨i,s,q,k,rfl,hs,Jh,hk,hi⟩|⟨_,_,_,h,_⟩
   ·let⟨p,hp,Ji⟩:=lP hi;calc q1 i s p q M1 g hp hs Jh (ky_al.mp ⟨k,Ji,hk⟩) λr' s' p' q' Jj Jk Jl Ja=>?_;let⟨k',k1,k2⟩:=ky_al.mpr Ja;let⟨i',i1,i2⟩:=vj Jj k1;let:=hle _ ((fI.n [(i':Int),(s':Int)]).mpr (.inl ⟨i',s',q',k',rfl,Jk,∅,k2,i2⟩))
    rw[HT.lexLt_cons]at this
    by_cases c:(i':Int)=i
    ·rw[if_pos c,HT.lexLt_cons]at this
     by_cases c2:(s':Int)=s
     ·by_cases c3:i=r'
      ·show .inr ⟨c3,∅⟩
      ·show .inl ∅
     ·rw[if_neg c2]at this;let:=of_decide_eq_false this
      by_cases c3:i=r'
      ·show .inr ⟨c3,∅⟩
      ·show .inl ∅
    ·rw[if_neg c]at this;let:=of_decide_eq_false this;show .inl ∅
   ·cases h
end
section
open L2.Srt
variable{T:List FD}
def dE(h:n<=xs.length):bA xs Y (S (n:Int))=xs.take n:=by unfold bA;rw[HT.sIx_none,HT.sIx_nat,NU h];simp
def dF(h:n<=xs.length):bA xs (S (n:Int)) Y=xs.drop n:=by unfold bA;rw[HT.sIx_none,HT.sIx_nat,NU h];show NF (_)
def yd{α:Type}{A C:List α}{p:α}:(A++p::C).take A.length=A:=by simp
def qU{α:Type}{A C:List α}{p:α}:(A++p::C).drop (A.length+1)=C:=by rw[show A++p::C=(A++[p])++C by simp,show A.length+1=(A++[p]).length by simp,TY]
def G8{α:Type}{A C:List α}{p x:α}:(A++p::C).set A.length x=A++x::C:=by rw[TF _ _ (Lz _)];simp
def D5{α:Type}{X F3 W:List α}{x z:α}:(X++x::(F3++z::W)).eraseIdx (X.length+1+F3.length)=X++x::(F3++W):=by rw[show X++x::(F3++z::W)=(X++x::F3)++z::W by simp,QA (by simp;lia),show X.length+1+F3.length-(X++x::F3).length=0 by simp;lia];simp
abbrev lQ(s:Stmt)(fn fa ft:Nat):FD:=⟨"one_fewer",s,["products","empty","pair","r","s","made"],1,
 (.cons (.asg (.name 1) (.comp [Y,Y] ["at","product"] (.last (.enum (.var 0)) (.tup (.cons (.name 0) (.cons (.name 1) .nil))) (.cons (.tru (.call fn (.cons (.var 1) .nil))) .nil) (.var 0))))
 (.cons (.ite (.tru (.var 1)) (.cons (.ret (.bin .add (.sl (.var 0) .none (.some (.ix (.var 1) (.int 0)))) (.sl (.var 0) (.some (.bin .add (.ix (.var 1) (.int 0)) (.int 1))) .none)))
 .nil) .nil)
 (.cons (.asg (.name 2) (.call fa (.cons (.var 0) .nil)))
 (.cons (.ite (.cmp .is (.var 2) .non) (.cons (.ret .non)
 .nil) .nil)
 (.cons (.asg (.tup (.cons (.name 3) (.cons (.name 4) .nil))) (.var 2))
 (.cons (.asg (.name 5) (.blt .list (.cons (.var 0) .nil)))
 (.cons (.put (.var 5) (.var 3) (.call ft (.cons (.ix (.var 0) (.var 3)) (.cons (.ix (.var 0) (.var 4)) .nil))))
 (.cons (.dell (.var 5) (.var 4))
 (.cons (.ret (.var 5))
 .nil)))))))))⟩
abbrev emp(l:List (Nat×Pr)):List Int:=(l.filter λx=>!okp x.2).map λx=>(x.1:Int)
def qV{ps:List Pr}{s:Nat}{p q:Pr}(hr:ps[r]?=S p)(hs:ps[s]?=S q)(h:r<s):∃A B C,ps=A++p::(B++q::C)/\A.length=r/\A.length+1+B.length=s:=by
 let lr:=(J4.mp hr).1;let ls:=(J4.mp hs).1;refine⟨ps.take r,(ps.drop (r+1)).take (s-r-1),ps.drop (s+1),?_,by simp;lia,by simp;lia⟩
 let e1:ps=ps.take r++ps.drop r:=(MV r ps).symm;let e2:ps.drop r=p::ps.drop (r+1):=by rw[MK lr];congr 1;show(J4.mp hr).2
 let j:ps.drop (r+1)=(ps.drop (r+1)).take (s-r-1)++ps.drop s:=by
  let:=(MV (s-r-1) (ps.drop (r+1))).symm;rw[QM,show r+1+(s-r-1)=s by lia]at this
  show this
 let z:ps.drop s=q::ps.drop (s+1):=by rw[MK ls];congr 1;show(J4.mp hs).2
 rw[<-z,<-j,<-e2];show e1
def enP_mem{ps:List Pr}{i:Nat}{p:Pr}:(i,p)∈enP ps↔ps[i]?=S p:=by
 unfold enP;rw[List.mem_mapIdx];constructor
 ·rintro⟨j,q,e⟩
  cases e
  show D1 q
 ·intro h;show⟨i,(J4.mp h).1,by rw[(J4.mp h).2]⟩
def lU{ps:List Pr}:(enP ps).length=ps.length:=by simp[enP]
def As{ps:List Pr}{x:Int}{r:List Int}(h:emp (enP ps)=x::r):∃A C p,ps=A++p::C/\okp p=WY/\(∀q∈A,okp q=WX)/\x=(A.length:Nat):=by
 unfold emp at h;let⟨y,l,e1,e2,J⟩:=List.map_eq_cons_iff.mp h;rw[List.filter_eq_cons_iff]at e1;let⟨l1,l2,j,B,F,L⟩:=e1;let⟨h1,h2⟩:=hZ j;refine⟨l1.map (·.2),l2.map (·.2),y.2,h1,by simpa using F,λq G=>?_,by rw[<-e2,h2];simp⟩
 let⟨z,hz,rfl⟩:=LI.mp G;simpa using B z hz
def D6{ps:List Pr}(h:emp (enP ps)=[]):∀p∈ps,okp p=WX:=λp j=>by unfold emp at h;rw[Uh,Th]at h;let⟨i,hi⟩:=Ol j;simpa using h (i,p) (enP_mem.mpr hi)
def Au{st' sd:Stmt}(hf:T[f]?=S (lQ s fn fa ft))(Z:T[fn]?=S (eU sn))(Ja:T[fa]?=S (iK sa))(Jb:T[ft]?=S (dU st' fd))(Jc:T[fd]?=S (di sd)){k:Nat}(hk:3<=k){ps:List Pr}(Jd:∀p∈ps,NeP p)(Je:∀p∈ps,cE 100000 p)(hl:ps.length<=100000)(h0:M p0=S (.lst (ps.map prD)))(q0:∀M',Ge M M'->Fw ps Y->Q .non M')(q1:∀qs pr M',Fw ps (S qs)->Ge M M'->M pr=Y->M' pr=S (.lst (qs.map prD))->Q (.ref pr) M'):phi T k f [.ref p0] M Q:=by
 refine ao ∅ hf rfl (ρ:=[S _,Y,Y,Y,Y,Y]) rfl ?_
 unfold lQ;nofun;calc⟨_,af h0,?_⟩;rw[jD];refine aA (f:=enD) (ys:=enP ps) (I:=λl ρ M' acc=>(∃o0 o1,ρ=[o0,o1])/\Ge M M'/\acc=(emp l).map .int) rfl ⟨⟨_,_,rfl⟩,Ge.refl,rfl⟩ (λ_ _ _ _ h=>af (h.2.1 _ _ h0)) ?_ ?_
 ·rintro l x r ρ M1 acc e ⟨⟨o0,o1,rfl⟩,g1,rfl⟩;calc⟨_,rfl,λN' F=>?_⟩;let Jf:=ar e;rw[lU]at Jf;let Jj:(emp l).length<=l.length:=by unfold emp;rw[s9];show Nc _ _
  ac_nf;refine rR Z ∅ λM2 g2=>⟨_,rfl,?_⟩
  cases hz:okp x.2 with
  |true=>simp only[P9,Ml,if_false];calc F _ _ _ ⟨⟨_,_,rfl⟩,g1.trans g2,?_⟩;unfold emp;rw[Mb,Mw (by simp[hz])];simp
  |false=>
   simp only[U8,if_true];refine⟨by rw[s9,hH];lia,F _ _ _ ⟨⟨_,_,rfl⟩,g1.trans g2,?_⟩⟩
   unfold emp;rw[Mb,Mv (by simp[hz])];simp
 rintro ρ M1 acc ⟨⟨o0,o1,rfl⟩,g1,rfl⟩ pe hpe;let g2:=g1.trans (Ge.new (o:=.lst ((emp (enP ps)).map .int)) hpe);let me:ad M1 pe (.lst ((emp (enP ps)).map .int)) pe=S (.lst ((emp (enP ps)).map .int)):=aa;generalize ad M1 pe (.lst ((emp (enP ps)).map .int))=M2 at g2 me;clear hpe;nofun
 cases hz:emp (enP ps)with
 |cons x r=>
  rw[hz]at me;refine⟨WX,by simp[jn,me],?_⟩
  rw[if_pos rfl];let⟨A,C,p,e,hp,hA,rfl⟩:=As hz;let hle:A.length+1<=(ps.map prD).length:=by rw[e];simp
  nofun;calc al me (d:=.int (A.length:Nat)) (am (k:=0) rfl) ?_;calc⟨_,rfl,_,g2 _ _ h0,λpa G=>?_⟩;let ga:=g2.trans (Ge.new (o:=.lst (bA (ps.map prD) Y (S (A.length:Nat)))) G);calc al (Ge.new G _ _ me) (d:=.int (A.length:Nat)) (am (k:=0) rfl) ?_;ac_nf;calc⟨_,ga _ _ h0,λpb J=>?_⟩;let hs:((A.length:Nat):Int)+1=((A.length+1:Nat):Int):=∅
  rw[hs];let gb:=ga.trans (Ge.new (o:=.lst (bA (ps.map prD) (S ((A.length+1:Nat):Int)) Y)) J);refine⟨_,_,Ge.new J _ _ aa,aa,?_,λpc L=>?_⟩
  ·rw[dE ∅,dF ∅,hH];simp;lia
  rw[dE ∅,dF ∅]at *
  let gc:=gb.trans (Ge.new (o:=.lst ((ps.map prD).take A.length++(ps.map prD).drop (A.length+1))) L);refine q1 (A++C) pc _ (.nought A C p e hp hA) gc ?_ ?_
  ·cases hz:M pc with
   |none=>rfl
   |some o=>let:=gb _ _ hz;rw[L]at this;cases this
  ·rw[aa,e];let:(((A++p::C).map prD).take A.length++((A++p::C).map prD).drop (A.length+1))=(A++C).map prD:=by
    rw[<-Qn,<-Qo,<-Mj];rw[yd,qU]
   rw[this]
 |nil=>
  rw[hz]at me;refine⟨WY,by simp[jn,me],?_⟩
  rw[if_neg (·)]
  let hok:=D6 hz;nofun;refine Ar Ja ∅ Jd hl (g2 _ _ h0) (λM3 g3 Jg=>?_) λr s p q M3 g3 hr hs Jh Ji hle=>?_
  ·nofun;calc⟨_,rfl,_,rfl,?_⟩;rw[if_pos rfl];nofun;show q0 _ (g2.trans g3) (.none hok Jg)
  ·nofun;calc⟨_,rfl,_,rfl,?_⟩;rw[if_neg (_)]
   nofun;let g3:=g2.trans g3;nofun;calc⟨_,_,rfl,af (g3 _ _ h0),λpm O=>?_⟩;let F3:=g3.trans (Ge.new (o:=.lst (ps.map prD)) O);let mm:ad M3 pm (.lst (ps.map prD)) pm=S (.lst (ps.map prD)):=aa;generalize ad M3 pm (.lst (ps.map prD))=M4 at F3 mm;let U:M pm=Y:=by
    cases hz:M pm with
    |none=>rfl
    |some o=>let:=g3 _ _ hz;rw[O]at this;cases this
   nofun;refine al (F3 _ _ h0) (d:=prD p) (am (by rw[Ly,hr];rfl)) ?_
   refine al (F3 _ _ h0) (d:=prD q) (am (by rw[Ly,hs];rfl)) ?_
   refine rS Jb Jc ∅ (Je p (LJ hr)) λM5 g5=>?_
   let lr:=(J4.mp hr).1;let ls:=(J4.mp hs).1;refine b9 (g5 _ _ mm) (j:=r) ?_ ?_
   ·unfold ixN;rw[if_pos ∅,if_pos (by simp;lia)];rfl
   nofun;refine⟨_,aa,s,rfl,by simp;lia,∅,?_⟩
   nofun;let⟨A,B,C,e,l1,l2⟩:=qV hr hs Jh;refine q1 (A++ptg p q::(B++C)) pm _ (.alike A B C p q e Ji hok λr' s' p' q' h1 h2 h3 h4=>?_) (λu o eu=>?_) U ?_
   ·let:=hle r' s' p' q' h1 h2 h3 h4;rw[l2,l1];show this
   ·let hu:u≠pm:=λz=>by rw[z,U]at eu;cases eu
    rw[aj hu,aj hu];show g5 _ _ (F3 _ _ eu)
   ·rw[aa];let:(((ps.map prD).set r (prD (ptg p q))).eraseIdx s)=(A++ptg p q::(B++C)).map prD:=by
     rw[e,<-l2,<-l1];let e1:A.length=(A.map prD).length:=by simp
     let e2:B.length=(B.map prD).length:=by simp
     rw[Mj,LL,Mj,LL,e1,e2,G8,D5];simp
    rw[this]
abbrev jE(s:Stmt)(fs fo:Nat):FD:=⟨"tidied",s,["scheme","left","right","many","products","tidy","fewer"],1,
 (.cons (.asg (.tup (.cons (.name 1) (.cons (.name 2) (.cons (.name 3) (.cons (.name 4) .nil))))) (.var 0))
 (.cons (.asg (.name 5) (.comp [Y] ["product"] (.last (.seq (.var 4)) (.name 0) .nil (.call fs (.cons (.var 0) .nil)))))
 (.cons (.asg (.name 6) (.call fo (.cons (.var 5) .nil)))
 (.cons (.while (.cmp .isn (.var 6) .non) (.cons (.asg (.name 5) (.var 6))
 (.cons (.asg (.name 6) (.call fo (.cons (.var 5) .nil)))
 .nil)))
 (.cons (.ret (.tup (.cons (.var 1) (.cons (.var 2) (.cons (.var 3) (.cons (.var 5) .nil))))))
 .nil)))))⟩
structure Tdy(L0 L1 L2:Nat)(ps:List Pr):Prop where
 l:Lns L0 L1 L2 ps
 h0:1<=L0/\L0<=1000
 h1:1<=L1/\L1<=1000
 h2:1<=L2/\L2<=1000
 n:ps.length<=10000
def Tdy.ne{ps:List Pr}(h:Tdy L0 L1 L2 ps):∀p∈ps,NeP p:=λp j=>by
 let⟨l0,l1,l2⟩:=h.l p j;let a:=h.h0;let b:=h.h1;let c:=h.h2;refine⟨λz=>?_,λz=>?_,λz=>?_⟩
 ·rw[z]at l0;simp at l0;lia
 ·rw[z]at l1;simp at l1;lia
 ·rw[z]at l2;simp at l2;lia
def Tdy.lp{ps:List Pr}(h:Tdy L0 L1 L2 ps):∀p∈ps,cE 100000 p:=λp j=>by let⟨l0,l1,l2⟩:=h.l p j;let a:=h.h0;let b:=h.h1;let c:=h.h2;show⟨∅,∅,∅⟩
def Tdy.fw{ps qs:List Pr}(h:Tdy L0 L1 L2 ps)(w:Fw ps (S qs)):Tdy L0 L1 L2 qs:=⟨w.lns h.l,h.h0,h.h1,h.h2,by let:=w.len;let:=h.n;lia⟩
def Tdy.td{ps qs:List Pr}(h:Tdy L0 L1 L2 ps)(w:Td ps qs):Tdy L0 L1 L2 qs:=⟨w.lns h.l,h.h0,h.h1,h.h2,by let:=w.len;let:=h.n;lia⟩
def Tdy.sg{ps:List Pr}(h:Tdy L0 L1 L2 ps):Tdy L0 L1 L2 (ps.map sgn):=⟨CW h.l,h.h0,h.h1,h.h2,by rw[s9];show h.n⟩
abbrev fK(T:List FD)(n f:Nat):Prop:=∀{L0 L1 L2:Nat} {p0:WZ} {ps:List Pr} {M:Mem} {Q:QD},Tdy L0 L1 L2 ps->M p0=S (.lst (ps.map prD))->(∀M',Ge M M'->Fw ps Y->Q .non M')->
 (∀qs pr M',Fw ps (S qs)->Ge M M'->M pr=Y->M' pr=S (.lst (qs.map prD))->Q (.ref pr) M')->phi T n f [.ref p0] M Q
abbrev dl(T:List FD)(n f:Nat):Prop:=∀{p:Pr} {M:Mem} {Q:QD},cE 100000 p->(∀M',Ge M M'->Q (prD (sgn p)) M')->phi T n f [prD p] M Q
def ye{fs fo:Nat}(hf:T[f]?=S (jE s fs fo))(hs:dl T (n-1) fs)(ho:fK T (n-1) fo)(Z:1<=n){x z:D}{B:WZ}{ps:List Pr}(F:Tdy L0 L1 L2 ps)(h0:M B=S (.lst (ps.map prD)))(q:∀qs pr M',Td (ps.map sgn) qs->Ge M M'->M pr=Y->M' pr=S (.lst (qs.map prD))->Q (.tup [x,y,z,.ref pr]) M'):phi T n f [.tup [x,y,z,.ref B]] M Q:=by
 calc ao Z hf rfl (ρ:=[S _,Y,Y,Y,Y,Y,Y]) rfl ?_;unfold jE;nofun;nofun;calc⟨_,af h0,?_⟩;refine aA (f:=prD) (ys:=ps) (I:=λl ρ M' acc=>(∃o0,ρ=[o0])/\Ge M M'/\acc=(l.map sgn).map prD) rfl ⟨⟨_,rfl⟩,Ge.refl,rfl⟩ (λ_ _ _ _ h=>af (h.2.1 _ _ h0)) ?_ ?_
 ·rintro l u r ρ G acc e ⟨⟨o0,rfl⟩,g1,rfl⟩;calc⟨_,rfl,λN' J=>?_⟩;let Ja:=ar e;let:=F.n;ac_nf;refine hs (F.lp u (by rw[e];simp)) λM2 g2=>?_
  refine⟨by simp[hH];lia,J _ _ _ ⟨⟨_,rfl⟩,g1.trans g2,by simp⟩⟩
 rintro ρ G acc ⟨⟨o0,rfl⟩,g1,rfl⟩ pt hpt;let L:M pt=Y:=by
  cases hz:M pt with
  |none=>rfl
  |some o=>let:=g1 _ _ hz;rw[hpt]at this;cases this
 let g2:=g1.trans (Ge.new (o:=.lst ((ps.map sgn).map prD)) hpt);let mt:ad G pt (.lst ((ps.map sgn).map prD)) pt=S (.lst ((ps.map sgn).map prD)):=aa;generalize ad G pt (.lst ((ps.map sgn).map prD))=M2 at g2 mt;clear hpt g1;nofun;let loop:∀(m:Nat) (qs:List Pr) (pq:WZ) (M2:Mem),qs.length<=m->Tdy L0 L1 L2 qs->(∀rs,Td qs rs->Td (ps.map sgn) rs)->Ge M M2->M pq=Y->M2 pq=S (.lst (qs.map prD))->
  phi T (n-1) fo [.ref pq] M2 λd j=>aN (cv (wOp lw (aP 6) (wC .non))) (wSs (phi T (n-1)) (MSs.cons (MS.asg (MG.name 5) (ME.var 6)) (MSs.cons (MS.asg (MG.name 6) (ME.call fo (MEs.cons (ME.var 5) MEs.nil))) MSs.nil)))
   {nx:=wSs (phi T (n-1)) (MSs.cons (MS.ret (ME.tup (MEs.cons (ME.var 1) (MEs.cons (ME.var 2) (MEs.cons (ME.var 3) (MEs.cons (ME.var 5) MEs.nil)))))) MSs.nil) {nx:=λ_ M'=>Q D.non M',rt:=Q},rt:=Q} (m+1)
   [S (.tup [x,y,z,.ref B]),S x,S y,S z,S (.ref B),S (.ref pq),S d] j:=by
  intro m
  induction m with
  |zero=>
   intro qs pq M2 hm tq hr g O mq;refine ho tq mq (λj g3 w=>?_) λqs' pr j w=>?_
   ·rw[aN];ac_nf;calc⟨_,rfl,_,rfl,?_⟩;rw[if_neg (·)]
    nofun;show⟨by rw[hH];lia,q qs pq j (hr _ (.done w)) (g.trans g3) O (g3 _ _ mq)⟩
   ·let:=w.len;lia
  |succ m ih=>
   intro qs pq M2 hm tq hr g O mq;refine ho tq mq (λj g3 w=>?_) λqs' pr j w g3 U mr=>?_
   ·rw[aN];ac_nf;calc⟨_,rfl,_,rfl,?_⟩;rw[if_neg (·)]
    nofun;show⟨by rw[hH];lia,q qs pq j (hr _ (.done w)) (g.trans g3) O (g3 _ _ mq)⟩
   ·let F3:M pr=Y:=by
     cases hz:M pr with
     |none=>rfl
     |some o=>let:=g _ _ hz;rw[U]at this;cases this
    rw[aN];ac_nf;calc⟨_,rfl,_,rfl,?_⟩;rw[if_pos (_)]
    nofun;nofun;show ih qs' pr j (by let:=w.len;lia) (tq.fw w) (λrs t=>hr rs (.step w t)) (g.trans g3) F3 mr
 calc eL T _ _ _ _ _ _ (λd j h=>?_) (loop (ps.map sgn).length (ps.map sgn) pt M2 (Lz _) F.sg (λ_ h=>h) g2 L mt);nofun;show⟨_,h⟩
end
section
open L2.Srt
variable{T:List FD}
abbrev gr(nm xp xn:Str)(s:Stmt):FD:=⟨nm,s,[xp],1,
 (.cons (.ret (.blt .tuple (.cons (.comp [Y] [xn] (.last (.seq (.var 0)) (.name 0) .nil (.neg (.var 0)))) .nil)))
 .nil)⟩
def nB{nm xp:Str}(hf:T[f]?=S (gr nm xp xn s)){k:Nat}(B:1<=k)(j:l.length<=100000)(q:∀M',Ge M M'->Q (.tup ((ngl l).map .int)) M'):phi T k f [.tup (l.map .int)] M Q:=by
 refine ao ∅ hf rfl (ρ:=[S _]) rfl ?_
 unfold gr;nofun;refine jB j (by first|rfl|trivial) λρ p z=>?_
 show⟨_,_,rfl,af aa,q _ (Ge.new z)⟩
abbrev prt(p:Pr):Nat->List Int|0=>p.1|1=>p.2.1|_=>p.2.2
abbrev pst(p:Pr)(m:List Int):Nat->Pr|0=>(m,p.2.1,p.2.2)|1=>(p.1,m,p.2.2)|_=>(p.1,p.2.1,m)
def bE{p:Pr}{i:Nat}(h:i<3):(prL p)[i]?=S (.tup ((prt p i).map .int)):=by
 match i,h with
 |0,_=>rfl
 |1,_=>rfl
 |2,_=>rfl
def fL{p:Pr}{i:Nat}(h:i<3){m:List Int}:(prL p).set i (.tup (m.map .int))=prL (pst p m i):=by
 match i,h with
 |0,_=>rfl
 |1,_=>rfl
 |2,_=>rfl
def el{p:Pr}{B:Nat}(h:cE B p){i:Nat}:(prt p i).length<=B:=by
 match i with
 |0=>show h.1
 |1=>show h.2.1
 |_+2=>show h.2.2
abbrev sgS(i:Nat)(p:Pr):Pr:=if bbl (prt p i)=WX then pst (pst p (ngl (prt p i)) i) (ngl p.2.2) 2 else p
def D7{i:Nat}{p:Pr}{B:Nat}(h:cE B p):cE B (sgS i p):=by
 unfold sgS
 split
 ·match i with
  |0=>show⟨by simpa[pst,prt,ngl]using h.1,h.2.1,by simpa[pst,ngl]using h.2.2⟩
  |1=>show⟨h.1,by simpa[pst,prt,ngl]using h.2.1,by simpa[pst,ngl]using h.2.2⟩
  |_+2=>show⟨h.1,h.2.1,by simpa[pst,ngl]using h.2.2⟩
 ·show h
def qW{B:Nat}:∀(l:List Nat) {p:Pr},cE B p->cE B (l.foldl (λu i=>sgS i u) p)
 |[],_,h=>h
 |i::l,p,h=>qW l (D7 h)
abbrev i3(xn:Str)(s:Stmt)(fa:Nat):FD:=⟨"_law_signed",s,["_law_product","_law_parts","_law_side","_law_some"],1,
 (.cons (.asg (.name 1) (.blt .list (.cons (.var 0) .nil)))
 (.cons (.for (.name 2) (.rng1 (.int 2)) (.cons (.asg (.name 3) (.comp [Y] [xn] (.last (.seq (.ix (.var 1) (.var 2))) (.name 0) (.cons (.cmp .ne (.var 0) (.int 0)) .nil) (.var 0))))
 (.cons (.ite (.and (.cons (.cmp .ne (.var 3) (.lst .nil)) (.cons (.cmp .lt (.ix (.var 3) (.int 0)) (.int 0)) .nil))) (.cons (.put2 (.var 1) (.var 2) (.var 1) (.int 2) (.tup (.cons (.call fa (.cons (.ix (.var 1) (.var 2)) .nil)) (.cons (.call fa (.cons (.ix (.var 1) (.int 2)) .nil)) .nil))))
 .nil) .nil)
 .nil)))
 (.cons (.ret (.blt .tuple (.cons (.var 1) .nil)))
 .nil)))⟩
abbrev jF(T:List FD)(n f:Nat):Prop:=∀{l:List Int} {M:Mem} {Q:QD},l.length<=100000->(∀M',Ge M M'->Q (.tup ((ngl l).map .int)) M')->phi T n f [.tup (l.map .int)] M Q
def vp(hf:T[f]?=S (i3 xn s fa))(ha:jF T (n-1) fa)(hn:1<=n):dl T n f:=by
 intro p M Q hl q;calc ao hn hf rfl (ρ:=[S _,Y,Y,Y]) rfl ?_;unfold i3 prD;nofun;calc⟨_,_,rfl,rfl,λpp U=>?_⟩;let mp:ad M pp (.lst [.tup (p.1.map .int),.tup (p.2.1.map .int),.tup (p.2.2.map .int)]) pp=S (.lst (prL p)):=aa;let g0:=Ge.new (o:=.lst [.tup (p.1.map .int),.tup (p.2.1.map .int),.tup (p.2.2.map .int)]) U;generalize ad M pp (.lst [.tup (p.1.map .int),.tup (p.2.1.map .int),.tup (p.2.2.map .int)])=M0 at mp g0;nofun;refine⟨by decide,by decide,?_⟩
 let er:aW 0 (2:Int).toNat=[0,1].map λi:Nat=>D.int (i:Nat):=rfl;rw[er];refine aI (f:=λi:Nat=>D.int (i:Nat)) (ys:=[0,1]) (I:=λl ρ M'=>∃G J:Option D,ρ=[S (.tup [.tup (p.1.map .int),.tup (p.2.1.map .int),.tup (p.2.2.map .int)]),S (.ref pp),G,J]/\Ge M M'/\M' pp=S (.lst (prL (l.foldl (λu i=>sgS i u) p)))/\∀i∈l,i<2) rfl
  ⟨Y,Y,rfl,g0,mp,λ_ h=>by cases h⟩ (λ_ _ _ _=>trivial) ?_ ?_
 ·rintro l i r ρ M1 e ⟨G,J,rfl,g1,F3,Z⟩;let hi:i<2:=by
   let:i∈[0,1]:=by rw[e];simp
   simp at this;lia
  let hu:cE 100000 (l.foldl (λu i=>sgS i u) p):=by show qW l hl
  let B:(l++[i]).foldl (λu i=>sgS i u) p=sgS i (l.foldl (λu i=>sgS i u) p):=by rw[List.foldl_append];rfl
  generalize l.foldl (λu i=>sgS i u) p=u at F3 hu B;calc⟨_,rfl,λF hF=>?_⟩;rw[B]at hF;let L:∀ρ2 M2,(∃G J:Option D,ρ2=[S (.tup [.tup (p.1.map .int),.tup (p.2.1.map .int),.tup (p.2.2.map .int)]),S (.ref pp),G,J]/\Ge M M2/\M2 pp=S (.lst (prL (sgS i u))))->F ρ2 M2:=λρ2 M2 ⟨G,J,h1,h2,h3⟩=>hF ρ2 M2 ⟨G,J,h1,h2,h3,λj hj=>by
   rcases Lv.mp hj with hj|hj
   ·show Z j hj
   ·simp at hj;lia⟩
  clear hF B Z;nofun;refine al F3 (am (bE ∅)) ?_
  calc⟨_,rfl,?_⟩;refine qS (el hu) (by first|rfl|trivial) λρ ps hps=>?_
  let g2:=g1.trans (Ge.new (o:=.lst ((nzf (prt u i)).map .int)) hps);let O:ad M1 ps (.lst ((nzf (prt u i)).map .int)) pp=S (.lst (prL u)):=Ge.new hps _ _ F3;let ms:ad M1 ps (.lst ((nzf (prt u i)).map .int)) ps=S (.lst ((nzf (prt u i)).map .int)):=aa;generalize ad M1 ps (.lst ((nzf (prt u i)).map .int))=M2 at g2 O ms;nofun;refine⟨by rw[hH];lia,λpz Jc=>?_⟩
  let gz:=Ge.new (o:=.lst []) Jc;refine⟨_,_,by rw[cc (gz _ _ ms),cn];rfl,by rw[cc aa];rfl,?_⟩
  cases hz:nzf (prt u i)with
  |nil=>
   calc⟨_,rfl,?_⟩;rw[if_neg (by simp[Md,MA])]
   ac_nf;calc L _ _ ⟨_,_,rfl,g2.trans gz,?_⟩;let:sgS i u=u:=by unfold sgS bbl;rw[hz];rfl
   rw[this];show gz _ _ O
  |cons x r'=>
   calc⟨_,rfl,?_⟩;rw[if_pos (by simp[Md,MA])]
   rw[hz]at ms;calc al (gz _ _ ms) (d:=.int x) (am (k:=0) rfl) ?_;ac_nf;let hb:bbl (prt u i)=decide (x<0):=by unfold bbl;rw[hz]
   by_cases hx:x<0
   ·rw[if_pos hx];let Jd:sgS i u=pst (pst u (ngl (prt u i)) i) (ngl u.2.2) 2:=by unfold sgS;rw[if_pos (by rw[hb];simpa using hx)]
    nofun;refine al (gz _ _ O) (am (bE ∅)) ?_
    calc ha (el hu) λM3 g3=>?_;let Ja:=gz.trans g3;calc al (Ja _ _ O) (d:=.tup (u.2.2.map .int)) (am (k:=2) rfl) ?_;calc ha hu.2.2 λM4 g4=>?_;let Jb:=Ja.trans g4;refine⟨by rw[hH];lia,_,_,⟨rfl,rfl⟩,?_⟩
    refine b9 (Jb _ _ O) (j:=i) ?_ ?_
    ·unfold ixN;rw[if_pos ∅,if_pos (by simp[prL];lia)];rfl
    rw[fL ∅]
    calc b9 aa (j:=2) rfl ?_;rw[fL ∅,gZ]
    refine L _ _ ⟨_,_,rfl,λc o ec=>?_,by rw[aa,Jd]⟩
    rw[aj (λz=>by rw[z,U]at ec;cases ec)]
    show Jb _ _ (g2 _ _ ec)
   ·rw[if_neg hx];calc L _ _ ⟨_,_,rfl,g2.trans gz,?_⟩;let:sgS i u=u:=by unfold sgS;rw[if_neg (by rw[hb];simpa using hx)]
    rw[this];show gz _ _ O
 ·rintro ρ M1 ⟨G,J,rfl,g1,F3,_⟩;nofun;calc⟨_,_,rfl,af F3,?_⟩;show q _ g1
abbrev jG(s:Stmt):FD:=⟨"_law_added",s,["_law_one","_law_other"],2,
 (.cons (.ret (.blt .tuple (.cons (.comp [Y,(S 0),(S 1)] ["_law_at","_law_one","_law_other"] (.last (.rng1 (.blt .len (.cons (.var 0) .nil))) (.name 0) .nil (.bin .add (.ix (.var 1) (.var 0)) (.ix (.var 2) (.var 0))))) .nil)))
 .nil)⟩
def yf(hf:T[f]?=S (jG s)){k:Nat}(F:1<=k){a b:List Int}(G:a.length<=100000)(z:a.length=b.length)(q:∀M',Ge M M'->Q (.tup ((adl a b).map .int)) M'):phi T k f [.tup (a.map .int),.tup (b.map .int)] M Q:=by
 refine ao ∅ hf rfl (ρ:=[S _,S _]) rfl ?_
 unfold jG;nofun;rw[s9];refine⟨∅,∅,?_⟩
 rw[LU,aR];refine aA (f:=λi:Nat=>D.int (i:Nat)) (ys:=LO a.length) (I:=λl ρ M' acc=>(∃o0,ρ=[o0,S (.tup (a.map .int)),S (.tup (b.map .int))])/\M'=M/\acc=((adl a b).take l.length).map .int) rfl ⟨⟨_,rfl⟩,rfl,rfl⟩ (λ_ _ _ _ _=>trivial) ?_ ?_
 ·rintro l i r ρ M1 acc e ⟨⟨o0,rfl⟩,rfl,rfl⟩;calc⟨_,rfl,fun N' B=>?_⟩;let j:=ar e;rw[Mg]at j;let hi:i=l.length:=by
   let:=hJ e;rw[Qb j]at this;show(Nw.inj this).symm
  subst hi;let h1:(a.map D.int)[l.length]?=S (.int (a[l.length]'j)):=by rw[Ly,D1 j];rfl
  let h2:(b.map D.int)[l.length]?=S (.int (b[l.length]'∅)):=by rw[Ly,D1 ∅];rfl
  ac_nf;calc⟨_,am h1,_,am h2,?_⟩;ac_nf;refine⟨by simp[hH];lia,B _ _ _ ⟨⟨_,rfl⟩,rfl,?_⟩⟩
  rw[I7,LY,List.take_succ,Mj];congr 1;let:(adl a b)[l.length]?=S (a[l.length]'j+b[l.length]'∅):=by unfold adl;rw[Tz,D1 j,D1 ∅]
  rw[this];rfl
 ·rintro ρ M1 acc ⟨⟨o0,rfl⟩,rfl,rfl⟩ p hp;calc⟨_,_,rfl,af aa,?_⟩;rw[Mg,NF (by rw[bS rfl z.symm];show Lz _)]
  show q _ (Ge.new hp)
end
section
open L2.Srt
variable{T:List FD}
abbrev qX(fa:Nat):MSs:=(.cons (.asg (.name 5) (.ix (.comp [Y,(S 4)] ["_law_side","_law_alike"] (.last (.seq (.tup (.cons (.int 2) (.cons (.int 1) (.cons (.int 0) .nil))))) (.name 0) (.cons (.or (.cons (.cmp .ninS (.var 0) (.var 1)) (.cons (.cmp .eq (.var 1) (.lst (.cons (.int 0) (.cons (.int 1) (.cons (.int 2) .nil))))) .nil))) .nil) (.var 0))) (.int 0)))
 (.cons (.asg (.name 6) (.blt .list (.cons (.ix (.var 0) (.var 2)) .nil)))
 (.cons (.put (.var 6) (.var 5) (.call fa (.cons (.ix (.ix (.var 0) (.var 2)) (.var 5)) (.cons (.ix (.ix (.var 0) (.var 3)) (.var 5)) .nil))))
 (.cons (.asg (.name 7) (.bin .add (.sl (.var 0) (.some (.bin .add (.var 2) (.int 1))) (.some (.var 3))) (.sl (.var 0) (.some (.bin .add (.var 3) (.int 1))) .none)))
 (.cons (.ret (.bin .add (.bin .add (.sl (.var 0) .none (.some (.var 2))) (.lst (.cons (.blt .tuple (.cons (.var 6) .nil)) .nil))) (.var 7)))
 .nil)))))
abbrev yg(xp:Str)(s:Stmt)(fa:Nat):FD:=⟨"_law_less",s,["_law_products","_law_at","_law_r","_law_s","_law_alike","_law_third","_law_both","_law_rest"],1,
 (.cons (.for (.name 1) (.rng1 (.blt .len (.cons (.var 0) .nil))) (.cons (.ite (.cmp .ne (.comp [Y] [xp] (.last (.seq (.ix (.var 0) (.var 1))) (.name 0) (.cons (.cmp .eq (.var 0) (.bin .mul (.tup (.cons (.int 0) .nil)) (.blt .len (.cons (.var 0) .nil)))) .nil) (.var 0))) (.lst .nil)) (.cons (.ret (.bin .add (.sl (.var 0) .none (.some (.var 1))) (.sl (.var 0) (.some (.bin .add (.var 1) (.int 1))) .none)))
 .nil) .nil)
 .nil))
 (.cons (.for (.name 2) (.rng1 (.blt .len (.cons (.var 0) .nil))) (.cons (.for (.name 3) (.rng2 (.bin .add (.var 2) (.int 1)) (.blt .len (.cons (.var 0) .nil))) (.cons (.asg (.name 4) (.comp [Y,(S 0),(S 2),(S 3)] ["_law_side","_law_products","_law_r","_law_s"] (.last (.rng1 (.int 3)) (.name 0) (.cons (.cmp .eq (.ix (.ix (.var 1) (.var 2)) (.var 0)) (.ix (.ix (.var 1) (.var 3)) (.var 0))) .nil) (.var 0))))
 (.cons (.ite (.cmp .gt (.blt .len (.cons (.var 4) .nil)) (.int 1)) (qX fa) .nil)
 .nil)))
 .nil))
 (.cons (.ret .non)
 .nil)))⟩
def nzb_rep:∀{l:List Int},(nzb l=WY)↔l=LQ l.length 0
 |[]=>by simp[nzb]
 |x::l=>by rw[qR,Bool.or_eq_false_iff,nzb_rep (l:=l),My,Nf,OS];simp
def ET{ps:List Pr}{B:WZ}(h0:M B=S (.lst (ps.map prD))){a b:Nat}(G:a<=ps.length)(J:b<=ps.length)(O:ps.length<=100000)(q:∀pc M',Ge M M'->M pc=Y->M' pc=S (.lst ((ps.take a++ps.drop b).map prD))->Q (.ref pc) M'):
 bR (.ref B) Y (S (a:Int)) M λx L=>bR (.ref B) (S (b:Int)) Y L λy M2=>fT x y M2 Q:=by
 calc⟨_,h0,λpa F=>?_⟩;let ga:=Ge.new (o:=.lst (bA (ps.map prD) Y (S (a:Int)))) F;calc⟨_,ga _ _ h0,λpb j=>?_⟩;let gb:=ga.trans (Ge.new (o:=.lst (bA (ps.map prD) (S (b:Int)) Y)) j);refine⟨_,_,Ge.new j _ _ aa,aa,?_,λpc z=>?_⟩
 ·rw[dE (by simpa using G),dF (by simpa using J),hH];simp;lia
 refine q pc _ (gb.trans (Ge.new z)) ?_ ?_
 ·cases hz:M pc with
  |none=>rfl
  |some o=>let:=gb _ _ hz;rw[z]at this;cases this
 ·rw[aa,dE (by simpa using G),dF (by simpa using J),<-Qn,<-Qo,<-Mj]
abbrev eqs(p q:Pr)(l:List Nat):List Nat:=l.filter λi=>decide (prt p i=prt q i)
def eqs_al{p q:Pr}:1<(eqs p q [0,1,2]).length↔al2 p q:=by
 unfold eqs al2
 by_cases h0:p.1=q.1<;>by_cases h1:p.2.1=q.2.1<;>by_cases h2:p.2.2=q.2.2<;>simp[prt,h0,h1,h2]
abbrev thd(p q:Pr)(l:List Nat):List Nat:=l.filter λi=>decide (i∉eqs p q [0,1,2]) || decide (eqs p q [0,1,2]=[0,1,2])
def EU{p q:Pr}(h:al2 p q):∃t r,thd p q [2,1,0]=t::r/\t<3/\pst p (adl (prt p t) (prt q t)) t=ptg p q:=by
 unfold thd eqs ptg;unfold al2 at h
 by_cases h0:p.1=q.1<;>by_cases h1:p.2.1=q.2.1<;>by_cases h2:p.2.2=q.2.2<;>simp[prt,pst,h0,h1,h2]at h⊢
def Av{ps:List Pr}{z:WZ}(h0:M z=S (.lst (ps.map prD))){s:Nat}{p q:Pr}(hr:ps[r]?=S p)(hs:ps[s]?=S q)(F:∀ρ,N ρ M ((eqs p q [0,1,2]).map λi=>D.int (i:Nat))):
 aU (b6 0) (aX [cv (wOp wEq (wOp wIx (wOp wIx (aP 1) (aP 2)) (aP 0)) (wOp wIx (wOp wIx (aP 1) (aP 3)) (aP 0)))] (bv (aP 0))) (λ_=>True) N (aW 0 (3:Int).toNat) [o0,S (.ref z),S (.int (r:Nat)),S (.int (s:Nat))] M []:=by
 let er:aW 0 (3:Int).toNat=[0,1,2].map λi:Nat=>D.int (i:Nat):=rfl;rw[er];refine aA (f:=λi:Nat=>D.int (i:Nat)) (ys:=[0,1,2]) (I:=λl ρ M' acc=>(∃o0,ρ=[o0,S (.ref z),S (.int (r:Nat)),S (.int (s:Nat))])/\M'=M/\acc=(eqs p q l).map λi=>D.int (i:Nat)) rfl ⟨⟨_,rfl⟩,rfl,rfl⟩ (λ_ _ _ _ _=>trivial) ?_ ?_
 ·rintro l i r' ρ M1 acc e ⟨⟨o0,rfl⟩,rfl,rfl⟩;calc⟨_,rfl,fun N' j=>?_⟩;let hi:i<3:=by
   let:i∈[0,1,2]:=by rw[e];simp
   simp at this;lia
  let G:l.length<3:=ar e;let B:(eqs p q l).length<=l.length:=Nc _ _;ac_nf;refine al h0 (d:=prD p) (am (by rw[Ly,hr];rfl)) ?_
  calc⟨_,_,rfl,am (bE hi),?_⟩;refine al h0 (d:=prD q) (am (by rw[Ly,hs];rfl)) ?_
  calc⟨_,_,rfl,am (bE hi),?_⟩;calc cq ⟨_,rfl,?_⟩;unfold eqs
  by_cases hz:prt p i=prt q i
  ·rw[if_pos (by simpa using hz)]
   refine ⟨by let B:(l.filter fun i=>decide (prt p i=prt q i)).length<=l.length:=Nc _ _
              rw[s9,hH];lia,j _ _ _ ⟨⟨_,rfl⟩,rfl,?_⟩⟩
   unfold eqs;rw[Mb,Mv (by simpa using hz)];simp
  ·rw[if_neg (by simpa using hz)]
   calc j _ _ _ ⟨⟨_,rfl⟩,rfl,?_⟩;unfold eqs;rw[Mb,Mw (by simpa using hz)];simp
 ·rintro ρ M1 acc ⟨⟨o0,rfl⟩,rfl,rfl⟩;show F _
def Aw{p q:Pr}{pk:WZ}(G:M pk=S (.lst ((eqs p q [0,1,2]).map λi=>D.int (i:Nat))))(J:∀ρ M',Ge M M'->N ρ M' ((thd p q [2,1,0]).map λi=>D.int (i:Nat))):
 aU (b6 0) (aX [pT (cv (wOp kI (aP 0) (aP 1))) (cv (wOp wEq (aP 1) (wAr lg (au (wC (.int 0)) (au (wC (.int 1)) (au (wC (.int 2)) aY))))))] (bv (aP 0))) (λ_=>True) N [.int 2,.int 1,.int 0] [o0,S (.ref pk)] M []:=by
 let er:[D.int 2,.int 1,.int 0]=[2,1,0].map λi:Nat=>D.int (i:Nat):=rfl;rw[er];refine aA (f:=λi:Nat=>D.int (i:Nat)) (ys:=[2,1,0]) (I:=λl ρ M' acc=>(∃o0,ρ=[o0,S (.ref pk)])/\Ge M M'/\acc=(thd p q l).map λi=>D.int (i:Nat)) rfl ⟨⟨_,rfl⟩,Ge.refl,rfl⟩ (λ_ _ _ _ _=>trivial) ?_ ?_
 ·rintro l i r' ρ M1 acc e ⟨⟨o0,rfl⟩,g,rfl⟩;calc⟨_,rfl,fun N' B=>?_⟩;let L:l.length<3:=ar e;let O:(thd p q l).length<=l.length:=Nc _ _;let emit:∀{ρ2:ax} {M2:Mem},(∃o0,ρ2=[o0,S (.ref pk)])->Ge M M2->(decide (i∉eqs p q [0,1,2]) || decide (eqs p q [0,1,2]=[0,1,2]))=WX->N' ρ2 M2 ((thd p q l).map (fun i=>D.int (i:Nat))++[.int (i:Nat)]):=by
   intro ρ2 M2 h1 h2 U;calc B _ _ _ ⟨h1,h2,?_⟩;unfold thd;rw[Mb,Mv (by simpa using U)];simp
  let hm:((i:Nat):Int)∈(eqs p q [0,1,2]).map (λi=>((i:Nat):Int))↔i∈eqs p q [0,1,2]:=by
   rw[LI];constructor
   ·rintro⟨j,h1,h2⟩;let:j=i:=by lia
    rw[<-this];show h1
   ·showλh=>⟨i,h,rfl⟩
  ac_nf;refine⟨(eqs p q [0,1,2]).map λi=>((i:Nat):Int),by rw[af (g _ _ G),NG];rfl,?_⟩
  refine⟨_,rfl,?_⟩
  by_cases hz:i∈eqs p q [0,1,2]
  ·rw[decide_eq_true (hm.mpr hz)];simp only[P9,Ml,if_false];refine⟨by rw[hH];lia,λpn F=>?_⟩
   let gn:=Ge.new (o:=.lst [D.int 0,.int 1,.int 2]) F;refine⟨_,_,by rw[cc (gn _ _ (g _ _ G)),show(eqs p q [0,1,2]).map (λi=>D.int (i:Nat))=((eqs p q [0,1,2]).map λi=>((i:Nat):Int)).map .int by rw[NG];rfl,cn];rfl,by rw[cc aa,show[D.int 0,.int 1,.int 2]=([0,1,2]:List Int).map .int from rfl,cn];rfl,?_⟩
   calc⟨_,rfl,?_⟩;let ev:Md (.list (((eqs p q [0,1,2]).map λi=>((i:Nat):Int)).map Qv)) (.list (([0,1,2]:List Int).map Qv))=decide (eqs p q [0,1,2]=[0,1,2]):=by
    rw[Md,L2.eqv_ints];let:((eqs p q [0,1,2]).map λi=>((i:Nat):Int))=[0,1,2]↔eqs p q [0,1,2]=[0,1,2]:=by
     constructor
     ·intro h;let h2:(eqs p q [0,1,2]).map (λi=>((i:Nat):Int))=[0,1,2].map (λi:Nat=>((i:Nat):Int)):=h;show(List.map_inj_right (λa b h=>∅)).mp h2
     ·intro h;rw[h];rfl
    show decide_eq_decide.mpr this
   rw[ev]
   by_cases hw:eqs p q [0,1,2]=[0,1,2]
   ·rw[if_pos (by simpa using hw)]
    show⟨by rw[s9,hH];lia,emit ⟨_,rfl⟩ (g.trans gn) (by simp[hw])⟩
   ·rw[if_neg (by simpa using hw)]
    calc B _ _ _ ⟨⟨_,rfl⟩,g.trans gn,?_⟩;unfold thd;rw[Mb,Mw (by simp[hz,hw])];simp
  ·rw[decide_eq_false (λz=>hz (hm.mp z))];simp only[U8,if_true];show⟨by rw[s9,hH];lia,emit ⟨_,rfl⟩ g (by simp[hz])⟩
 ·rintro ρ M1 acc ⟨⟨o0,rfl⟩,g,rfl⟩;show J _ _ g
end
section
open L2.Srt
variable{T:List FD}
abbrev gu(T:List FD)(n f:Nat):Prop:=∀{a b:List Int} {M:Mem} {Q:QD},a.length<=100000->a.length=b.length->(∀M',Ge M M'->Q (.tup ((adl a b).map .int)) M')->phi T n f [.tup (a.map .int),.tup (b.map .int)] M Q
def Ax{a b:Nat}(h:a<=b)(j:b<=xs.length):bA xs (S (a:Int)) (S (b:Int))=(xs.drop a).take (b-a):=by unfold bA;rw[HT.sIx_nat,HT.sIx_nat,NU j,NU (MR h j)]
def bh{c:WZ}(g:Ge M M')(h:M' c=Y):M c=Y:=by
 cases hz:M c with
 |none=>rfl
 |some o=>let:=g _ _ hz;rw[h]at this;cases this
def kQ{p q:Pr}(j:p.1.length=L0/\p.2.1.length=L1/\p.2.2.length=L2)(z:q.1.length=L0/\q.2.1.length=L1/\q.2.2.length=L2){i:Nat}:(prt p i).length=(prt q i).length:=by
 match i with
 |0=>show j.1.trans z.1.symm
 |1=>show j.2.1.trans z.2.1.symm
 |_+2=>show j.2.2.trans z.2.2.symm
def yh(ha:gu T n fa){ps:List Pr}(hT:Tdy L0 L1 L2 ps){pk:WZ}{s:Nat}{p q:Pr}(hr:ps[r]?=S p)(hs:ps[s]?=S q)(Je:r<s)(Jf:al2 p q)(h0:M p0=S (.lst (ps.map prD)))(hk:M pk=S (.lst ((eqs p q [0,1,2]).map λi=>D.int (i:Nat)))){o1 o5 o6 o7:Option D}(hE:∀A B C pr M',ps=A++p::(B++q::C)->A.length=r->A.length+1+B.length=s->Ge M M'->M pr=Y->M' pr=S (.lst ((A++ptg p q::(B++C)).map prD))->E.rt (.ref pr) M'):
 wSs (phi T n) (qX fa) E [S (.ref p0),o1,S (.int (r:Nat)),S (.int (s:Nat)),S (.ref pk),o5,o6,o7] M:=by
 let lr:=(J4.mp hr).1;let ls:=(J4.mp hs).1;let hn:=hT.n;unfold qX;nofun;refine⟨by rw[hH];lia,?_⟩
 calc Aw hk λρ M1 g1 pt hpt=>?_;let⟨t,rt,et,ht,F3⟩:=EU Jf;rw[et];let g2:=g1.trans (Ge.new (o:=.lst ((t::rt).map λi=>D.int (i:Nat))) hpt);calc al aa (d:=.int (t:Nat)) (am (k:=0) rfl) ?_;generalize ad M1 pt (.lst ((t::rt).map λi=>D.int (i:Nat)))=M2 at g2;clear hpt;nofun;refine al (g2 _ _ h0) (d:=prD p) (am (by rw[Ly,hr];rfl)) ?_
 calc⟨_,_,rfl,rfl,λpb G=>?_⟩;let g3:=g2.trans (Ge.new (o:=.lst (prL p)) G);let mb:ad M2 pb (.lst (prL p)) pb=S (.lst (prL p)):=aa;let Jg:=bh g2 G;change wSs _ _ _ _ (ad M2 pb (.lst (prL p)));generalize ad M2 pb (.lst (prL p))=M3 at g3 mb;clear G;nofun;refine al (g3 _ _ h0) (d:=prD p) (am (by rw[Ly,hr];rfl)) ?_
 calc⟨_,_,rfl,am (bE ht),?_⟩;refine al (g3 _ _ h0) (d:=prD q) (am (by rw[Ly,hs];rfl)) ?_
 calc⟨_,_,rfl,am (bE ht),?_⟩;let mp:p∈ps:=LJ hr;let mq:q∈ps:=LJ hs;calc ha (el (hT.lp p mp)) (kQ (hT.l p mp) (hT.l q mq)) λM4 g4=>?_;refine b9 (g4 _ _ mb) (j:=t) ?_ ?_
 ·unfold ixN;rw[if_pos ∅,if_pos (by simp[prL];lia)];rfl
 rw[fL ht,F3];let g5:Ge M (ad M4 pb (.lst (prL (ptg p q)))):=λc o ec=>by rw[aj (λz=>by rw[z,Jg]at ec;cases ec)];show g4 _ _ (g3 _ _ ec)
 let Z:ad M4 pb (.lst (prL (ptg p q))) pb=S (.lst (prL (ptg p q))):=aa;generalize ad M4 pb (.lst (prL (ptg p q)))=M5 at g5 Z;nofun;let e1:((r:Nat):Int)+1=((r+1:Nat):Int):=∅
 let e2:((s:Nat):Int)+1=((s+1:Nat):Int):=∅
 rw[e1,e2];calc⟨_,g5 _ _ h0,λpc J=>?_⟩;let g6:=g5.trans (Ge.new (o:=.lst (bA (ps.map prD) (S ((r+1:Nat):Int)) (S ((s:Nat):Int)))) J);calc⟨_,g6 _ _ h0,λpd F=>?_⟩;let g7:=g6.trans (Ge.new (o:=.lst (bA (ps.map prD) (S ((s+1:Nat):Int)) Y)) F);let⟨A,B,C,e,l1,l2⟩:=qV hr hs Je;let c1:bA (ps.map prD) (S ((r+1:Nat):Int)) (S ((s:Nat):Int))=B.map prD:=by
  rw[Ax ∅ (by simp;lia),<-Qo,<-Qn]
  congr 1;rw[e,<-l1,qU,show s-(A.length+1)=B.length by lia,TZ]
 let c2:bA (ps.map prD) (S ((s+1:Nat):Int)) Y=C.map prD:=by
  rw[dF (by simp;lia),<-Qo]
  congr 1;rw[e,<-l2,show A++p::(B++q::C)=(A++p::B)++q::C by simp,show A.length+1+B.length+1=(A++p::B).length+1 by simp;lia,qU]
 rw[c1]at g6 g7 F⊢;rw[c2]at g7⊢;let lA:=congrArg OE e;simp at lA;refine⟨_,_,Ge.new F _ _ aa,aa,by rw[hH];simp;lia,λpe L=>?_⟩
 rw[<-Mj];let g8:=g7.trans (Ge.new (o:=.lst ((B++C).map prD)) L);let me:ad (ad (ad M5 pc (.lst (B.map prD))) pd (.lst (C.map prD))) pe (.lst ((B++C).map prD)) pe=S (.lst ((B++C).map prD)):=aa;let Ja:ad (ad (ad M5 pc (.lst (B.map prD))) pd (.lst (C.map prD))) pe (.lst ((B++C).map prD)) pb=S (.lst (prL (ptg p q))):=Ge.new L _ _ (Ge.new F _ _ (Ge.new J _ _ Z));generalize ad (ad (ad M5 pc (.lst (B.map prD))) pd (.lst (C.map prD))) pe (.lst ((B++C).map prD))=M6 at g8 me Ja;clear J F L g6 g7;nofun;calc⟨_,g8 _ _ h0,λpf O=>?_⟩;let c3:bA (ps.map prD) Y (S ((r:Nat):Int))=A.map prD:=by
  rw[dE (by simp;lia),<-Qn]
  congr 1;rw[e,<-l1,yd]
 rw[c3];let g9:=g8.trans (Ge.new (o:=.lst (A.map prD)) O);calc⟨_,_,rfl,af (Ge.new O _ _ Ja),?_⟩;refine⟨by rw[hH];lia,λpg U=>?_⟩
 let Jh:=g9.trans (Ge.new (o:=.lst [D.tup (prL (ptg p q))]) U);refine⟨_,_,Ge.new U _ _ aa,aa,by rw[hH];simp;lia,λph Jb=>?_⟩
 let Jc:=Jh.trans (Ge.new (o:=.lst (A.map prD++[D.tup (prL (ptg p q))])) Jb);refine⟨_,_,aa,Ge.new Jb _ _ (Ge.new U _ _ (Ge.new O _ _ me)),by rw[hH];simp;lia,λpi Jd=>?_⟩
 calc hE A B C pi _ e l1 l2 (Jc.trans (Ge.new Jd)) (bh Jc Jd) ?_;rw[aa];simp[prD,prL]
def tu{k:Nat}{M:Mem}:∀ls:List (List Int),aD (rb (k+1) M) (ls.map λl=>D.tup (l.map .int))=S (ls.map λl=>V7 (l.map .int))
 |[]=>rfl
 |l::ls=>by simp[aD,rb,cn,tu ls]
abbrev nts(l:List (List Int)):List (List Int):=l.filter λw=>!nzb w
def nts_ok{p:Pr}:(nts [p.1,p.2.1,p.2.2]=[])↔okp p=WX:=by
 unfold nts okp
 cases h0:nzb p.1<;>cases h1:nzb p.2.1<;>cases h2:nzb p.2.2<;>simp[h0,h1,h2]
def Ay{p:Pr}(B:cE 100000 p){chk:Mem->Prop}(F:chk M)(q:∀ρ,N ρ M ((nts [p.1,p.2.1,p.2.2]).map λl=>D.tup (l.map .int))):
 aU (b6 0) (aX [cv (wOp wEq (aP 0) (wOp gI (wAr pH (au (wC (.int 0)) aY)) (wAr dI (au (aP 0) aY))))] (bv (aP 0))) chk N (prL p) [o0] M []:=by
 refine aA (f:=λw:List Int=>D.tup (w.map .int)) (ys:=[p.1,p.2.1,p.2.2]) (I:=λl ρ M' acc=>(∃o0,ρ=[o0])/\M'=M/\acc=(nts l).map λl=>D.tup (l.map .int)) rfl ⟨⟨_,rfl⟩,rfl,rfl⟩ (λ_ _ _ _ h=>by rw[h.2.1];show F) ?_ ?_
 ·rintro l w r ρ M1 acc e ⟨⟨o0,rfl⟩,rfl,rfl⟩;calc⟨_,rfl,fun N' j=>?_⟩;let G:l.length<3:=ar e;let J:(nts l).length<=l.length:=Nc _ _;let hw:w.length<=100000:=by
   let:w∈[p.1,p.2.1,p.2.2]:=by rw[e];simp
   simp at this
   rcases this with rfl|rfl|rfl
   ·show B.1
   ·show B.2.1
   ·show B.2.2
  ac_nf;rw[s9];refine⟨by rw[hH];lia,∅,∅,by rw[hH];simp;lia,?_⟩
  rw[LU,EQ];refine cq ⟨_,rfl,?_⟩
  by_cases hz:nzb w=WY
  ·rw[if_pos (by simpa using nzb_rep.mp hz)]
   refine⟨by rw[s9,hH];lia,j _ _ _ ⟨⟨_,rfl⟩,rfl,?_⟩⟩
   unfold nts;rw[Mb,Mv (by simp[hz])];simp
  ·rw[if_neg (by simpa usingλz=>hz (nzb_rep.mpr z))]
   calc j _ _ _ ⟨⟨_,rfl⟩,rfl,?_⟩;unfold nts;rw[Mb,Mw (by simpa using hz)];simp
 ·rintro ρ M1 acc ⟨⟨o0,rfl⟩,rfl,rfl⟩;show q _
def bT{l r:List Nat}{i:Nat}(e:LO n=l++i::r):i=l.length/\i<n:=by let j:=ar e;rw[Mg]at j;let:=hJ e;rw[Qb j]at this;show⟨(Nw.inj this).symm,by rw[<-Nw.inj this];show j⟩
def Az{xp:Str}(hf:T[f]?=S (yg xp s fa))(ha:gu T (n-1) fa)(hn:1<=n):fK T n f:=by
 intro L0 L1 L2 p0 ps M Q hT h0 q0 q1;let Jh:=hT.n;calc ao hn hf rfl (ρ:=[S _,Y,Y,Y,Y,Y,Y,Y]) rfl ?_;unfold yg;nofun;calc aQ h0 ?_;ac_nf;rw[s9];refine⟨∅,∅,?_⟩
 rw[LU,aR];refine aI (f:=λi:Nat=>D.int (i:Nat)) (ys:=LO ps.length) (I:=λl ρ M'=>∃o1:Option D,ρ=[S (.ref p0),o1,Y,Y,Y,Y,Y,Y]/\Ge M M'/\∀q∈ps.take l.length,okp q=WX) rfl
  ⟨Y,rfl,Ge.refl,λq G=>by simp at G⟩ (λ_ _ _ _=>trivial) ?_ ?_
 ·rintro l i r ρ M1 e ⟨o1,rfl,g1,hok⟩;let⟨hi,U⟩:=bT e;calc⟨_,rfl,λF hF=>?_⟩;let O:ps[i]?=S (ps[i]'U):=D1 U;generalize ps[i]'U=p at O;nofun;refine al (g1 _ _ h0) (d:=prD p) (am (by rw[Ly,O];rfl)) ?_
  calc⟨_,rfl,?_⟩;refine Ay (hT.lp p (LJ O)) (by first|rfl|trivial) λρ pz hpz=>?_
  let g2:=g1.trans (Ge.new (o:=.lst ((nts [p.1,p.2.1,p.2.2]).map λl=>D.tup (l.map .int))) hpz);refine⟨by rw[hH];lia,λpy Ja=>?_⟩
  let g3:=g2.trans (Ge.new (o:=.lst []) Ja);refine⟨_,_,by rw[cc (Ge.new Ja _ _ aa),tu];rfl,by rw[cc aa];rfl,?_⟩
  refine⟨_,rfl,?_⟩
  cases hz:nts [p.1,p.2.1,p.2.2]with
  |nil=>
   rw[if_neg (by simp[Md,MA])]
   ac_nf;rw[hz]at g3;calc hF _ _ ⟨_,rfl,g3,λq G=>?_⟩;rw[I7,LY,List.take_succ,Lv]at G
   rcases G with G|G
   ·show hok q G
   ·rw[<-hi,O]at G;simp at G;subst G;show nts_ok.mp hz
  |cons w ws=>
   rw[if_pos (by simp[Md,MA])]
   rw[hz]at g3;nofun;let e1:((i:Nat):Int)+1=((i+1:Nat):Int):=∅
   rw[e1];refine ET (g3 _ _ h0) ∅ ∅ ∅ λpc M4 g4 Jc mc=>?_
   let Jd:ps=ps.take i++p::ps.drop (i+1):=by let:=(MV i ps).symm;rw[MK U,(J4.mp O).2]at this;show this
   refine q1 _ pc M4 (.nought (ps.take i) (ps.drop (i+1)) p Jd ?_ (by rw[hi];show hok)) (g3.trans g4) (bh g3 Jc) mc
   cases ho:okp p with
   |false=>rfl
   |true=>rw[nts_ok.mpr ho]at hz;cases hz
 rintro ρ M1 ⟨o1,rfl,g1,hok⟩;rw[Mg,NF (Lz _)]at hok;nofun;calc aQ (g1 _ _ h0) ?_;ac_nf;rw[s9];refine⟨∅,∅,?_⟩
 rw[LU,aR];refine aI (f:=λi:Nat=>D.int (i:Nat)) (ys:=LO ps.length) (I:=λl ρ M'=>∃o2 Z o4:Option D,ρ=[S (.ref p0),o1,o2,Z,o4,Y,Y,Y]/\Ge M M'/\∀(r s:Nat) p' q',r<l.length->ps[r]?=S p'->ps[s]?=S q'->r<s->¬al2 p' q') rfl
  ⟨Y,Y,Y,rfl,g1,λr s p' q' h=>by cases h⟩ (λ_ _ _ _=>trivial) ?_ ?_
 ·rintro l i r ρ M2 e ⟨o2,Z,o4,rfl,g2,F3⟩;let⟨hi,U⟩:=bT e;calc⟨_,rfl,λF hF=>?_⟩;let O:ps[i]?=S (ps[i]'U):=D1 U;generalize ps[i]'U=p at O;nofun;calc aQ (g2 _ _ h0) ?_;ac_nf;rw[s9];refine⟨_,_,⟨rfl,rfl⟩,⟨∅,∅,∅,∅⟩,?_⟩
  let er:aW (((i:Nat):Int)+1) (((ps.length:Nat):Int)-(((i:Nat):Int)+1)).toNat=(LO (ps.length-(i+1))).map λj:Nat=>D.int ((i+1+j:Nat):Int):=by
   unfold aW;rw[show(((ps.length:Nat):Int)-(((i:Nat):Int)+1)).toNat=ps.length-(i+1) by lia]
   congr 1
  rw[er];refine aI (f:=λj:Nat=>D.int ((i+1+j:Nat):Int)) (ys:=LO (ps.length-(i+1))) (I:=λl' ρ M'=>∃Z o4:Option D,ρ=[S (.ref p0),o1,S (.int (i:Nat)),Z,o4,Y,Y,Y]/\Ge M M'/\∀(s:Nat) q',i<s->s<i+1+l'.length->ps[s]?=S q'->¬al2 p q') rfl
   ⟨Z,o4,rfl,g2,λs q' h1 h2=>by simp at h2;lia⟩ (λ_ _ _ _=>trivial) ?_ ?_
  ·rintro l' j r' ρ M3 e' ⟨Z,o4,rfl,g3,J⟩;let⟨hj,Ji⟩:=bT e';calc⟨_,rfl,λF2 Je=>?_⟩;let Jb:i+1+j<ps.length:=by lia
   let G:ps[i+1+j]?=S (ps[i+1+j]'Jb):=D1 Jb;generalize ps[i+1+j]'Jb=q at G;nofun;refine⟨by decide,by decide,?_⟩
   calc Av (g3 _ _ h0) O G λρ pk hpk=>?_;let g4:=g3.trans (Ge.new (o:=.lst ((eqs p q [0,1,2]).map λi=>D.int (i:Nat))) hpk);let mk:ad M3 pk (.lst ((eqs p q [0,1,2]).map λi=>D.int (i:Nat))) pk=S (.lst ((eqs p q [0,1,2]).map λi=>D.int (i:Nat))):=aa;generalize ad M3 pk (.lst ((eqs p q [0,1,2]).map λi=>D.int (i:Nat)))=M4 at g4 mk;nofun;calc aQ mk ?_;ac_nf;rw[s9]
   by_cases hal:al2 p q
   ·rw[if_pos (by let:=eqs_al.mpr hal;lia)]
    refine yh ha hT O G ∅ hal (g4 _ _ h0) mk λA B C pr M5 eA l1 l2 g5 Jf mr=>?_
    refine q1 _ pr M5 (.alike A B C p q eA hal hok λr1 s1 p1 q1 h1 h2 L h4=>?_) (g4.trans g5) (bh g4 Jf) mr
    rcases Vh A.length r1 with h|h|h
    ·show .inl h
    ·calc .inr ⟨h,?_⟩;let Jg:r1=i:=by lia
     subst Jg;rw[O]at h1;cases h1
     rcases Vi s1 (r1+1+l'.length)with h5|h5
     ·show absurd h4 (J s1 q1 L h5 h2)
     ·lia
    ·show absurd h4 (F3 r1 s1 p1 q1 ∅ h1 h2 L)
   ·rw[if_neg (λz=>hal (eqs_al.mp ∅))]
    refine Je _ _ ⟨_,_,rfl,g4,λs q' h1 h2 L=>?_⟩
    rcases Vi s (i+1+l'.length)with h5|h5
    ·show J s q' h1 h5 L
    ·let:s=i+1+j:=by simp at h2;lia
     subst this;rw[G]at L;cases L;show hal
  ·rintro ρ M3 ⟨Z,o4,rfl,g3,J⟩;refine hF _ _ ⟨_,_,_,rfl,g3,λr s p' q' h1 h2 L h4=>?_⟩
   rcases Vi r l.length with h5|h5
   ·show F3 r s p' q' h5 h2 L h4
   ·let:r=i:=by simp at h1;lia
    subst this;rw[O]at h2;cases h2;let:=(J4.mp L).1;show J s q' h4 (by simp;lia) L
 rintro ρ M2 ⟨o2,Z,o4,rfl,g2,F3⟩;nofun;show q0 M2 g2 (.none hok λr s p' q' h1 h2 L=>F3 r s p' q' (by simp;show(J4.mp h1).1) h1 h2 L)
end
section
open L2.Srt
variable{T:List FD}
abbrev i4(xs:Str)(s:Stmt)(fs fl:Nat):FD:=⟨"_law_tidied",s,[xs,"_law_products","_law_less_here"],1,
 (.cons (.asg (.name 1) (.comp [Y] ["_law_product"] (.last (.seq (.ix (.var 0) (.int 3))) (.name 0) .nil (.call fs (.cons (.var 0) .nil)))))
 (.cons (.asg (.name 2) (.call fl (.cons (.var 1) .nil)))
 (.cons (.while (.cmp .isn (.var 2) .non) (.cons (.asg (.name 1) (.comp [Y] ["_law_product"] (.last (.seq (.var 2)) (.name 0) .nil (.call fs (.cons (.var 0) .nil)))))
 (.cons (.asg (.name 2) (.call fl (.cons (.var 1) .nil)))
 .nil)))
 (.cons (.ret (.bin .add (.sl (.var 0) .none (.some (.int 3))) (.tup (.cons (.var 1) .nil))))
 .nil))))⟩
def tw{fs:Nat}(hs:dl T n fs){ps:List Pr}(j:∀p∈ps,cE 100000 p)(G:ps.length<=10000){B:WZ}(h0:M B=S (.lst (ps.map prD)))(q:∀ρ M',Ge M M'->N ρ M' ((ps.map sgn).map prD)):
 aU (b6 0) (bv (wAr (phi T n fs) (au (aP 0) aY))) (λM=>aC M (.ref B)=S (ps.map prD)) N (ps.map prD) [o0] M []:=by
 refine aA (f:=prD) (ys:=ps) (I:=λl ρ M' acc=>(∃o0,ρ=[o0])/\Ge M M'/\acc=(l.map sgn).map prD) rfl ⟨⟨_,rfl⟩,Ge.refl,rfl⟩ (λ_ _ _ _ h=>af (h.2.1 _ _ h0)) ?_ ?_
 ·rintro l u r ρ M1 acc e ⟨⟨o0,rfl⟩,g1,rfl⟩;calc⟨_,rfl,λN' z=>?_⟩;let F:=ar e;ac_nf;refine hs (j u (by rw[e];simp)) λM2 g2=>?_
  refine⟨by simp[hH];lia,z _ _ _ ⟨⟨_,rfl⟩,g1.trans g2,by simp⟩⟩
 ·rintro ρ M1 acc ⟨⟨o0,rfl⟩,g1,rfl⟩;show q _ _ g1
def vq{fs:Nat}{xs:Str}(hf:T[f]?=S (i4 xs s fs fl))(hs:dl T (n-1) fs)(ho:fK T (n-1) fl)(F3:1<=n){x y:Int}{G:WZ}{ps:List Pr}(L:Tdy L0 L1 L2 ps)(h0:M G=S (.lst (ps.map prD)))(q:∀qs pr M',Td (ps.map sgn) qs->Ge M M'->M pr=Y->M' pr=S (.lst (qs.map prD))->Q (.tup [.int x,.int y,.int z,.ref pr]) M'):phi T n f [.tup [.int x,.int y,.int z,.ref G]] M Q:=by
 calc ao F3 hf rfl (ρ:=[S _,Y,Y]) rfl ?_;unfold i4;nofun;calc⟨_,rfl,_,af h0,?_⟩;calc tw hs L.lp L.n h0 λρ U g1 pt hpt=>?_;let F:=bh g1 hpt;let g2:=g1.trans (Ge.new (o:=.lst ((ps.map sgn).map prD)) hpt);let mt:ad U pt (.lst ((ps.map sgn).map prD)) pt=S (.lst ((ps.map sgn).map prD)):=aa;generalize ad U pt (.lst ((ps.map sgn).map prD))=M2 at g2 mt;clear hpt g1;nofun;let loop:∀(m:Nat) (qs:List Pr) (pq:WZ) (M2:Mem),qs.length<=m->Tdy L0 L1 L2 qs->(∀p∈qs,Sgd p)->(∀rs,Td qs rs->Td (ps.map sgn) rs)->Ge M M2->M pq=Y->M2 pq=S (.lst (qs.map prD))->
  phi T (n-1) fl [.ref pq] M2 λd j=>aN (cv (wOp lw (aP 2) (wC .non))) (wSs (phi T (n-1)) (MSs.cons (MS.asg (MG.name 1) (ME.comp [Y] ["_law_product"] (MC.last (MI.seq (ME.var 2)) (MG.name 0) MTs.nil (ME.call fs (MEs.cons (ME.var 0) MEs.nil))))) (MSs.cons (MS.asg (MG.name 2) (ME.call fl (MEs.cons (ME.var 1) MEs.nil))) MSs.nil)))
   {nx:=wSs (phi T (n-1)) (MSs.cons (MS.ret (ME.bin BOp.add (ME.sl (ME.var 0) MO.none (MO.some (ME.int 3))) (ME.tup (MEs.cons (ME.var 1) MEs.nil)))) MSs.nil) {nx:=λ_ M'=>Q D.non M',rt:=Q},rt:=Q} (m+1)
   [S (.tup [.int x,.int y,.int z,.ref G]),S (.ref pq),S d] j:=by
  intro m
  induction m with
  |zero=>
   intro qs pq M2 hm tq J hr g O mq;refine ho tq mq (λj g3 w=>?_) λqs' pr j w=>?_
   ·rw[aN];ac_nf;calc⟨_,rfl,_,rfl,?_⟩;rw[if_neg (·)]
    nofun;refine(show bR (.tup [.int x,.int y,.int z,.ref G]) Y (S 3) j _ from⟨by rw[hH];lia,.inr trivial,by rw[hH];change 3+1<=16777216;decide,?_⟩)
    show q qs pq j (hr _ (.done w)) (g.trans g3) O (g3 _ _ mq)
   ·let:=w.len;lia
  |succ m ih=>
   intro qs pq M2 hm tq J hr g O mq;refine ho tq mq (λj g3 w=>?_) λqs' pr j w g3 Z mr=>?_
   ·rw[aN];ac_nf;calc⟨_,rfl,_,rfl,?_⟩;rw[if_neg (·)]
    nofun;refine(show bR (.tup [.int x,.int y,.int z,.ref G]) Y (S 3) j _ from⟨by rw[hH];lia,.inr trivial,by rw[hH];change 3+1<=16777216;decide,?_⟩)
    show q qs pq j (hr _ (.done w)) (g.trans g3) O (g3 _ _ mq)
   ·rw[aN];ac_nf;calc⟨_,rfl,_,rfl,?_⟩;rw[if_pos (_)]
    nofun;calc⟨_,af mr,?_⟩;let tq':=tq.fw w;let B:=w.sgd J;calc tw hs tq'.lp tq'.n mr λρ M4 g4 pt hpt=>?_;rw[CT B];let g5:=(g.trans (g3.trans g4)).trans (Ge.new (o:=.lst (qs'.map prD)) hpt);let F:=bh (g.trans (g3.trans g4)) hpt;nofun;show ih qs' pt _ (by let:=w.len;lia) tq' B (λrs t=>hr rs (.step w t)) g5 F aa
 calc eL T _ _ _ _ _ _ (λd j h=>?_) (loop (ps.map sgn).length (ps.map sgn) pt M2 (Lz _) L.sg CU (λ_ h=>h) g2 F mt);nofun;show⟨_,h⟩
end
section
open L2.Srt
variable{T:List FD}
abbrev qY(xn:Str)(s:Stmt)(ft:Nat):FD:=⟨"_law_pool",s,["_law_box_here","_law_length","_law_found"],2,
 (.cons (.asg (.name 2) (.comp [Y,(S 1),(S 0)] ["_law_turn","_law_length","_law_box_here"] (.last (.rng1 (.bin .add (.int 1) (.call ft (.cons (.var 0) (.cons (.int 3) .nil))))) (.name 0) .nil (.blt .tuple (.cons (.comp [Y,(S 2)] ["_law_k","_law_box_here"] (.last (.rng1 (.var 1)) (.name 0) .nil (.ix (.lst (.cons (.int 0) (.cons (.int 1) (.cons (.neg (.int 1)) (.cons (.int 2) .nil))))) (.call ft (.cons (.var 1) (.cons (.int 4) .nil)))))) .nil)))))
 (.cons (.ite (.cmp .eq (.call ft (.cons (.var 0) (.cons (.int 2) .nil))) (.int 0)) (.cons (.drop (.meth .append (.var 2) (.blt .tuple (.cons (.comp [Y] [xn] (.last (.seq (.ix (.var 2) (.int 0))) (.name 0) .nil (.neg (.var 0)))) .nil))))
 .nil) .nil)
 (.cons (.ite (.cmp .eq (.call ft (.cons (.var 0) (.cons (.int 6) .nil))) (.int 0)) (.cons (.drop (.meth .append (.var 2) (.bin .mul (.tup (.cons (.int 0) .nil)) (.var 1))))
 .nil) .nil)
 (.cons (.ret (.var 2))
 .nil))))⟩
abbrev tpD(l:List Int):D:=.tup (l.map .int)
structure lV(L:Nat)(ls:List (List Int)):Prop where
 ne:ls≠[]
 n:ls.length<=5
 l:∀l∈ls,l.length=L/\Bdd 2 l
def AA(B:cB T n ft){L:Nat}(hL:L<=1000)(hb:Box b M)(q:∀(l:List Int) ρ M',l.length=L->Bdd 2 l->Bx b M M'->N ρ M' (l.map .int)):
 aU (b6 0) (bv (wOp wIx (wAr lg (au (wC (.int 0)) (au (wC (.int 1)) (au (wUn ji (wC (.int 1))) (au (wC (.int 2)) aY))))) (wAr (phi T n ft) (au (aP 1) (au (wC (.int 4)) aY))))) (λ_=>True) N (aW 0 L) [o0,S (.ref b)] M []:=by
 refine nA (I:=λl ρ M' acc=>∃ns:List Int,(∃o0,ρ=[o0,S (.ref b)])/\acc=ns.map .int/\ns.length=l.length/\Bdd 2 ns/\Bx b M M') ⟨[],⟨_,rfl⟩,rfl,rfl,λx h=>(by cases h),Bx.refl hb⟩ (λ_ _ _ _ _=>trivial) ?_ ?_
 ·rintro l x r ρ M1 acc e ⟨ns,⟨o0,rfl⟩,rfl,j,hs,z⟩;let F:=ar e;rw[bD]at F;calc⟨_,rfl,λN' G=>?_⟩;ac_nf;refine⟨by rw[hH];lia,λp U=>?_⟩
  let J:=bH z.box U;let F3:=z.ge (Ge.new (o:=.lst [.int 0,.int 1,.int (-1),.int 2]) U);refine B F3.box (·) (·) λi M2 i0 i1 Z=>?_
  let hm:M2 p=S (.lst [.int 0,.int 1,.int (-1),.int 2]):=Z.keep _ _ J aa;obtain⟨v,hv,O⟩:∃v:Int,atI [D.int 0,.int 1,.int (-1),.int 2] i=S (.int v)/\v.natAbs<=2:=by
   let:i=0∨i=1∨i=2∨i=3:=∅
   rcases this with rfl|rfl|rfl|rfl
   ·show⟨0,rfl,by decide⟩
   ·show⟨1,rfl,by decide⟩
   ·show⟨-1,rfl,by decide⟩
   ·show⟨2,rfl,by decide⟩
  calc al hm hv ?_;refine⟨by rw[s9,hH];lia,G _ _ _ ⟨ns++[v],⟨_,rfl⟩,by simp,by simp[j],λy hy=>?_,F3.trans Z⟩⟩
  rcases Lv.mp hy with h|h
  ·show hs y h
  ·simp at h;subst h;show O
 ·rintro ρ M1 acc ⟨ns,⟨o0,rfl⟩,rfl,j,hs,z⟩;rw[bD]at j;show q ns _ _ j hs z
def D8(hf:T[f]?=S (qY xn s ft))(G:cB T (n-1) ft)(hn:1<=n){L:Nat}(hL:1<=L/\L<=1000)(hb:Box b M)(q:∀ls p M',lV L ls->Bx b M M'->M p=Y->M' p=S (.lst (ls.map tpD))->Q (.ref p) M'):phi T n f [.ref b,.int L] M Q:=by
 calc ao hn hf rfl (ρ:=[S _,S _,Y]) rfl ?_;unfold qY;nofun;refine G hb (·) (·) λc M0 c0 c1 x0=>?_
 ac_nf;refine⟨∅,∅,?_⟩
 refine nA (I:=λl ρ M' acc=>∃ls:List (List Int),(∃o0,ρ=[o0,S (.int L),S (.ref b)])/\acc=ls.map tpD/\ls.length=l.length/\(∀l∈ls,l.length=L/\Bdd 2 l)/\Bx b M M') ⟨[],⟨_,rfl⟩,rfl,rfl,λx h=>(by cases h),x0⟩ (λ_ _ _ _ _=>trivial) ?_ ?_
 ·rintro l x r ρ M1 acc e ⟨ls,⟨o0,rfl⟩,rfl,B,hs,J⟩;let Ja:=ar e;rw[bD]at Ja;calc⟨_,rfl,λN' Jb=>?_⟩;ac_nf;refine⟨∅,∅,?_⟩
  rw[LU];calc AA G hL.2 J.box λv ρ M2 v1 v2 x2 p hp=>?_;calc⟨_,_,rfl,af aa,?_⟩;refine⟨by rw[s9,hH];lia,Jb _ _ _ ⟨ls++[v],⟨_,rfl⟩,by simp[tpD],by simp[B],λy hy=>?_,J.trans (x2.ge (Ge.new hp))⟩⟩
  rcases Lv.mp hy with h|h
  ·show hs y h
  ·simp at h;subst h;show⟨v1,v2⟩
 rintro ρ M1 acc ⟨ls,⟨o0,rfl⟩,rfl,B,hs,J⟩ pl hpl;rw[bD]at B;let j:=bH J.box hpl;let O:=J.none hpl j;let x2:=J.ge (Ge.new (o:=.lst (ls.map tpD)) hpl);let m2:ad M1 pl (.lst (ls.map tpD)) pl=S (.lst (ls.map tpD)):=aa;let F:lV L ls:=⟨λz=>by rw[z]at B;simp at B;lia,∅,hs⟩
 let U:ls.length<=3:=∅
 generalize ad M1 pl (.lst (ls.map tpD))=M2 at x2 m2;clear hpl J hs B;refine ce (I:=λρ M'=>∃ls,lV L ls/\ls.length<=4/\Bx b M M'/\M' pl=S (.lst (ls.map tpD))/\ρ=[S (.ref b),S (.int L),S (.ref pl)]) (λR hR=>?_) ?_
 ·ac_nf;refine G x2.box (·) (·) λi M3 i0 i1 x3=>?_
  ac_nf;let F3:=x3.keep _ _ j m2;let Z:=x2.trans x3
  split
  ·nofun;obtain⟨l0,lr,rfl⟩:∃l0 lr,ls=l0::lr:=by cases ls with|nil=>show absurd rfl F.ne|cons a b=>show⟨a,b,rfl⟩
   let⟨h1,h2⟩:=F.l l0 (_)
   calc⟨⟨_,F3⟩,?_⟩;calc al F3 (d:=tpD l0) (am (k:=0) rfl) ?_;calc⟨_,rfl,?_⟩;refine jB ∅ (by first|rfl|trivial) λρ p hp=>?_
   calc⟨_,_,rfl,af aa,?_⟩;let Jc:pl≠p:=λz=>by rw[<-z,F3]at hp;cases hp
   refine⟨pl,_,_,rfl,rfl,Ge.new hp _ _ F3,by rw[s9,hH];lia,?_⟩
   refine hR _ _ ⟨(l0::lr)++[ngl l0],⟨by simp,by simp at U⊢;lia,λl B=>?_⟩,by simp at U⊢;lia,?_,?_,rfl⟩
   ·rcases Lv.mp B with h|h
    ·show F.l l h
    ·simp at h;subst h;show⟨by simp[ngl,h1],CY h2⟩
   ·show(Z.ge (Ge.new hp)).upd O j
   ·rw[aa];simp[tpD]
  ·show hR _ _ ⟨ls,F,∅,Z,F3,rfl⟩
 clear x2 m2 F U;rintro ρ M3 ⟨ls,F,Jd,x3,F3,rfl⟩;refine ce (I:=λρ M'=>∃ls,lV L ls/\Bx b M M'/\M' pl=S (.lst (ls.map tpD))/\ρ=[S (.ref b),S (.int L),S (.ref pl)]) (λR hR=>?_) ?_
 ·ac_nf;refine G x3.box (·) (·) λi M4 i0 i1 Z=>?_
  ac_nf;let m4:=Z.keep _ _ j F3;let x5:=x3.trans Z
  split
  ·nofun;refine⟨⟨_,m4⟩,by rw[hH];lia,∅,∅,by rw[hH];simp;lia,?_⟩
   rw[LU,EQ];refine⟨pl,_,_,rfl,rfl,m4,by rw[s9,hH];lia,?_⟩
   refine hR _ _ ⟨ls++[LQ L 0],⟨by simp,by simp;lia,λl B=>?_⟩,x5.upd O j,?_,rfl⟩
   ·rcases Lv.mp B with h|h
    ·show F.l l h
    ·simp at h;subst h;show⟨by simp,λy hy=>by rw[(List.mem_replicate.mp hy).2];decide⟩
   ·rw[aa];simp[tpD]
  ·show hR _ _ ⟨ls,F,x5,m4,rfl⟩
 rintro ρ M4 ⟨ls,F,Z,m4,rfl⟩;nofun;show q ls pl M4 F Z O m4
end
section
open L2.Srt
variable{T:List FD}
abbrev qZ(s:Stmt)(ft fp:Nat):FD:=⟨"_law_near_scheme",s,["_law_box_here","_law_most","_law_lengths","_law_pools","_law_products","_law_turn"],2,
 (.cons (.asg (.name 2) (.comp [Y,(S 0)] ["_law_side","_law_box_here"] (.last (.rng1 (.int 3)) (.name 0) .nil (.bin .add (.int 1) (.call ft (.cons (.var 1) (.cons (.ix (.lst (.cons (.int 4) (.cons (.int 12) .nil))) (.blt .int (.cons (.cmp .eq (.call ft (.cons (.var 1) (.cons (.int 8) .nil))) (.int 0)) .nil))) .nil)))))))
 (.cons (.asg (.name 3) (.comp [Y,(S 0)] ["_law_length","_law_box_here"] (.last (.seq (.var 2)) (.name 0) .nil (.call fp (.cons (.var 1) (.cons (.var 0) .nil))))))
 (.cons (.asg (.name 4) (.lst .nil))
 (.cons (.for (.name 5) (.rng1 (.call ft (.cons (.var 0) (.cons (.bin .add (.var 1) (.int 1)) .nil)))) (.cons (.drop (.meth .append (.var 4) (.blt .tuple (.cons (.comp [Y,(S 0)] ["_law_pool_here","_law_box_here"] (.last (.seq (.var 3)) (.name 0) .nil (.ix (.var 0) (.call ft (.cons (.var 1) (.cons (.blt .len (.cons (.var 0) .nil)) .nil)))))) .nil))))
 .nil))
 (.cons (.ret (.bin .add (.blt .tuple (.cons (.var 2) .nil)) (.tup (.cons (.var 4) .nil))))
 .nil)))))⟩
abbrev yi(T:List FD)(n f:Nat):Prop:=∀{b:WZ} {L:Nat} {M:Mem} {Q:QD},(1<=L/\L<=1000)->Box b M->(∀ls p M',lV L ls->Bx b M M'->M p=Y->M' p=S (.lst (ls.map tpD))->Q (.ref p) M')->phi T n f [.ref b,.int L] M Q
structure He(L0 L1 L2:Nat)(ps:List Pr):Prop where
 h0:1<=L0/\L0<=12
 h1:1<=L1/\L1<=12
 h2:1<=L2/\L2<=12
 l:Lns L0 L1 L2 ps
 b:∀p∈ps,BdP 1000 p
def jH(z:cB T n ft)(J:Box b M)(q:∀(i:Int) M',(i=4∨i=12)->Bx b M M'->phi T n ft [.ref b,.int i] M' Q):1+1<=Ls/\∀p,M p=Y->phi T n ft [.ref b,.int 8] (ad M p (.lst [.int 4,.int 12])) λx j=>wEq x (.int 0) j λx j=>jm [x] j λy M2=>wIx (.ref p) y M2 λx j=>phi T n ft [.ref b,x] j Q:=by
 refine⟨by rw[hH];lia,λp L=>?_⟩
 let B:=bH J L;let F:=(Bx.refl J).ge (Ge.new (o:=.lst [.int 4,.int 12]) L);refine z F.box (·) (·) λi M2 O U G=>?_
 let hm:M2 p=S (.lst [.int 4,.int 12]):=G.keep _ _ B aa;rw[Bh,xV]
 by_cases h:i=0
 ·rw[beq_iff_eq.mpr h];show al hm (d:=.int 12) rfl (q 12 _ (.inr rfl) (F.trans G))
 ·rw[beq_false_of_ne h];show al hm (d:=.int 4) rfl (q 4 _ (.inl rfl) (F.trans G))
def lW(z:cB T n ft){L:Nat}{ls:List (List Int)}(B:lV L ls)(U:Box b M)(F:a≠b)(G:M a=S (.lst (ls.map tpD)))(q:∀(l:List Int) M',l.length=L->Bdd 2 l->Bx b M M'->Q (tpD l) M'):
 dI [.ref a] M λy M2=>phi T n ft [.ref b,y] M2 λy M2=>wIx (.ref a) y M2 Q:=by
 calc aQ G ?_;let Z:=B.n;let h1:0<ls.length:=Mz.mpr B.ne;rw[s9];refine z U ∅ ∅ λi M2 F3 i1 J=>?_
 let⟨j,rfl⟩:=Pj F3;let O:j<ls.length:=∅
 refine al (J.keep _ _ F G) (d:=tpD (ls[j]'O)) (am (by rw[Ly,D1 O];rfl)) ?_
 let⟨h1,h2⟩:=B.l _ (OI O);show q _ _ h1 h2 J
def D9(hf:T[f]?=S (qZ s ft fp))(B:cB T (n-1) ft)(Ji:yi T (n-1) fp)(hn:1<=n)(hm:most<=1000)(hb:Box b M)(q:∀L0 L1 L2 ps pr M',He L0 L1 L2 ps->ps.length<=most->Bx b M M'->M pr=Y->pr≠b->M' pr=S (.lst (ps.map prD))->Q (.tup [.int (L0:Nat),.int (L1:Nat),.int (L2:Nat),.ref pr]) M'):phi T n f [.ref b,.int most] M Q:=by
 calc ao hn hf rfl (ρ:=[S _,S _,Y,Y,Y,Y]) rfl ?_;unfold qZ;nofun;refine⟨by decide,by decide,?_⟩
 let er:aW 0 (3:Int).toNat=[.int 0,.int 1,.int 2]:=rfl;rw[er];simp only[aU];calc⟨trivial,_,rfl,?_⟩;ac_nf;calc jH B hb λm0 M0 JK x0=>?_;refine B x0.box ∅ ∅ λi0 M1 JL JM x1=>?_
 ac_nf;refine⟨by rw[hH];simp,?_⟩
 let y1:=x0.trans x1;calc jH B y1.box λm1 M2 JN x2=>?_;refine B x2.box ∅ ∅ λi1 M3 JO JP x3=>?_
 ac_nf;refine⟨by rw[hH];simp,?_⟩
 let y3:=(y1.trans x2).trans x3;calc jH B y3.box λm2 M4 JQ x4=>?_;refine B x4.box ∅ ∅ λi2 M5 JR JS x5=>?_
 ac_nf;refine⟨by rw[hH];simp,λpL Jj=>?_⟩
 let y5:=(y3.trans x4).trans x5;let⟨L0,e0⟩:=Pj (show 0<=1+i0 by lia)
 let⟨L1,e1⟩:=Pj (show 0<=1+i1 by lia)
 let⟨L2,e2⟩:=Pj (show 0<=1+i2 by lia)
 let h0:1<=L0/\L0<=12:=∅
 let h1:1<=L1/\L1<=12:=∅
 let h2:1<=L2/\L2<=12:=∅
 let Z:=bH y5.box Jj;let y6:=y5.ge (Ge.new (o:=.lst ([]++[.int (1+i0)]++[.int (1+i1)]++[.int (1+i2)])) Jj);let mL:ad M5 pL (.lst ([]++[.int (1+i0)]++[.int (1+i1)]++[.int (1+i2)])) pL=S (.lst [.int (L0:Nat),.int (L1:Nat),.int (L2:Nat)]):=by rw[aa,e0,e1,e2];rfl
 generalize ad M5 pL (.lst ([]++[.int (1+i0)]++[.int (1+i1)]++[.int (1+i2)]))=M6 at y6 mL;clear x0 x1 x2 x3 x4 x5 y1 y3 y5 Jj e0 e1 e2;nofun;calc⟨_,af mL,?_⟩;simp only[aU];calc⟨af mL,_,rfl,?_⟩;ac_nf;refine Ji ∅ y6.box λJF a0 M7 P0 x7 Jw Jx=>?_
 let Ja:=bH y6.box Jw;let y7:=y6.trans x7;let Jk:=x7.keep _ _ Z mL;refine⟨by rw[hH];simp,af Jk,?_⟩
 refine Ji ∅ y7.box λJG a1 M8 P1 x8 Jy Jz=>?_
 let Jb:=bH y7.box Jy;let y8:=y7.trans x8;let Jl:=x8.keep _ _ Z Jk;refine⟨by rw[hH];simp,af Jl,?_⟩
 refine Ji ∅ y8.box λJH a2 M9 P2 x9 JA JB=>?_
 let Jf:=bH y8.box JA;let y9:=y8.trans x9;let Jm:=x9.keep _ _ Z Jl;refine⟨by rw[hH];simp,af Jm,λpP Jn=>?_⟩
 let Jc:=bH y9.box Jn;let gP:=Ge.new (o:=.lst ([]++[.ref a0]++[.ref a1]++[.ref a2])) Jn;let Jd:=y9.ge gP;let mP:ad M9 pP (.lst ([]++[.ref a0]++[.ref a1]++[.ref a2])) pP=S (.lst [.ref a0,.ref a1,.ref a2]):=by rw[aa];rfl
 let J:=gP _ _ Jm;let L:=gP _ _ (x9.keep _ _ Ja (x8.keep _ _ Ja Jx));let U:=gP _ _ (x9.keep _ _ Jb Jz);let F3:=gP _ _ JB;generalize ad M9 pP (.lst ([]++[.ref a0]++[.ref a1]++[.ref a2]))=JC at Jd mP J L U F3;clear x7 x8 x9 y6 y7 y8 y9 mL Jk Jl Jm Jx Jz JB gP Jn Jw Jy JA;nofun;refine⟨by rw[hH];lia,λpr j=>?_⟩
 let Je:=bH Jd.box j;let JD:=Jd.none j Je;let gR:=Ge.new (o:=.lst []) j;let Jo:=Jd.ge gR;let mR:ad JC pr (.lst []) pr=S (.lst (([]:List Pr).map prD)):=aa;let nL:pL≠pr:=λz=>by rw[<-z,J]at j;cases j
 let nP:pP≠pr:=λz=>by rw[<-z,mP]at j;cases j
 let n0:a0≠pr:=λz=>by rw[<-z,L]at j;cases j
 let n1:a1≠pr:=λz=>by rw[<-z,U]at j;cases j
 let n2:a2≠pr:=λz=>by rw[<-z,F3]at j;cases j
 let Jg:=gR _ _ J;let Jh:=gR _ _ mP;let L:=gR _ _ L;let U:=gR _ _ U;let F3:=gR _ _ F3;generalize ad JC pr (.lst [])=M11 at Jo mR Jg Jh L U F3;clear gR J mP Jd j;nofun;refine B Jo.box ∅ ∅ λc JT c0 c1 G=>?_
 refine⟨c,rfl,∅,∅,?_⟩
 refine qK (I:=λl ρ M'=>∃(ps:List Pr) (o5:Option D),ρ=[S (.ref b),S (.int most),S (.ref pL),S (.ref pP),S (.ref pr),o5]/\ps.length=l.length/\Lns L0 L1 L2 ps/\(∀p∈ps,BdP 1000 p)/\Bx b M M'/\M' pr=S (.lst (ps.map prD))/\M' pL=S (.lst [.int (L0:Nat),.int (L1:Nat),.int (L2:Nat)])/\M' pP=S (.lst [.ref a0,.ref a1,.ref a2])/\M' a0=S (.lst (JF.map tpD))/\M' a1=S (.lst (JG.map tpD))/\M' a2=S (.lst (JH.map tpD)))
  ⟨[],Y,rfl,rfl,λp h=>(by cases h),λp h=>(by cases h),Jo.trans G,G.keep _ _ Je mR,G.keep _ _ Z Jg,G.keep _ _ Jc Jh,G.keep _ _ Ja L,G.keep _ _ Jb U,G.keep _ _ Jf F3⟩ (λ_ _ _ _=>trivial) ?_ ?_
 ·rintro l x r ρ N0 e ⟨ps,o5,rfl,hl,Jp,Jq,z0,nr,nl,np',Jr,Js,Jt⟩;let JI:=ar e;rw[bD]at JI;calc⟨_,rfl,λF hF=>?_⟩;nofun;calc⟨⟨_,nr⟩,_,af np',?_⟩;simp only[aU];calc⟨af np',_,rfl,?_⟩;ac_nf;calc lW B P0 z0.box Ja Jr λl0 N1 v0 w0 z1=>?_;refine⟨by rw[hH];simp,af (z1.keep _ _ Jc np'),?_⟩
  calc lW B P1 z1.box Jb (z1.keep _ _ Jb Js) λl1 N2 v1 w1 z2=>?_;let Ju:=z1.trans z2;refine⟨by rw[hH];simp,af (Ju.keep _ _ Jc np'),?_⟩
  calc lW B P2 z2.box Jf (Ju.keep _ _ Jf Jt) λl2 N3 v2 w2 z3=>?_;let Jv:=Ju.trans z3;refine⟨by rw[hH];simp,af (Jv.keep _ _ Jc np'),λpt JJ=>?_⟩
  calc⟨_,_,rfl,af aa,?_⟩;let gt:=Ge.new (o:=.lst ([]++[tpD l0]++[tpD l1]++[tpD l2])) JJ;let JE:=Jv.ge gt;refine⟨pr,_,_,rfl,rfl,gt _ _ (Jv.keep _ _ Je nr),by rw[s9,hH];lia,?_⟩
  let kp:∀{c:WZ} {o o':O},c≠b->c≠pr->N0 c=S o->ad (ad N3 pt (.lst ([]++[tpD l0]++[tpD l1]++[tpD l2]))) pr o' c=S o:=λh1 h2 h3=>by rw[aj h2];show JE.keep _ _ h1 h3
  refine hF _ _ ⟨ps++[(l0,l1,l2)],_,rfl,by simp[hl],λp hp=>?_,λp hp=>?_,(z0.trans JE).upd JD Je,?_,kp Z nL nl,kp Jc nP np',kp Ja n0 Jr,kp Jb n1 Js,kp Jf n2 Jt⟩
  ·rcases Lv.mp hp with h|h
   ·show Jp p h
   ·simp at h;subst h;show⟨v0,v1,v2⟩
  ·rcases Lv.mp hp with h|h
   ·show Jq p h
   ·simp at h;subst h;show⟨w0.le (·),w1.le (·),w2.le (·)⟩
  ·rw[aa];simp[prD,tpD]
 ·rintro ρ N0 ⟨ps,o5,rfl,hl,Jp,Jq,z0,nr,nl,np',Jr,Js,Jt⟩;rw[bD]at hl;nofun;calc⟨_,_,rfl,af nl,?_⟩;refine⟨by rw[hH];lia,.inr trivial,by rw[hH];simp,?_⟩
  show q L0 L1 L2 ps pr N0 ⟨h0,h1,h2,Jp,Jq⟩ ∅ z0 JD Je nr
end
section
open L2.Srt
mutual
theorem yj:∀(s:Sh) {a b:D},hs s a=WX->hs s b=WX->kyD a=kyD b->a=b
 |.int,.int i,.int j,_,_,e=>by
  let:Ky.int i=Ky.int j:=e
  cases this;rfl
 |.tup l,.tup ds,.tup es,h,g,e=>by
  let h:hss l ds=WX:=by simpa[hs]using h
  let g:hss l es=WX:=by simpa[hs]using g
  let e:Ky.tup (toKs (pds ds))=Ky.tup (toKs (pds es)):=by simpa[kyD,pd,toK]using e
  rw[ky_injs l h g (Ky.tup.inj e)]
 |.int,.tup _,_,h,_,_=>by simp[hs]at h
 |.int,.non,_,h,_,_=>by simp[hs]at h
 |.int,.bl _,_,h,_,_=>by simp[hs]at h
 |.int,.str _,_,h,_,_=>by simp[hs]at h
 |.int,.con _,_,h,_,_=>by simp[hs]at h
 |.int,.ref _,_,h,_,_=>by simp[hs]at h
 |.int,.fn _,_,h,_,_=>by simp[hs]at h
 |.int,.int _,.tup _,_,h,_=>by simp[hs]at h
 |.int,.int _,.non,_,h,_=>by simp[hs]at h
 |.int,.int _,.bl _,_,h,_=>by simp[hs]at h
 |.int,.int _,.str _,_,h,_=>by simp[hs]at h
 |.int,.int _,.con _,_,h,_=>by simp[hs]at h
 |.int,.int _,.ref _,_,h,_=>by simp[hs]at h
 |.int,.int _,.fn _,_,h,_=>by simp[hs]at h
 |.tup _,.int _,_,h,_,_=>by simp[hs]at h
 |.tup _,.non,_,h,_,_=>by simp[hs]at h
 |.tup _,.bl _,_,h,_,_=>by simp[hs]at h
 |.tup _,.str _,_,h,_,_=>by simp[hs]at h
 |.tup _,.con _,_,h,_,_=>by simp[hs]at h
 |.tup _,.ref _,_,h,_,_=>by simp[hs]at h
 |.tup _,.fn _,_,h,_,_=>by simp[hs]at h
 |.tup _,.tup _,.int _,_,h,_=>by simp[hs]at h
 |.tup _,.tup _,.non,_,h,_=>by simp[hs]at h
 |.tup _,.tup _,.bl _,_,h,_=>by simp[hs]at h
 |.tup _,.tup _,.str _,_,h,_=>by simp[hs]at h
 |.tup _,.tup _,.con _,_,h,_=>by simp[hs]at h
 |.tup _,.tup _,.ref _,_,h,_=>by simp[hs]at h
 |.tup _,.tup _,.fn _,_,h,_=>by simp[hs]at h
theorem ky_injs:∀(l:List Sh) {ds es:List D},hss l ds=WX->hss l es=WX->toKs (pds ds)=toKs (pds es)->ds=es
 |[],[],[],_,_,_=>rfl
 |s::l,d::ds,e::es,h,g,k=>by
  let h:hs s d=WX/\hss l ds=WX:=by simpa[hss]using h
  let g:hs s e=WX/\hss l es=WX:=by simpa[hss]using g
  let k:toK (pd d)=toK (pd e)/\toKs (pds ds)=toKs (pds es):=by simpa[pds,toKs]using k
  rw[yj s h.1 g.1 k.1,ky_injs l h.2 g.2 k.2]
 |[],_::_,_,h,_,_=>by simp[hss]at h
 |[],[],_::_,_,h,_=>by simp[hss]at h
 |_::_,[],_,h,_,_=>by simp[hss]at h
 |_::_,_::_,[],_,h,_=>by simp[hss]at h
end
def rT{sh:Sh}{xs' ys ys':List D}(h:∀d∈xs,hs sh d=WX)(p:ys.Perm xs)(p':ys'.Perm xs')(px:xs.Perm xs')(s:eI ys)(s':eI ys'):ys=ys':=by calc List.Perm.eq_of_pairwise (le:=λa b=>ltK (kyD b) (kyD a)=WY) (λa b j q h1 h2=>?_) s s' (p.trans (px.trans p'.symm));let j:=h a (p.mem_iff.mp j);let q:=h b (px.mem_iff.mpr (p'.mem_iff.mp q));show yj sh j q (gT _ _ h2 h1)
end
section
open L2.Srt
variable{T:List FD}
noncomputable abbrev Ev:=Nat×Nat×List Int
noncomputable abbrev En:=(Nat×List Int)×WZ×List Nat
abbrev evP(x:Nat×Pr):List Ev:=[(x.1,0,x.2.1),(x.1,1,x.2.2.1),(x.1,2,x.2.2.2)]
abbrev evL(l:List (Nat×Pr)):List Ev:=l.flatMap evP
abbrev cg(c:Nat×List Int):NK:=[.inl (c.1:Nat),.inr c.2]
abbrev kvE(e:En):NK×D:=(cg e.1,.ref e.2.1)
abbrev jI(l:List Nat):List D:=l.map λi=>D.int (i:Nat)
def r0{d:Nat×List Int}(h:cg c=cg d):c=d:=by
 let⟨a,b⟩:=c;let⟨a',b'⟩:=d;simp[cg]at h;let⟨h1,h2⟩:=h;let:a=a':=∅
 rw[this,h2]
structure AlI(M0:Mem)(a:WZ)(E:List Ev)(es:List En)(M':Mem):Prop where
 g:Ge M0 M'
 d:M' a=S (.dcn (es.map kvE))
 m:∀e∈es,M' e.2.1=S (.lst (jI e.2.2))
 fr:∀e∈es,M0 e.2.1=Y/\e.2.1≠a
 nk:(es.map (·.1)).Nodup
 na:(es.map (·.2.1)).Nodup
 nums:∀e∈es,e.2.2=(E.filter λv=>decide (v.2=e.1)).map (·.1)
 all:∀v∈E,∃e∈es,e.1=v.2
def AlI.ge{j:Mem}{E:List Ev}{es:List En}(h:AlI j a E es M')(g:Ge M' M''):AlI j a E es M'':=⟨h.g.trans g,g _ _ h.d,λe he=>g _ _ (h.m e he),h.fr,h.nk,h.na,h.nums,h.all⟩
def Bj{es:List En}(nk:(es.map (·.1)).Nodup):∀{e:En},e∈es->ng (es.map kvE) (cg e.1)=S (.ref e.2.1):=by
 induction es with
 |nil=>intro e h;cases h
 |cons x es ih=>
  intro e h;rw[LL,Ov]at nk;unfold ng;rw[LL,NT]
  rcases Lw.mp h with rfl|h
  ·simp[kvE]
  ·let j:¬cg x.1=cg e.1:=λz=>nk.1 (by rw[r0 z];show LI.mpr ⟨e,h,rfl⟩)
   let:=ih nk.2 h;unfold ng at this;simpa[kvE,j]using this
def yk{es:List En}(h:∀e∈es,e.1≠c):ng (es.map kvE) (cg c)=Y:=by unfold ng;rw[Option.map_eq_none_iff,List.find?_eq_none];intro x hx;let⟨e,he,rfl⟩:=LI.mp hx;let:¬cg e.1=cg c:=λz=>h e he (r0 z);change ¬decide (cg e.1=cg c)=WX;rw[decide_eq_false this];decide
abbrev upE(c:Nat×List Int)(i:Nat)(e:En):En:=if e.1=c then(e.1,e.2.1,e.2.2++[i])else e
def kR{i:Nat}{e:En}:(upE c i e).1=e.1:=by unfold upE;split<;>rfl
def oG{i:Nat}{e:En}:(upE c i e).2.1=e.2.1:=by unfold upE;split<;>rfl
def AlI.old{L:Mem}{E:List Ev}{es:List En}(h:AlI L a E es M'){e:En}(he:e∈es)(i:Nat):AlI L a (E++[(i,e.1)]) (es.map (upE e.1 i)) (ad M' e.2.1 (.lst (jI (e.2.2++[i])))) where
 g:=λc o B=>by rw[aj (λz=>by rw[z,(h.fr e he).1]at B;cases B)];show h.g _ _ B
 d:=by rw[aj (Ne.symm (h.fr e he).2),h.d,NG];congr 2;show Pg λx _=>by simp[kvE,kR,oG]
 m:=λx hx=>by
  let⟨y,j,rfl⟩:=LI.mp hx;rw[oG]
  by_cases z:y.2.1=e.2.1
  ·let:y=e:=by
    let F:=h.na;let⟨G,h1⟩:=Ol j;let⟨J,h2⟩:=Ol he;let e1:(es.map (·.2.1))[G]?=S y.2.1:=by rw[Ly,h1];rfl
    let e2:(es.map (·.2.1))[J]?=S y.2.1:=by rw[Ly,h2,z];rfl
    let:=(Vj (J4.mp e1).1 F).mp (e1.trans e2.symm);rw[this,h2]at h1;cases h1;rfl
   subst this;rw[aa];unfold upE;rw[if_pos rfl]
  ·rw[aj z];let:¬y.1=e.1:=fun w=>z (by
    let F:=h.nk;let⟨G,h1⟩:=Ol j;let⟨J,h2⟩:=Ol he;let e1:(es.map (·.1))[G]?=S y.1:=by rw[Ly,h1];rfl
    let e2:(es.map (·.1))[J]?=S y.1:=by rw[Ly,h2,w];rfl
    let:=(Vj (J4.mp e1).1 F).mp (e1.trans e2.symm);rw[this,h2]at h1;cases h1;rfl)
   unfold upE;rw[if_neg this];show h.m y j
 fr:=λx hx=>by let⟨y,j,rfl⟩:=LI.mp hx;rw[oG];show h.fr y j
 nk:=by
  rw[NG];let:((·.1)∘upE e.1 i:En->_)=(·.1):=by funext x;show kR
  rw[this];show h.nk
 na:=by
  rw[NG];let:((·.2.1)∘upE e.1 i:En->_)=(·.2.1):=by funext x;show oG
  rw[this];show h.na
 nums:=λx hx=>by
  let⟨y,j,rfl⟩:=LI.mp hx;rw[kR,Mb,Mj,<-h.nums y j];unfold upE
  by_cases w:y.1=e.1
  ·rw[if_pos w,Mv (by simp[w])];rfl
  ·rw[if_neg w,Mw (by simpa using Ne.symm w)];simp
 all:=λv q=>by
  rcases Lv.mp q with q|q
  ·let⟨y,j,e1⟩:=h.all v q;show⟨_,MM j,by rw[kR];show e1⟩
  ·simp at q;subst q;show⟨_,MM he,kR⟩
def AlI.new{G:Mem}{E:List Ev}{es:List En}(h:AlI G a E es M')(J:∀e∈es,e.1≠c)(i:Nat){p:WZ}(q:M' p=Y)(L:G a=Y):
 AlI G a (E++[(i,c)]) (es++[(c,p,[i])]) (ad (ad (ad M' p (.lst [])) a (.dcn (np (es.map kvE) (cg c) (.ref p)))) p (.lst [.int (i:Nat)])):=by
 let B:p≠a:=λz=>by rw[z,h.d]at q;cases q
 let O:G p=Y:=bh h.g q;refine⟨λx o hx=>?_,?_,λe he=>?_,λe he=>?_,?_,?_,λe he=>?_,λv j=>?_⟩
 ·let h1:x≠p:=λz=>by rw[z,O]at hx;cases hx
  let h2:x≠a:=λz=>by rw[z,L]at hx;cases hx
  rw[aj h1,aj h2,aj h1];show h.g _ _ hx
 ·rw[aj (Ne.symm B),aa];congr 2;unfold np;rw[yk J];simp[kvE]
 ·rcases Lv.mp he with he|he
  ·let h1:e.2.1≠p:=λz=>by let:=h.m e he;rw[z,q]at this;cases this
   rw[aj h1,aj (h.fr e he).2,aj h1];show h.m e he
  ·simp at he;subst he;rw[aa];rfl
 ·rcases Lv.mp he with he|he
  ·show h.fr e he
  ·simp at he;subst he;show⟨O,B⟩
 ·rw[Mj,PV];refine⟨h.nk,by simp,λx hx y F=>?_⟩
  simp at F;subst F;let⟨e,he,rfl⟩:=LI.mp hx;show J e he
 ·rw[Mj,PV];refine⟨h.na,by simp,λx hx y F=>?_⟩
  simp at F;subst F;let⟨e,he,rfl⟩:=LI.mp hx;intro z;let:=h.m e he;rw[z,q]at this;cases this
 ·rw[Mb,Mj]
  rcases Lv.mp he with he|he
  ·rw[<-h.nums e he,Mw (by simpa using Ne.symm (J e he))];simp
  ·simp at he;subst he;let:(E.filter fun v=>decide (v.2=c))=[]:=by
    rw[Th];intro v j;let⟨e,he,e1⟩:=h.all v j;simpa usingλz=>J e he (e1.trans z)
   rw[this,Mv (_)];rfl
 ·rcases Lv.mp j with j|j
  ·let⟨e,he,e1⟩:=h.all v j;show⟨e,by simp[he],e1⟩
  ·simp at j;subst j;show⟨_,by simp;show .inr rfl,rfl⟩
end
section
open L2.Srt
def r6{a b:K3}(h:a.1<b.1∨(a.1=b.1/\(a.2.1<b.2.1∨(a.2.1=b.2.1/\a.2.2<b.2.2)))):klt a b:=by
 let⟨a1,a2,j⟩:=a;let⟨q,z,B⟩:=b;dsimp only at h;let F:∀{x y:Int},x<y->az (.int x) (.int y)=.lt:=λh=>by simp[az,h]
 let he:∀{x y:Int},x=y->az (.int x) (.int y)=.eq:=λh=>by simp[az,h]
 unfold klt k3K ltK;simp only[az,cmpKs]
 rcases h with h|⟨rfl,h⟩
 ·simp[h,Ordering.then]
 ·rcases h with h|⟨rfl,h⟩
  ·simp[h,Ordering.then]
  ·simp[h,Ordering.then]
end
section
open L2.Srt
variable{T:List FD}
abbrev prn(ps:List Pr)(r:Nat):Pr:=ps.getD r ([],[],[])
def ci{ps:List Pr}{p:Pr}(h:ps[r]?=S p):prn ps r=p:=by simp[prn,h]
abbrev tl3(ps:List Pr)(r s:Nat)(l:List Nat):List K3:=(l.filter λt=>decide (r≠s)&&decide (prt (prn ps r) t=prt (prn ps s) t)).map λt:Nat=>((r:Int),(s:Int),(t:Int))
abbrev tl2(ps:List Pr)(r:Nat)(l:List Nat):List K3:=l.flatMap λs=>tl3 ps r s (LO 3)
abbrev tl1(ps:List Pr)(l:List Nat):List K3:=l.flatMap λr=>tl2 ps r (LO ps.length)
abbrev flp(ps:List Pr):List K3:=tl1 ps (LO ps.length)
def tl3_mem{ps:List Pr}{s:Nat}{l:List Nat}{x:K3}:x∈tl3 ps r s l↔∃t,t∈l/\x=((r:Int),(s:Int),(t:Int))/\r≠s/\prt (prn ps r) t=prt (prn ps s) t:=by
 unfold tl3;rw[LI];constructor
 ·rintro⟨t,h,rfl⟩;rw[Nl]at h;simp only[D0,decide_eq_true_eq]at h;show⟨t,h.1,rfl,h.2⟩
 ·rintro⟨t,h1,rfl,h2,j⟩;show⟨t,Nl.mpr ⟨h1,by simp[h2,j]⟩,rfl⟩
def flp_mem{ps:List Pr}{x:K3}:x∈flp ps↔∃r s t:Nat,r<ps.length/\s<ps.length/\t<3/\x=((r:Int),(s:Int),(t:Int))/\r≠s/\prt (prn ps r) t=prt (prn ps s) t:=by
 unfold flp tl1 tl2;simp only[O0,NO,tl3_mem];constructor
 ·rintro⟨r,hr,s,hs,t,ht,h⟩;show⟨r,s,t,hr,hs,ht,h⟩
 ·rintro⟨r,s,t,hr,hs,ht,h⟩;show⟨r,hr,s,hs,t,ht,h⟩
def range_lt:(LO n).Pairwise (· < ·):=List.pairwise_lt_range
def flp_srt{ps:List Pr}:(flp ps).Pairwise klt:=by
 unfold flp tl1;rw[NN];refine⟨λr _=>?_,range_lt.imp λ{r r'} hr x hx y j=>?_⟩
 ·unfold tl2;rw[NN];refine⟨λs _=>?_,range_lt.imp λ{s s'} hs x hx y j=>?_⟩
  ·unfold tl3;rw[MP];let q:(List.filter (λt=>decide (r≠s)&&decide (prt (prn ps r) t=prt (prn ps s) t)) (LO 3)).Pairwise (· < ·):=range_lt.filter _;calc q.imp ?_;intro t t' ht;calc r6 (.inr ⟨rfl,.inr ⟨rfl,?_⟩⟩);change(t:Int)<t';lia
  ·let⟨t,_,rfl,_⟩:=tl3_mem.mp hx;let⟨t',_,rfl,_⟩:=tl3_mem.mp j;calc r6 (.inr ⟨rfl,.inl ?_⟩);change(s:Int)<s';lia
 ·unfold tl2 at hx j;rw[O0]at hx j;let⟨s,_,hx⟩:=hx;let⟨s',_,j⟩:=j;let⟨t,_,rfl,_⟩:=tl3_mem.mp hx;let⟨t',_,rfl,_⟩:=tl3_mem.mp j;calc r6 (.inl ?_);change(r:Int)<r';lia
def EV{ps:List Pr}:(flp ps).Nodup:=flp_srt.imp λh z=>by subst z;show CM h
def AB{ps:List Pr}:eI ((flp ps).map k3D):=by unfold eI;rw[MP];calc flp_srt.imp λ{a b} h=>?_;show jt _ _ h
def tz{ps:List Pr}:(flp ps).length<=3*(ps.length*ps.length):=by
 let j:∀r s,(tl3 ps r s (LO 3)).length<=3:=λr s=>by unfold tl3;rw[s9];show MR (Nc _ _) (_)
 let h2:∀r (l:List Nat),(tl2 ps r l).length<=3*l.length:=λr l=>by
  unfold tl2
  induction l with
  |nil=>simp
  |cons x l ih=>rw[Oa,I7,My];let:=j r x;lia
 let h1:∀l:List Nat,(tl1 ps l).length<=3*(l.length*ps.length):=λl=>by
  unfold tl1
  induction l with
  |nil=>simp
  |cons x l ih=>rw[Oa,I7,My,QK];let:=h2 x (LO ps.length);rw[Mg]at this;lia
 let:=h1 (LO ps.length);rw[Mg]at this;show this
abbrev dJ(t:Nat)(r:Nat)(l:List Nat):List K3:=(l.filter λs:Nat=>!decide ((r:Int)=(s:Int))).map λs:Nat=>((r:Int),(s:Int),(t:Int))
abbrev dm(t:Nat)(nums l:List Nat):List K3:=l.flatMap λr=>dJ t r nums
abbrev da(es:List En):List K3:=es.flatMap λe=>dm e.1.1 e.2.2 e.2.2
def one3_mem{t:Nat}{l:List Nat}{x:K3}:x∈dJ t r l↔∃s,s∈l/\x=((r:Int),(s:Int),(t:Int))/\r≠s:=by
 unfold dJ;rw[LI];constructor
 ·rintro⟨s,h,rfl⟩;rw[Nl]at h;let h2:¬((r:Int)=(s:Int)):=by simpa using h.2
  show⟨s,h.1,rfl,λz=>h2 (by rw[z])⟩
 ·rintro⟨s,h1,rfl,h2⟩;show⟨s,Nl.mpr ⟨h1,by simp;lia⟩,rfl⟩
def AC{es:List En}{x:K3}:x∈da es↔∃e r s,e∈es/\r∈e.2.2/\s∈e.2.2/\x=((r:Int),(s:Int),(e.1.1:Int))/\r≠s:=by
 unfold da dm;simp only[O0,one3_mem];constructor
 ·rintro⟨e,he,r,hr,s,hs,h⟩;show⟨e,r,s,he,hr,hs,h⟩
 ·rintro⟨e,r,s,he,hr,hs,h⟩;show⟨e,he,r,hr,s,hs,h⟩
def ev_mem{ps:List Pr}{i t:Nat}{w:List Int}:(i,t,w)∈evL (enP ps)↔i<ps.length/\t<3/\prt (prn ps i) t=w:=by
 unfold evL;rw[O0];constructor
 ·rintro⟨⟨j,p⟩,q,h⟩;let q:=enP_mem.mp q;let z:=(J4.mp q).1;let e1:=ci q;simp only[evP,Lw,LW,or_false,Rg]at h
  rcases h with⟨rfl,rfl,rfl⟩|⟨rfl,rfl,rfl⟩|⟨rfl,rfl,rfl⟩<;>show⟨z,∅,by rw[e1];rfl⟩
 ·rintro⟨h1,h2,rfl⟩;let q:ps[i]?=S (ps[i]'h1):=D1 h1;calc⟨(i,ps[i]'h1),enP_mem.mpr q,?_⟩;rw[ci q]
  match t,h2 with
  |0,_=>simp[evP,prt]
  |1,_=>simp[evP,prt]
  |2,_=>simp[evP,prt]
def G9{ps:List Pr}:(evL (enP ps)).Pairwise λu v=>¬(u.1=v.1/\u.2.1=v.2.1):=by
 unfold evL;rw[NN];let he:(enP ps).Pairwise λx y=>x.1≠y.1:=by unfold enP;rw[Sg];intro i j hi G q;simp;lia
 refine⟨λx _=>by simp[evP],he.imp λ{x y} h u B v F z=>h ?_⟩
 let f:∀{x:Nat×Pr} {u:Ev},u∈evP x->u.1=x.1:=λ{x u} h=>by
  simp only[evP,Lw,LW,or_false]at h
  rcases h with rfl|rfl|rfl<;>rfl
 rw[<-f B,<-f F];show z.1
def Da{ps:List Pr}:(((evL (enP ps)).filter λv=>decide (v.2=c)).map (·.1)).Nodup:=by change Uq _ _;rw[MP];let:=(G9 (ps:=ps)).filter λv=>decide (v.2=c);calc Qk ?_ this;intro u v j q h z;let j:=(Nl.mp j).2;let q:=(Nl.mp q).2;simp only[decide_eq_true_eq]at j q;show h ⟨z,by rw[j,q]⟩
def Db{ps:List Pr}{M0:Mem}{es:List En}(h:AlI M0 a (evL (enP ps)) es M'):(da es).Nodup:=by
 unfold da;change Uq _ _;rw[NN];refine⟨λe he=>?_,?_⟩
 ·let F3:e.2.2.Nodup:=by rw[h.nums e he];show Da
  unfold dm;rw[NN];refine⟨λr _=>?_,F3.imp λ{r r'} hr x hx y j z=>?_⟩
  ·unfold dJ;rw[MP];calc(F3.filter _).imp λ{s s'} hs z=>hs ?_;simp at z;lia
  ·let⟨s,_,rfl,_⟩:=one3_mem.mp hx;let⟨s',_,rfl,_⟩:=one3_mem.mp j;simp at z;show hr ∅
 ·let Z:=h.nk;rw[List.Nodup,MP]at Z;calc Qk ?_ Z;intro e e' he G J x hx y j z;subst z;unfold dm at hx j;rw[O0]at hx j;let⟨r,hr,hx⟩:=hx;let⟨r',q,j⟩:=j;let⟨s,_,rfl,_⟩:=one3_mem.mp hx;let⟨s',_,ey,_⟩:=one3_mem.mp j;simp only[Rg]at ey;let e1:r=r':=by lia
  let e2:e.1.1=e'.1.1:=∅
  rw[h.nums e he,LI]at hr;rw[h.nums e' G,LI]at q;let⟨u,L,rfl⟩:=hr;let⟨v,O,U⟩:=q;rw[Nl,decide_eq_true_eq]at L O;let⟨ui,ut,uw⟩:=u;let⟨vi,vt,vw⟩:=v;let⟨_,_,h3⟩:=ev_mem.mp L.1;let⟨_,_,h4⟩:=ev_mem.mp O.1;let B:(ut,uw)=e.1:=L.2;let F:(vt,vw)=e'.1:=O.2;calc J ?_;rw[<-B,<-F];rw[<-B,<-F]at e2;dsimp only at e2 U e1;let e3:ui=vi:=∅
  rw[Rg];calc⟨e2,?_⟩;rw[<-h3,<-h4,e2,e3]
def nC{ps:List Pr}{B:Mem}{es:List En}(h:AlI B a (evL (enP ps)) es M'):(da es).Perm (flp ps):=by
 calc(Se (Db h) EV).mpr λx=>?_;rw[AC,flp_mem];let nm:∀e∈es,∀r,r∈e.2.2↔r<ps.length/\e.1.1<3/\prt (prn ps r) e.1.1=e.1.2:=λe he r=>by
  rw[h.nums e he,LI];constructor
  ·rintro⟨⟨i,t,w⟩,q,rfl⟩;rw[Nl,decide_eq_true_eq]at q;let e1:(t,w)=e.1:=q.2;rw[<-e1];show ev_mem.mp q.1
  ·intro hr;show⟨(r,e.1.1,e.1.2),Nl.mpr ⟨ev_mem.mpr hr,by simp⟩,rfl⟩
 constructor
 ·rintro⟨e,r,s,he,hr,hs,rfl,j⟩;let⟨h1,h2,F⟩:=(nm e he r).mp hr;let⟨g1,_,g3⟩:=(nm e he s).mp hs;show⟨r,s,e.1.1,h1,g1,h2,rfl,j,F.trans g3.symm⟩
 ·rintro⟨r,s,t,hr,hs,ht,rfl,j,he⟩;let⟨e,hm,e1⟩:=h.all (r,t,prt (prn ps r) t) (ev_mem.mpr ⟨hr,ht,rfl⟩);let e2:e.1.1=t:=by rw[e1]
  let z:e.1.2=prt (prn ps r) t:=by rw[e1]
  calc⟨e,r,s,hm,(nm e hm r).mpr ⟨hr,∅,by rw[e2,z]⟩,(nm e hm s).mpr ⟨hs,∅,by rw[e2,z,he]⟩,by rw[e2],j⟩
end
section
open L2.Srt
variable{T:List FD}
abbrev lZ(s:Stmt):FD:=⟨"flips",s,["scheme","alike","at","product","side","part"],1,
 (.cons (.asg (.name 1) .dnewN)
 (.cons (.for (.tup (.cons (.name 2) (.cons (.name 3) .nil))) (.enum (.ix (.var 0) (.int 3))) (.cons (.for (.tup (.cons (.name 4) (.cons (.name 5) .nil))) (.enum (.var 3)) (.cons (.drop (.meth .append (.sdef (.var 1) (.tup (.cons (.var 4) (.cons (.var 5) .nil))) (.lst .nil)) (.var 2)))
 .nil))
 .nil))
 (.cons (.frzN 1 (.ret (.blt .sorted (.cons (.comp [Y,Y,Y,Y,Y] ["side","part","numbers","r","s"] (.more (.itemsN (.var 1)) (.tup (.cons (.tup (.cons (.name 0) (.cons (.name 1) .nil))) (.cons (.name 2) .nil))) .nil (.more (.seq (.var 2)) (.name 3) .nil (.last (.seq (.var 2)) (.name 4) (.cons (.cmp .ne (.var 3) (.var 4)) .nil) (.tup (.cons (.var 3) (.cons (.var 4) (.cons (.var 0) .nil)))))))) .nil))))
 .nil)))⟩
abbrev evD(v:Ev):D:=.tup [.int (v.2.1:Nat),.tup (v.2.2.map .int)]
def Dc(h:c.2≠[]):okK (cg c)=WX:=by simp only[okK,cg,NR,lF,dj h];rfl
def AD{l:List (Nat×Pr)}{x:Nat×Pr}:evL (l++[x])=evL l++evP x:=by simp[evL]
def iL:∀{l:List (Nat×Pr)},(evL l).length=3*l.length
 |[]=>rfl
 |x::l=>by
  let:evL (x::l)=evP x++evL l:=by simp[evL]
  rw[this,I7,iL];simp[evP];lia
def AE(hf:T[f]?=S (lZ s)){k:Nat}(hk:1<=k){x z:D}{ps:List Pr}(Jk:∀p∈ps,NeP p)(hl:ps.length<=1000)(h0:M p0=S (.lst (ps.map prD)))(q:∀pr M',Ge M M'->M pr=Y->M' pr=S (.lst ((flp ps).map k3D))->Q (.ref pr) M'):phi T k f [.tup [x,y,z,.ref p0]] M Q:=by
 refine ao ∅ hf rfl (ρ:=[S _,Y,Y,Y,Y,Y]) rfl ?_
 unfold lZ;nofun;intro a ha;let Ja:AlI M a [] [] (ad M a (.dcn [])):=⟨Ge.new ha,aa,λe h=>(by cases h),λe h=>(by cases h),RY,RY,λe h=>(by cases h),λe h=>(by cases h)⟩
 generalize ad M a (.dcn [])=M0 at Ja;nofun;calc⟨_,rfl,_,af (Ja.g _ _ h0),?_⟩;rw[jD];refine aI (f:=enD) (ys:=enP ps) (I:=λl ρ M'=>∃(o2 L B Z:Option D) (es:List En),ρ=[S (.tup [x,y,z,.ref p0]),S (.ref a),o2,L,B,Z]/\AlI M a (evL l) es M'/\es.length<=(evL l).length) rfl
  ⟨Y,Y,Y,Y,[],rfl,Ja,NM _⟩ ?_ ?_ ?_
 ·rintro l ρ M' ⟨_,_,_,_,es,rfl,h,_⟩;show af (h.g _ _ h0)
 ·rintro l u r ρ M1 e ⟨o2,L,B,Z,es,rfl,G,O⟩;let⟨e1,e2⟩:=hZ e;let hu:NeP u.2:=Jk u.2 (by rw[e1];simp)
  let Jl:=ar e;rw[lU]at Jl;calc⟨_,rfl,λF hF=>?_⟩;nofun;let en:eN [D.tup (u.2.1.map .int),.tup (u.2.2.1.map .int),.tup (u.2.2.2.map .int)]=(evP u).map evD:=rfl;calc⟨_,rfl,?_⟩;rw[en];refine aI (f:=evD) (ys:=evP u) (I:=λd ρ M'=>∃(B Z:Option D) (es:List En),ρ=[S (.tup [x,y,z,.ref p0]),S (.ref a),S (.int (u.1:Nat)),S (prD u.2),B,Z]/\AlI M a (evL l++d) es M'/\es.length<=(evL l++d).length) rfl
   ⟨B,Z,es,rfl,by rw[MN];show G,by rw[MN];show O⟩ (λ_ _ _ _=>by first|rfl|trivial) ?_ ?_
  ·rintro d v r' ρ M2 ev ⟨B,Z,es,rfl,G,O⟩;let hv:v∈evP u:=by rw[ev];simp
   let Je:v.1=u.1/\v.2.2≠[]:=by
    simp only[evP,Lw,LW,or_false]at hv
    rcases hv with rfl|rfl|rfl
    ·show⟨rfl,hu.1⟩
    ·show⟨rfl,hu.2.1⟩
    ·show⟨rfl,hu.2.2⟩
   let Jq:d.length<3:=by let:=ar ev;simpa[evP]using this
   let Jr:es.length<=3003:=by rw[I7,iL]at O;lia
   calc⟨_,rfl,λF2 Jf=>?_⟩;nofun;refine⟨⟨_,G.d⟩,by rw[hH];lia,by rw[hH];lia,λpz U=>?_⟩
   let J:=G.ge (Ge.new (o:=.lst []) U);let Jg:v=(u.1,v.2):=by rw[<-Je.1]
   refine⟨_,J.d,cg v.2,rfl,Dc Je.2,by rw[s9,hH];lia,λw hw=>?_,λhn=>?_⟩
   ·by_cases hx:∃e∈es,e.1=v.2
    ·let⟨en,F3,ek⟩:=hx;rw[<-ek,Bj J.nk F3]at hw
     cases hw
     let hm:=J.m en F3;let Js:en.2.2.length<=4000:=by rw[J.nums en F3,s9];calc MR (Nc _ _) ?_;rw[I7,iL];lia
     calc⟨⟨_,rfl,_,hm⟩,?_⟩;refine⟨_,_,_,rfl,rfl,hm,by simp[jI,hH];lia,?_⟩
     let Jb:=J.old F3 u.1;let e4:jI en.2.2++[D.int (u.1:Nat)]=jI (en.2.2++[u.1]):=by simp[jI]
     rw[e4];refine Jf _ _ ⟨_,_,es.map (upE en.1 u.1),rfl,?_,?_⟩
     ·let:[v]=[(u.1,en.1)]:=by rw[ek,<-Jg]
      rw[<-LH,this];show Jb
     ·rw[<-LH,s9,I7];show MR O (Nat.le_add_right _ _)
    ·let Jc:∀e∈es,e.1≠v.2:=λe he z=>hx ⟨e,he,z⟩;rw[yk Jc]at hw;cases hw
   ·let Jc:∀e∈es,e.1≠v.2:=λe he z=>by rw[<-z,Bj J.nk he]at hn;cases hn
    let Jm:pz≠a:=λz=>by rw[z,G.d]at U;cases U
    let hm:ad (ad M2 pz (.lst [])) a (.dcn (np (es.map kvE) (cg v.2) (.ref pz))) pz=S (.lst []):=by rw[aj Jm,aa]
    calc⟨⟨_,hm⟩,?_⟩;refine⟨_,_,_,rfl,rfl,hm,by rw[hH];simp,?_⟩
    let Jb:=G.new Jc u.1 U ha;refine Jf _ _ ⟨_,_,es++[(v.2,pz,[u.1])],rfl,?_,?_⟩
    ·let:[v]=[(u.1,v.2)]:=by rw[<-Jg]
     rw[<-LH,this];show Jb
    ·rw[<-LH,I7,I7];show Nat.add_le_add O (Lz 1)
  ·rintro ρ M2 ⟨B,Z,es,rfl,G,O⟩;rw[<-AD]at G O;show hF _ _ ⟨_,_,_,_,es,rfl,G,O⟩
 rintro ρ M1 ⟨o2,L,B,Z,es,rfl,G,O⟩;nofun;calc⟨a,_,rfl,G.d,?_⟩;let g2:Ge M (ad M1 a (.fdn (es.map kvE))):=λc o ec=>by rw[aj (λz=>by rw[z,ha]at ec;cases ec)];show G.g _ _ ec
 let md:ad M1 a (.fdn (es.map kvE)) a=S (.fdn (es.map kvE)):=aa;let mm:∀e∈es,ad M1 a (.fdn (es.map kvE)) e.2.1=S (.lst (jI e.2.2)):=λe he=>by rw[aj (G.fr e he).2];show G.m e he
 generalize ad M1 a (.fdn (es.map kvE))=M2 at g2 md mm;let lE:(evL (enP ps)).length<=3000:=by rw[iL,lU];lia
 let Jt:∀e∈es,e.2.2.length<=3000:=λe he=>by rw[G.nums e he,s9];show MR (Nc _ _) lE
 let Jp:(da es).length<=3*(ps.length*ps.length):=by rw[(nC G).length_eq];show tz
 let Ju:ps.length*ps.length<=1000*1000:=NS hl hl;ac_nf;calc⟨_,md,?_⟩;rw[NG];refine aA (f:=λe:En=>kvN (kvE e)) (ys:=es) (I:=λl ρ M' acc=>(∃o0 o1 o2 L B,ρ=[o0,o1,o2,L,B])/\M'=M2/\acc=(da l).map k3D) rfl ⟨⟨_,_,_,_,_,rfl⟩,rfl,rfl⟩ (λ_ _ _ _ _=>trivial) ?_ ?_
 ·rintro l e r ρ M3 acc eS ⟨⟨o0,o1,o2,L,B,rfl⟩,rfl,rfl⟩;let he:e∈es:=by rw[eS];simp
  let L1:(da l).length+(dm e.1.1 e.2.2 e.2.2).length<=(da es).length:=by rw[eS];unfold da;rw[Ng,Oa];simp only[I7];lia
  calc⟨_,rfl,λN1 Jn=>?_⟩;ac_nf;calc⟨_,af (mm e he),?_⟩;refine aA (f:=λi:Nat=>D.int (i:Nat)) (ys:=e.2.2) (I:=λl' ρ M' acc=>(∃L B,ρ=[S (.int (e.1.1:Nat)),S (.tup (e.1.2.map .int)),S (.ref e.2.1),L,B])/\M'=M3/\acc=(da l++dm e.1.1 e.2.2 l').map k3D) rfl ⟨⟨_,_,rfl⟩,rfl,by simp[dm]⟩ (λ_ _ _ _ h=>by rw[h.2.1];show af (mm e he)) ?_ ?_
  ·rintro l' i r' ρ M4 acc e' ⟨⟨L,B,rfl⟩,rfl,rfl⟩;let L2:(dm e.1.1 e.2.2 l').length+(dJ e.1.1 i e.2.2).length<=(dm e.1.1 e.2.2 e.2.2).length:=by
    (conv=>rhs;unfold dm;rw[e'])
    unfold dm;rw[Ng,Oa];simp only[I7];rw[<-e'];lia
   calc⟨_,rfl,λN2 Jo=>?_⟩;ac_nf;calc⟨_,af (mm e he),?_⟩;refine aA (f:=λi:Nat=>D.int (i:Nat)) (ys:=e.2.2) (I:=λl'' ρ M' acc=>(∃B,ρ=[S (.int (e.1.1:Nat)),S (.tup (e.1.2.map .int)),S (.ref e.2.1),S (.int (i:Nat)),B])/\M'=M4/\acc=(da l++(dm e.1.1 e.2.2 l'++dJ e.1.1 i l'')).map k3D) rfl ⟨⟨_,rfl⟩,rfl,by simp[dJ]⟩ (λ_ _ _ _ h=>by rw[h.2.1];show af (mm e he)) ?_ ?_
   ·rintro l'' j r'' ρ M5 acc e'' ⟨⟨B,rfl⟩,rfl,rfl⟩;let L3:(dJ e.1.1 i l'').length<=(dJ e.1.1 i e.2.2).length:=by
     (conv=>rhs;rw[e''])
     unfold dJ;rw[Mb,Mj,I7];lia
    calc⟨_,rfl,λN3 Jh=>?_⟩;ac_nf
    by_cases hz:((i:Nat):Int)=((j:Nat):Int)
    ·rw[if_neg (by simp[hz])]
     calc Jh _ _ _ ⟨⟨_,rfl⟩,rfl,?_⟩;unfold dJ;rw[Mb,Mw (by simp[hz])];simp
    ·rw[if_pos (by simpa using hz)]
     refine⟨by rw[hH];lia,by rw[s9,hH,I7,I7];lia,Jh _ _ _ ⟨⟨_,rfl⟩,rfl,?_⟩⟩
     unfold dJ;rw[Mb,Mv (by simpa using hz)];simp[k3D]
   ·rintro ρ M5 acc ⟨⟨B,rfl⟩,rfl,rfl⟩;calc Jo _ _ _ ⟨⟨_,_,rfl⟩,rfl,?_⟩;unfold dm;rw[Ng];simp
  ·rintro ρ M4 acc ⟨⟨L,B,rfl⟩,rfl,rfl⟩;calc Jn _ _ _ ⟨⟨_,_,_,_,_,rfl⟩,rfl,?_⟩;unfold da;rw[Ng];simp
 ·rintro ρ M3 acc ⟨⟨o0,o1,o2,L,B,rfl⟩,rfl,rfl⟩ pc hpc;let g3:=g2.trans (Ge.new (o:=.lst ((da es).map k3D)) hpc);refine⟨_,_,.tup [.int,.int,.int],rfl,af aa,rfl,λd hd=>?_,λpr ys Ji Jd Jj=>?_⟩
  ·let⟨t,_,rfl⟩:=LI.mp hd;rfl
  ·let hy:ys=(flp ps).map k3D:=rT (sh:=.tup [.int,.int,.int]) (fun d hd=>by
    let⟨t,_,rfl⟩:=LI.mp hd;rfl) Jd (Sa _) ((nC G).map k3D) Jj AB
   subst hy;show q pr _ (g3.trans (Ge.new Ji)) (bh g3 Ji) aa
abbrev jJ(s:Stmt):FD:=⟨"_law_flips",s,["_law_scheme","_law_found","_law_r","_law_s","_law_side"],1,
 (.cons (.asg (.name 1) (.lst .nil))
 (.cons (.for (.name 2) (.rng1 (.blt .len (.cons (.ix (.var 0) (.int 3)) .nil))) (.cons (.for (.name 3) (.rng1 (.blt .len (.cons (.ix (.var 0) (.int 3)) .nil))) (.cons (.for (.name 4) (.rng1 (.int 3)) (.cons (.ite (.and (.cons (.cmp .ne (.var 2) (.var 3)) (.cons (.cmp .eq (.ix (.ix (.ix (.var 0) (.int 3)) (.var 2)) (.var 4)) (.ix (.ix (.ix (.var 0) (.int 3)) (.var 3)) (.var 4))) .nil))) (.cons (.drop (.meth .append (.var 1) (.tup (.cons (.var 2) (.cons (.var 3) (.cons (.var 4) .nil))))))
 .nil) .nil)
 .nil))
 .nil))
 .nil))
 (.cons (.ret (.var 1))
 .nil)))⟩
def ym(hf:T[f]?=S (jJ s)){k:Nat}(hk:1<=k){x z:D}{O:WZ}{ps:List Pr}(hl:ps.length<=1000)(h0:M O=S (.lst (ps.map prD)))(q:∀pr M',Ge M M'->M pr=Y->M' pr=S (.lst ((flp ps).map k3D))->Q (.ref pr) M'):phi T k f [.tup [x,y,z,.ref O]] M Q:=by
 refine ao ∅ hf rfl (ρ:=[S _,Y,Y,Y,Y]) rfl ?_
 unfold jJ;nofun;refine⟨by rw[hH];lia,λpf G=>?_⟩
 let U:=Ge.new (o:=.lst []) G;let m0:ad M pf (.lst []) pf=S (.lst ((tl1 ps []).map k3D)):=aa;generalize ad M pf (.lst [])=M0 at U m0;let Jc:=tz (ps:=ps);let Jd:ps.length*ps.length<=1000*1000:=NS hl hl;nofun;calc⟨_,rfl,aQ (U _ _ h0) ?_⟩;rw[s9];refine⟨_,rfl,∅,∅,?_⟩
 rw[LU,aR];refine aI (f:=λi:Nat=>D.int (i:Nat)) (ys:=LO ps.length) (I:=λl ρ M'=>∃F3 B j:Option D,ρ=[S (.tup [x,y,z,.ref O]),S (.ref pf),F3,B,j]/\Ge M M'/\M' pf=S (.lst ((tl1 ps l).map k3D))) rfl
  ⟨Y,Y,Y,rfl,U,m0⟩ (λ_ _ _ _=>trivial) ?_ ?_
 ·rintro l r lr ρ M1 e ⟨F3,B,j,rfl,g1,Z⟩;let⟨hi,hr⟩:=bT e;let L1:(tl1 ps l).length+(tl2 ps r (LO ps.length)).length<=(flp ps).length:=by
   unfold flp;(conv=>rhs;rw[e]);unfold tl1;rw[Ng,Oa];simp only[I7];lia
  let hp:ps[r]?=S (ps[r]'hr):=D1 hr;calc⟨_,rfl,λF hF=>?_⟩;nofun;calc⟨_,rfl,aQ (g1 _ _ h0) ?_⟩;rw[s9];refine⟨_,rfl,∅,∅,?_⟩
  rw[LU,aR];refine aI (f:=λi:Nat=>D.int (i:Nat)) (ys:=LO ps.length) (I:=λl' ρ M'=>∃B j:Option D,ρ=[S (.tup [x,y,z,.ref O]),S (.ref pf),S (.int (r:Nat)),B,j]/\Ge M M'/\M' pf=S (.lst ((tl1 ps l++tl2 ps r l').map k3D))) rfl
   ⟨B,j,rfl,g1,by simpa[tl2]using Z⟩ (λ_ _ _ _=>trivial) ?_ ?_
  ·rintro l' s' lr' ρ M2 e' ⟨B,j,rfl,g2,m2⟩;let⟨Je,hs⟩:=bT e';let L2:(tl2 ps r l').length+(tl3 ps r s' (LO 3)).length<=(tl2 ps r (LO ps.length)).length:=by
    (conv=>rhs;rw[e'])
    unfold tl2;rw[Ng,Oa];simp only[I7];lia
   let hq:ps[s']?=S (ps[s']'hs):=D1 hs;calc⟨_,rfl,λF2 Ja=>?_⟩;nofun;refine⟨by decide,by decide,?_⟩
   let er:aW 0 (3:Int).toNat=(LO 3).map λi:Nat=>D.int (i:Nat):=by rw[aR];rfl
   rw[er];refine aI (f:=λi:Nat=>D.int (i:Nat)) (ys:=LO 3) (I:=λl'' ρ M'=>∃j:Option D,ρ=[S (.tup [x,y,z,.ref O]),S (.ref pf),S (.int (r:Nat)),S (.int (s':Nat)),j]/\Ge M M'/\M' pf=S (.lst ((tl1 ps l++(tl2 ps r l'++tl3 ps r s' l'')).map k3D))) rfl
    ⟨j,rfl,g2,by simpa[tl3]using m2⟩ (λ_ _ _ _=>trivial) ?_ ?_
   ·rintro l'' t lr'' ρ M3 e'' ⟨j,rfl,g3,L⟩;let⟨Jb,ht⟩:=bT e'';let L3:(tl3 ps r s' l'').length<=(tl3 ps r s' (LO 3)).length:=by
     (conv=>rhs;rw[e''])
     unfold tl3;rw[Mb,Mj,I7];lia
    calc⟨_,rfl,λF3 J=>?_⟩;nofun;let skip:(decide (r≠s')&&decide (prt (prn ps r) t=prt (prn ps s') t))=WY->tl3 ps r s' (l''++[t])=tl3 ps r s' l'':=λhz=>by unfold tl3;rw[Mb,Mw (by rw[hz];decide)];simp
    by_cases hz:r=s'
    ·rw[if_neg (by simp[hz])]
     ac_nf;calc J _ _ ⟨_,rfl,g3,?_⟩;rw[skip (by simp[hz])];show L
    ·rw[if_pos (by simp;lia)]
     refine⟨_,rfl,al (g3 _ _ h0) (d:=prD (ps[r]'hr)) (am (by rw[Ly,hp];rfl)) ?_⟩
     calc⟨_,_,rfl,am (bE ht),?_⟩;refine⟨_,rfl,al (g3 _ _ h0) (d:=prD (ps[s']'hs)) (am (by rw[Ly,hq];rfl)) ?_⟩
     calc⟨_,_,rfl,am (bE ht),?_⟩;calc cq ⟨_,rfl,?_⟩;let e1:=ci hp;let e2:=ci hq
     by_cases hw:prt (ps[r]'hr) t=prt (ps[s']'hs) t
     ·rw[if_pos (by simpa using hw)]
      nofun;refine⟨⟨_,L⟩,by rw[hH];lia,pf,_,_,rfl,rfl,L,by rw[s9,hH,I7,I7];lia,?_⟩
      refine J _ _ ⟨_,rfl,λc o ec=>?_,?_⟩
      ·rw[aj (λz=>by rw[z,G]at ec;cases ec)];show g3 _ _ ec
      ·rw[aa];unfold tl3;rw[Mb,Mv (by rw[e1,e2];simp[hz,hw])];simp[k3D]
     ·rw[if_neg (by simpa using hw)]
      ac_nf;calc J _ _ ⟨_,rfl,g3,?_⟩;rw[skip (by rw[e1,e2];simp[hw])];show L
   ·rintro ρ M3 ⟨j,rfl,g3,L⟩;calc Ja _ _ ⟨_,_,rfl,g3,?_⟩;rw[L];unfold tl2;rw[Ng];simp
  ·rintro ρ M2 ⟨B,j,rfl,g2,m2⟩;calc hF _ _ ⟨_,_,_,rfl,g2,?_⟩;rw[m2];unfold tl1;rw[Ng];simp
 ·rintro ρ M1 ⟨F3,B,j,rfl,g1,Z⟩;nofun;show q pf M1 g1 G Z
end
section
open L2.Srt
variable{T:List FD}
abbrev fpr(p q:Pr):Nat->Pr×Pr
 |0=>((p.1,adl p.2.1 q.2.1,p.2.2),(q.1,q.2.1,adl q.2.2 (ngl p.2.2)))
 |1=>((adl p.1 q.1,p.2.1,p.2.2),(q.1,q.2.1,adl q.2.2 (ngl p.2.2)))
 |_=>((adl p.1 q.1,p.2.1,p.2.2),(q.1,adl q.2.1 (ngl p.2.1),q.2.2))
abbrev flq(ps:List Pr)(r s t:Nat):List Pr:=(ps.set r (fpr (prn ps r) (prn ps s) t).1).set s (fpr (prn ps r) (prn ps s) t).2
def iM:(ngl l).length=l.length:=by simp[ngl]
def AF{p q:Pr}(J:p.1.length=L0/\p.2.1.length=L1/\p.2.2.length=L2)(L:q.1.length=L0/\q.2.1.length=L1/\q.2.2.length=L2)(t:Nat):
 ((fpr p q t).1.1.length=L0/\(fpr p q t).1.2.1.length=L1/\(fpr p q t).1.2.2.length=L2)/\((fpr p q t).2.1.length=L0/\(fpr p q t).2.2.1.length=L1/\(fpr p q t).2.2.2.length=L2):=by
 let⟨F,z,p2⟩:=J;let⟨j,B,G⟩:=L
 match t with
 |0=>show⟨⟨F,bS z B,p2⟩,j,B,bS G (by rw[iM];show p2)⟩
 |1=>show⟨⟨bS F j,z,p2⟩,j,B,bS G (by rw[iM];show p2)⟩
 |_+2=>show⟨⟨bS F j,z,p2⟩,j,bS B (by rw[iM];show z),G⟩
def tD{ps:List Pr}(h:Tdy L0 L1 L2 ps){s t:Nat}(hr:r<ps.length)(hs:s<ps.length):Tdy L0 L1 L2 (flq ps r s t):=by
 let q:ps[r]?=S (prn ps r):=by rw[D1 hr,ci (D1 hr)]
 let z:ps[s]?=S (prn ps s):=by rw[D1 hs,ci (D1 hs)]
 let lp:=h.l _ (LJ q);let lq:=h.l _ (LJ z);let⟨f1,f2⟩:=AF lp lq t;refine⟨λu j=>?_,h.h0,h.h1,h.h2,by unfold flq;rw[Ro,Ro];show h.n⟩
 unfold flq at j
 rcases Qa j with j|rfl
 ·rcases Qa j with j|rfl
  ·show h.l u j
  ·show f1
 ·show f2
def tE{ps:List Pr}{s t:Nat}:(flq ps r s t).length=ps.length:=by simp[flq]
abbrev gw(s:Stmt):FD:=⟨"is_flip",s,["products","flip","r","s","side","many"],2,
 (.cons (.asg (.tup (.cons (.name 2) (.cons (.name 3) (.cons (.name 4) .nil)))) (.var 1))
 (.cons (.asg (.name 5) (.blt .len (.cons (.var 0) .nil)))
 (.cons (.ite (.not (.and (.cons (.chain .le .lt (.int 0) (.var 2) (.var 5)) (.cons (.chain .le .lt (.int 0) (.var 3) (.var 5)) (.cons (.chain .le .le (.int 0) (.var 4) (.int 2)) .nil))))) (.cons (.ret (.bl WY))
 .nil) .nil)
 (.cons (.ret (.and (.cons (.cmp .ne (.var 2) (.var 3)) (.cons (.cmp .eq (.ix (.ix (.var 0) (.var 2)) (.var 4)) (.ix (.ix (.var 0) (.var 3)) (.var 4))) .nil))))
 .nil))))⟩
structure vx(ps:List Pr)(r s t:Nat):Prop where
 hr:r<ps.length
 hs:s<ps.length
 ht:t<3
 ne:r≠s
 eq:prt (prn ps r) t=prt (prn ps s) t
def iN{ps:List Pr}(h:r<ps.length):(ps.map prD)[r]?=S (prD (prn ps r)):=by rw[Ly,D1 h,ci (D1 h)];rfl
def yn(hf:T[f]?=S (gw s)){k:Nat}(B:1<=k){j:WZ}{ps:List Pr}(F:ps.length<=100000){s' t:Nat}(h:vx ps r s' t)(h0:M j=S (.lst (ps.map prD)))(q:Q (.bl WX) M):phi T k f [.ref j,k3D ((r:Int),(s':Int),(t:Int))] M Q:=by
 refine ao ∅ hf rfl (ρ:=[S _,S _,Y,Y,Y,Y]) rfl ?_
 unfold gw k3D;let⟨hr,hs,ht,z,heq⟩:=h;nofun;nofun;calc aQ h0 ?_;nofun;rw[s9];rw[if_pos ∅]
 ac_nf;rw[if_pos ∅]
 ac_nf;rw[if_pos ∅]
 ac_nf;rw[if_pos ∅]
 ac_nf;rw[if_pos ∅]
 ac_nf;simp only[show((t:Nat):Int)<=2 by lia,decide_true,P9,Ml,if_false]
 nofun;rw[if_pos (by simp;lia)]
 calc al h0 (am (iN hr)) ?_;calc⟨_,_,rfl,am (bE ht),?_⟩;calc al h0 (am (iN hs)) ?_;calc⟨_,_,rfl,am (bE ht),?_⟩;calc cq ?_;rw[decide_eq_true heq];show q
abbrev gx(s:Stmt)(fa fn:Nat):FD:=⟨"flipped_pair",s,["one","other","side","a","b","c","x","y","z"],3,
 (.cons (.asg (.tup (.cons (.tup (.cons (.name 3) (.cons (.name 4) (.cons (.name 5) .nil)))) (.cons (.tup (.cons (.name 6) (.cons (.name 7) (.cons (.name 8) .nil)))) .nil))) (.tup (.cons (.var 0) (.cons (.var 1) .nil))))
 (.cons (.ite (.cmp .eq (.var 2) (.int 0)) (.cons (.ret (.tup (.cons (.tup (.cons (.var 3) (.cons (.call fa (.cons (.var 4) (.cons (.var 7) .nil))) (.cons (.var 5) .nil)))) (.cons (.tup (.cons (.var 6) (.cons (.var 7) (.cons (.call fa (.cons (.var 8) (.cons (.call fn (.cons (.var 5) .nil)) .nil))) .nil)))) .nil))))
 .nil) .nil)
 (.cons (.ite (.cmp .eq (.var 2) (.int 1)) (.cons (.ret (.tup (.cons (.tup (.cons (.call fa (.cons (.var 3) (.cons (.var 6) .nil))) (.cons (.var 4) (.cons (.var 5) .nil)))) (.cons (.tup (.cons (.var 6) (.cons (.var 7) (.cons (.call fa (.cons (.var 8) (.cons (.call fn (.cons (.var 5) .nil)) .nil))) .nil)))) .nil))))
 .nil) .nil)
 (.cons (.ret (.tup (.cons (.tup (.cons (.call fa (.cons (.var 3) (.cons (.var 6) .nil))) (.cons (.var 4) (.cons (.var 5) .nil)))) (.cons (.tup (.cons (.var 6) (.cons (.call fa (.cons (.var 7) (.cons (.call fn (.cons (.var 4) .nil)) .nil))) (.cons (.var 8) .nil)))) .nil))))
 .nil))))⟩
def yo(hf:T[f]?=S (gx s fa fn))(j:T[fa]?=S (di sa))(B:T[fn]?=S (cL sn)){k:Nat}(Z:2<=k){p q:Pr}(lp:cE 100000 p)(lq:cE 100000 q){t:Nat}(ht:t<3)(h:∀M',Ge M M'->Q (.tup [prD (fpr p q t).1,prD (fpr p q t).2]) M'):phi T k f [prD p,prD q,.int (t:Nat)] M Q:=by
 refine ao ∅ hf rfl (ρ:=[S _,S _,S _,Y,Y,Y,Y,Y,Y]) rfl ?_
 unfold gx prD;let⟨a,b,c⟩:=p;let⟨x,y,z⟩:=q;let⟨F,p2,G⟩:=lp;let⟨F3,L,J⟩:=lq;dsimp only at F p2 G F3 L J⊢;nofun;refine⟨by rw[hH];lia,?_⟩
 match t,ht with
 |0,_=>
  nofun;nofun;refine bQ j ∅ p2 λO g1=>?_
  ac_nf;refine⟨by rw[hH];lia,?_⟩
  refine bP B ∅ G λM2 g2=>?_
  refine bQ j ∅ J λU g3=>?_
  ac_nf;show⟨by rw[hH];lia,by rw[hH];lia,h _ (g1.trans (g2.trans g3))⟩
 |1,_=>
  nofun;rw[if_neg (·)]
  nofun;rw[if_pos (·)]
  nofun;refine bQ j ∅ F λO g1=>?_
  ac_nf;refine⟨by rw[hH];lia,?_⟩
  refine bP B ∅ G λM2 g2=>?_
  refine bQ j ∅ J λU g3=>?_
  ac_nf;show⟨by rw[hH];lia,by rw[hH];lia,h _ (g1.trans (g2.trans g3))⟩
 |2,_=>
  nofun;rw[if_neg (·)]
  nofun;rw[if_neg (·)]
  nofun;refine bQ j ∅ F λO g1=>?_
  ac_nf;refine⟨by rw[hH];lia,?_⟩
  refine bP B ∅ p2 λM2 g2=>?_
  refine bQ j ∅ L λU g3=>?_
  ac_nf;show⟨by rw[hH];lia,by rw[hH];lia,h _ (g1.trans (g2.trans g3))⟩
abbrev i5(s:Stmt)(fi fp:Nat):FD:=⟨"flipped",s,["scheme","flip","left","right","many","products","r","s","side","made"],2,
 (.cons (.asg (.tup (.cons (.name 2) (.cons (.name 3) (.cons (.name 4) (.cons (.name 5) .nil))))) (.var 0))
 (.cons (.ite (.not (.tru (.call fi (.cons (.var 5) (.cons (.var 1) .nil))))) (.cons .bot
 .nil) .nil)
 (.cons (.asg (.tup (.cons (.name 6) (.cons (.name 7) (.cons (.name 8) .nil)))) (.var 1))
 (.cons (.asg (.name 9) (.blt .list (.cons (.var 5) .nil)))
 (.cons (.put2 (.var 9) (.var 6) (.var 9) (.var 7) (.call fp (.cons (.ix (.var 5) (.var 6)) (.cons (.ix (.var 5) (.var 7)) (.cons (.var 8) .nil)))))
 (.cons (.ret (.tup (.cons (.var 2) (.cons (.var 3) (.cons (.var 4) (.cons (.var 9) .nil))))))
 .nil))))))⟩
abbrev cM(T:List FD)(n f:Nat):Prop:=∀{L0 L1 L2:Nat} {x y z:Int} {p0:WZ} {ps:List Pr} {r s t:Nat} {M:Mem} {Q:QD},Tdy L0 L1 L2 ps->vx ps r s t->M p0=S (.lst (ps.map prD))->
 (∀pr M',Ge M M'->M pr=Y->M' pr=S (.lst ((flq ps r s t).map prD))->Q (.tup [.int x,.int y,.int z,.ref pr]) M')->phi T n f [.tup [.int x,.int y,.int z,.ref p0],k3D ((r:Int),(s:Int),(t:Int))] M Q
def vy{fi:Nat}{si sp:Stmt}(hf:T[f]?=S (i5 s fi fp))(hi:T[fi]?=S (gw si))(L:T[fp]?=S (gx sp fa fn))(O:T[fa]?=S (di sa))(U:T[fn]?=S (cL sn))(Z:3<=n):cM T n f:=by
 intro L0 L1 L2 x y z p0 ps r s' t M Q G B h0 q;let F3:=G.n;refine ao ∅ hf rfl (ρ:=[S _,S _,Y,Y,Y,Y,Y,Y,Y,Y]) rfl ?_
 unfold i5;let hr:=B.hr;let hs:=B.hs;nofun;nofun;refine yn hi ∅ ∅ B h0 ⟨WX,rfl,?_⟩
 rw[if_neg (·)]
 unfold k3D;nofun;nofun;calc⟨_,_,rfl,af h0,λpm F=>?_⟩;let g1:=Ge.new (o:=.lst (ps.map prD)) F;let mm:ad M pm (.lst (ps.map prD)) pm=S (.lst (ps.map prD)):=aa;generalize ad M pm (.lst (ps.map prD))=M1 at g1 mm;nofun;calc al (g1 _ _ h0) (am (iN hr)) ?_;calc al (g1 _ _ h0) (am (iN hs)) ?_;let mp:prn ps r∈ps:=by rw[ci (D1 hr)];show OI hr
 let mq:prn ps s'∈ps:=by rw[ci (D1 hs)];show OI hs
 refine yo L O U ∅ (G.lp _ mp) (G.lp _ mq) B.ht λM2 g2=>?_
 calc⟨_,_,rfl,?_⟩;ac_nf;refine b9 (g2 _ _ mm) (j:=r) ?_ ?_
 ·unfold ixN;rw[if_pos ∅,if_pos (by simp;lia)];rfl
 refine b9 aa (j:=s') ?_ ?_
 ·unfold ixN;rw[if_pos ∅,if_pos (by simp;lia)];rfl
 rw[gZ];let J:=F;nofun;refine⟨by rw[hH];lia,q pm _ (λc o ec=>?_) J ?_⟩
 ·rw[aj (λw=>by rw[w,J]at ec;cases ec)];show g2 _ _ (g1 _ _ ec)
 ·rw[aa];unfold flq;rw[RI,RI]
end
section
open L2.Srt
variable{T:List FD}
abbrev gy(s:Stmt)(fa fb:Nat):FD:=⟨"_law_flipped",s,["_law_scheme","_law_flip","_law_r","_law_s","_law_side","_law_one","_law_other","_law_gains","_law_gives","_law_mine","_law_yours","_law_products"],2,
 (.cons (.asg (.tup (.cons (.name 2) (.cons (.name 3) (.cons (.name 4) .nil)))) (.var 1))
 (.cons (.par 5 6 (.blt .list (.cons (.ix (.ix (.var 0) (.int 3)) (.var 2)) .nil)) (.blt .list (.cons (.ix (.ix (.var 0) (.int 3)) (.var 3)) .nil)))
 (.cons (.asg (.tup (.cons (.name 7) (.cons (.name 8) .nil))) (.ix (.lst (.cons (.tup (.cons (.int 1) (.cons (.int 2) .nil))) (.cons (.tup (.cons (.int 0) (.cons (.int 2) .nil))) (.cons (.tup (.cons (.int 0) (.cons (.int 1) .nil))) .nil)))) (.var 4)))
 (.cons (.par 9 10 (.ix (.var 5) (.var 8)) (.ix (.var 6) (.var 7)))
 (.cons (.put (.var 5) (.var 7) (.call fa (.cons (.ix (.var 5) (.var 7)) (.cons (.var 10) .nil))))
 (.cons (.put (.var 6) (.var 8) (.call fa (.cons (.ix (.var 6) (.var 8)) (.cons (.call fb (.cons (.var 9) .nil)) .nil))))
 (.cons (.asg (.name 11) (.blt .list (.cons (.ix (.var 0) (.int 3)) .nil)))
 (.cons (.put2 (.var 11) (.var 2) (.var 11) (.var 3) (.tup (.cons (.blt .tuple (.cons (.var 5) .nil)) (.cons (.blt .tuple (.cons (.var 6) .nil)) .nil))))
 (.cons (.ret (.bin .add (.sl (.var 0) .none (.some (.int 3))) (.tup (.cons (.var 11) .nil))))
 .nil)))))))))⟩
abbrev gn:Nat->Nat|0=>1|_=>0
abbrev gv:Nat->Nat|2=>1|_=>2
def EW{p q:Pr}{t:Nat}(h:t<3):fpr p q t=(pst p (adl (prt p (gn t)) (prt q (gn t))) (gn t),pst q (adl (prt q (gv t)) (ngl (prt p (gv t)))) (gv t)):=by
 match t,h with
 |0,_=>rfl
 |1,_=>rfl
 |2,_=>rfl
def oH{t:Nat}:gn t<3:=by unfold gn;split<;>decide
def oI{t:Nat}:gv t<3:=by unfold gv;split<;>decide
def Ga{t:Nat}(h:t<3):[D.tup [.int 1,.int 2],.tup [.int 0,.int 2],.tup [.int 0,.int 1]][t]?=S (.tup [.int (gn t:Nat),.int (gv t:Nat)]):=by
 match t,h with
 |0,_=>rfl
 |1,_=>rfl
 |2,_=>rfl
def tF{p:Pr}{i:Nat}(h:i<3):ixN (prL p).length ((i:Nat):Int)=S i:=by unfold ixN;rw[if_pos ∅,if_pos (by simp[prL];lia)];rfl
def rV{fb:Nat}(hf:T[f]?=S (gy s fa fb))(ha:gu T (n-1) fa)(hb:jF T (n-1) fb)(hn:1<=n):cM T n f:=by
 intro L0 L1 L2 x y z p0 ps r s' t M Q L F h0 q;let Ji:=L.n;let hr:=F.hr;let hs:=F.hs;let ht:=F.ht;let mp:prn ps r∈ps:=by rw[ci (D1 hr)];show OI hr
 let mq:prn ps s'∈ps:=by rw[ci (D1 hs)];show OI hs
 let Jf:=EW (p:=prn ps r) (q:=prn ps s') ht;let O:flq ps r s' t=(ps.set r (fpr (prn ps r) (prn ps s') t).1).set s' (fpr (prn ps r) (prn ps s') t).2:=rfl;rw[Jf]at O;let lp:=L.lp _ mp;let lq:=L.lp _ mq;let le:=λi=>kQ (L.l _ mp) (L.l _ mq) (i:=i);let ap:=iN hr;let aq:=iN hs;generalize prn ps r=p at *
 generalize prn ps s'=w at *
 refine ao ∅ hf rfl (ρ:=[S _,S _,Y,Y,Y,Y,Y,Y,Y,Y,Y,Y]) rfl ?_
 unfold gy k3D;nofun;nofun;calc⟨_,rfl,al h0 (am ap) ?_⟩;calc⟨_,_,rfl,rfl,λpo G=>?_⟩;let g1:=Ge.new (o:=.lst (prL p)) G;calc⟨_,rfl,al (g1 _ _ h0) (am aq) ?_⟩;calc⟨_,_,rfl,rfl,λpw B=>?_⟩;let g2:=g1.trans (Ge.new (o:=.lst (prL w)) B);let now:po≠pw:=λe=>by rw[<-e]at B;let:ad M po (.lst (prL p)) po=Y:=B;rw[aa]at this;cases this
 let mo:ad (ad M po (.lst (prL p))) pw (.lst (prL w)) po=S (.lst (prL p)):=by rw[aj now,aa]
 let mw:ad (ad M po (.lst (prL p))) pw (.lst (prL w)) pw=S (.lst (prL w)):=aa;let Jg:=G;let Jh:=bh g1 B;change wSs _ _ _ _ (ad (ad M po (.lst (prL p))) pw (.lst (prL w)));generalize ad (ad M po (.lst (prL p))) pw (.lst (prL w))=M1 at g2 mo mw;clear G B g1;nofun;refine⟨by rw[hH];lia,by rw[hH];lia,by rw[hH];lia,by rw[hH];lia,λpg U=>?_⟩
 calc al aa (am (Ga ht)) ⟨_,rfl,?_⟩;let gg:=Ge.new (o:=.lst [D.tup [.int 1,.int 2],.tup [.int 0,.int 2],.tup [.int 0,.int 1]]) U;let g3:=g2.trans gg;let mo:=gg _ _ mo;let mw:=gg _ _ mw;change wSs _ _ _ _ (ad M1 pg (.lst [D.tup [.int 1,.int 2],.tup [.int 0,.int 2],.tup [.int 0,.int 1]]));generalize ad M1 pg (.lst [D.tup [.int 1,.int 2],.tup [.int 0,.int 2],.tup [.int 0,.int 1]])=M2 at g3 mo mw;clear gg U g2;nofun;calc al mo (am (bE oI)) ?_;calc al mw (am (bE oH)) ?_;nofun;calc al mo (am (bE oH)) ?_;calc ha (el lp) (le _) λM3 g4=>?_;calc b9 (g4 _ _ mo) (tF oH) ?_;rw[fL oH];let F3:ad M3 po (.lst (prL (pst p (adl (prt p (gn t)) (prt w (gn t))) (gn t)))) po=S (.lst (prL (pst p (adl (prt p (gn t)) (prt w (gn t))) (gn t)))):=aa;let J:ad M3 po (.lst (prL (pst p (adl (prt p (gn t)) (prt w (gn t))) (gn t)))) pw=S (.lst (prL w)):=by rw[aj (Ne.symm now)];show g4 _ _ mw
 let g5:Ge M (ad M3 po (.lst (prL (pst p (adl (prt p (gn t)) (prt w (gn t))) (gn t))))):=λc o ec=>by rw[aj (λe=>by rw[e,Jg]at ec;cases ec)];show g4 _ _ (g3 _ _ ec)
 generalize ad M3 po (.lst (prL (pst p (adl (prt p (gn t)) (prt w (gn t))) (gn t))))=M4 at F3 J g5;nofun;calc al J (am (bE oI)) ?_;calc hb (el lp) λM5 g6=>?_;refine ha (el lq) (by rw[iM];show(le _).symm) λM6 g7=>?_
 calc b9 (g7 _ _ (g6 _ _ J)) (tF oI) ?_;rw[fL oI];let Z:ad M6 pw (.lst (prL (pst w (adl (prt w (gv t)) (ngl (prt p (gv t)))) (gv t)))) po=S (.lst (prL (pst p (adl (prt p (gn t)) (prt w (gn t))) (gn t)))):=by rw[aj now];show g7 _ _ (g6 _ _ F3)
 let Ja:ad M6 pw (.lst (prL (pst w (adl (prt w (gv t)) (ngl (prt p (gv t)))) (gv t)))) pw=S (.lst (prL (pst w (adl (prt w (gv t)) (ngl (prt p (gv t)))) (gv t)))):=aa;let g8:Ge M (ad M6 pw (.lst (prL (pst w (adl (prt w (gv t)) (ngl (prt p (gv t)))) (gv t))))):=λc o ec=>by rw[aj (λe=>by rw[e,Jh]at ec;cases ec)];show g7 _ _ (g6 _ _ (g5 _ _ ec))
 generalize ad M6 pw (.lst (prL (pst w (adl (prt w (gv t)) (ngl (prt p (gv t)))) (gv t))))=M7 at Z Ja g8;nofun;calc⟨_,rfl,_,_,rfl,af (g8 _ _ h0),λpm Jb=>?_⟩;let gm:=Ge.new (o:=.lst (ps.map prD)) Jb;let g9:=g8.trans gm;let mm:ad M7 pm (.lst (ps.map prD)) pm=S (.lst (ps.map prD)):=aa;let Jc:=gm _ _ Z;let Jd:=gm _ _ Ja;let Je:=bh g8 Jb;generalize ad M7 pm (.lst (ps.map prD))=M8 at g9 mm Jc Jd;nofun;calc⟨_,_,rfl,af Jc,?_⟩;calc⟨_,_,rfl,af Jd,?_⟩;refine⟨by rw[hH];lia,_,_,⟨rfl,rfl⟩,?_⟩
 refine b9 mm (j:=r) ?_ ?_
 ·unfold ixN;rw[if_pos ∅,if_pos (by simp;lia)];rfl
 refine b9 aa (j:=s') ?_ ?_
 ·unfold ixN;rw[if_pos ∅,if_pos (by simp;lia)];rfl
 rw[gZ];nofun;refine(show bR (.tup [.int x,.int y,.int z,.ref p0]) Y (S 3) _ _ from⟨by rw[hH];lia,.inr trivial,by rw[hH];change 3+1<=16777216;decide,?_⟩)
 refine q pm _ (λc o ec=>?_) Je ?_
 ·rw[aj (λe=>by rw[e,Je]at ec;cases ec)];show g9 _ _ ec
 ·rw[aa,O,RI,RI];rfl
noncomputable abbrev Ws:=List Pr×List Pr×List Int
abbrev Stp(sv:Ws)(n:Int)(sv':Ws):Prop:=(flp sv.1=[]/\sv'=sv)∨(flp sv.1≠[]/\∃(r s t:Nat) (h':List Pr),(flp sv.1)[(n%((flp sv.1).length:Int)).toNat]?=S ((r:Int),(s:Int),(t:Int))/\Td ((flq sv.1 r s t).map sgn) h'/\sv'=(h',if h'.length<sv.2.1.length then h' else sv.2.1,sv.2.2++[(h'.length:Int)]))
def Stp.uniq{sv a b:Ws}{n:Int}(h:Stp sv n a)(g:Stp sv n b):a=b:=by
 rcases h with⟨h1,h2⟩|⟨h1,r,s,t,h',e1,e2,j⟩
 ·rcases g with⟨g1,g2⟩|⟨g1,_⟩
  ·rw[h2,g2]
  ·show absurd h1 g1
 ·rcases g with⟨g1,g2⟩|⟨g1,r',s',t',q,f1,f2,z⟩
  ·show absurd g1 h1
  ·rw[e1]at f1;simp only[Sv,Rg]at f1;let B:r=r':=by lia
   let F:s=s':=∅
   let G:t=t':=∅
   subst B F G
   cases e2.uniq f2
   rw[j,z]
inductive Run(s0:Ws):List Int->Ws->Prop
 |nil:Run s0 [] s0
 |snoc {l:List Int} {n:Int} {sv sv':Ws} (h:Run s0 l sv) (s:Stp sv n sv'):Run s0 (l++[n]) sv'
def Run.uniq{s0 a:Ws}(h:Run s0 l a):∀{b:Ws},Run s0 l b->a=b:=by
 induction h with
 |nil=>
  intro b g;generalize hz:([]:List Int)=z at g
  cases g with
  |nil=>rfl
  |snoc _ _=>simp at hz
 |@snoc l n sv sv' h s ih=>
  intro b g;generalize hz:l++[n]=z at g
  cases g with
  |nil=>simp at hz
  |@snoc l' n' u u' h' s'=>
   let⟨e1,e2⟩:=List.append_inj' hz rfl;simp at e2;subst e1 e2
   cases ih h'
   show s.uniq s'
def Run.stop{s0 sv:Ws}(hf:flp sv.1=[]):∀{r l:List Int},Run s0 l sv->Run s0 (l++r) sv
 |[],l,h=>by rw[MN];show h
 |n::r,l,h=>by let:=Run.stop hf (r:=r) (Run.snoc h (.inl ⟨hf,rfl⟩):Run s0 (l++[n]) sv);simpa using this
def Gb{ps:List Pr}{i:Nat}{x:K3}(h:(flp ps)[i]?=S x):∃r s t:Nat,x=((r:Int),(s:Int),(t:Int))/\vx ps r s t:=by let⟨r,s,t,h1,h2,j,q,z,B⟩:=flp_mem.mp (LJ h);show⟨r,s,t,q,h1,h2,j,z,B⟩
end
section
open L2.Srt
variable{T:List FD}
abbrev iP(s:Stmt):FD:=⟨"times_in",s,["scheme"],1,
 (.cons (.ret (.blt .len (.cons (.ix (.var 0) (.int 3)) .nil)))
 .nil)⟩
def eV(hf:T[f]?=S (iP s)){k:Nat}(B:1<=k){x z:D}{j:WZ}(h0:M j=S (.lst ds))(q:Q (.int ds.length) M):phi T k f [.tup [x,y,z,.ref j]] M Q:=by
 refine ao ∅ hf rfl (ρ:=[S _]) rfl ?_
 unfold iP;nofun;show⟨_,rfl,aQ h0 q⟩
abbrev kS(T:List FD)(n f:Nat):Prop:=∀{L0 L1 L2:Nat} {x y z:Int} {p0:WZ} {ps:List Pr} {M:Mem} {Q:QD},Tdy L0 L1 L2 ps->M p0=S (.lst (ps.map prD))->(∀qs pr M',Td (ps.map sgn) qs->Ge M M'->M pr=Y->M' pr=S (.lst (qs.map prD))->Q (.tup [.int x,.int y,.int z,.ref pr]) M')->phi T n f [.tup [.int x,.int y,.int z,.ref p0]] M Q
abbrev iQ(T:List FD)(n f:Nat):Prop:=∀{L0 L1 L2:Nat} {x y z:Int} {p0:WZ} {ps:List Pr} {M:Mem} {Q:QD},Tdy L0 L1 L2 ps->ps.length<=1000->M p0=S (.lst (ps.map prD))->(∀pr M',Ge M M'->M pr=Y->M' pr=S (.lst ((flp ps).map k3D))->Q (.ref pr) M')->phi T n f [.tup [.int x,.int y,.int z,.ref p0]] M Q
structure Wm(M0:Mem)(L0 L1 L2:Nat)(sv:Ws)(ph pb pc:WZ)(M:Mem):Prop where
 g:Ge M0 M
 t:Tdy L0 L1 L2 sv.1
 tb:Tdy L0 L1 L2 sv.2.1
 l:sv.1.length<=1000
 h:M ph=S (.lst (sv.1.map prD))
 b:M pb=S (.lst (sv.2.1.map prD))
 c:M pc=S (.lst (sv.2.2.map .int))
 fh:M0 ph=Y
 fb:M0 pb=Y
 fc:M0 pc=Y
 ch:pc≠ph
 cb:pc≠pb
def Wm.ge{j:Mem}{sv:Ws}{ph pb pc:WZ}(w:Wm j L0 L1 L2 sv ph pb pc M)(g:Ge M M'):Wm j L0 L1 L2 sv ph pb pc M':=⟨w.g.trans g,w.t,w.tb,w.l,g _ _ w.h,g _ _ w.b,g _ _ w.c,w.fh,w.fb,w.fc,w.ch,w.cb⟩
def yp{ps:List Pr}(h:flp ps≠[])(n:Int):∃r s t:Nat,(flp ps)[(n%((flp ps).length:Int)).toNat]?=S ((r:Int),(s:Int),(t:Int))/\vx ps r s t/\0<((flp ps).length:Int)/\atI ((flp ps).map k3D) (n%((flp ps).length:Int))=S (k3D ((r:Int),(s:Int),(t:Int))):=by
 let q:0<((flp ps).length:Int):=by let:=Mz.mpr h;lia
 let h0:=Qu n (show((flp ps).length:Int)≠0 by lia)
 let h1:=Pw n q;let j:(n%((flp ps).length:Int)).toNat<(flp ps).length:=∅
 let⟨r,s,t,e1,e2⟩:=Gb (D1 j);refine⟨r,s,t,by rw[D1 j,e1],e2,q,?_⟩
 let:=am (xs:=(flp ps).map k3D) (k:=(n%((flp ps).length:Int)).toNat) (x:=k3D ((r:Int),(s:Int),(t:Int))) (by rw[Ly,D1 j,e1];rfl)
 rw[Pf h0]at this;show this
abbrev jK(s:Stmt)(fd fm fl ff:Nat):FD:=⟨"walked",s,["scheme","numbers","at","counts","best","number","found"],2,
 (.cons (.asg (.name 2) (.call fd (.cons (.var 0) .nil)))
 (.cons (.par 3 4 (.lst (.cons (.call fm (.cons (.var 2) .nil)) .nil)) (.var 2))
 (.cons (.for (.name 5) (.seq (.var 1)) (.cons (.asg (.name 6) (.call fl (.cons (.var 2) .nil)))
 (.cons (.ite (.not (.tru (.var 6))) (.cons .brk
 .nil) .nil)
 (.cons (.asg (.name 2) (.call fd (.cons (.call ff (.cons (.var 2) (.cons (.ix (.var 6) (.bin .mod (.var 5) (.blt .len (.cons (.var 6) .nil)))) .nil))) .nil)))
 (.cons (.drop (.meth .append (.var 3) (.call fm (.cons (.var 2) .nil))))
 (.cons (.ite (.cmp .lt (.call fm (.cons (.var 2) .nil)) (.call fm (.cons (.var 4) .nil))) (.cons (.asg (.name 4) (.var 2))
 .nil) .nil)
 .nil))))))
 (.cons (.ret (.tup (.cons (.var 3) (.cons (.var 4) .nil))))
 .nil))))⟩
def yq{ff:Nat}{sm:Stmt}(hf:T[f]?=S (jK s fd fm fl ff))(hm:T[fm]?=S (iP sm))(hd:kS T (n-1) fd)(hl:iQ T (n-1) fl)(Jg:cM T (n-1) ff)(hn:2<=n){x y:Int}{pn:WZ}{ps:List Pr}(hT:Tdy L0 L1 L2 ps)(Ji:ps.length<=1000)(Jj:ns.length<=1000)(h0:M p0=S (.lst (ps.map prD)))(h1:M pn=S (.lst (ns.map .int)))(q:∀qs sv pb pc M',Td (ps.map sgn) qs->Run (qs,qs,[(qs.length:Int)]) ns sv->Ge M M'->M pb=Y->M pc=Y->pc≠pb->M' pb=S (.lst (sv.2.1.map prD))->M' pc=S (.lst (sv.2.2.map .int))->Tdy L0 L1 L2 sv.2.1->Q (.tup [.ref pc,.tup [.int x,.int y,.int z,.ref pb]]) M'):phi T n f [.tup [.int x,.int y,.int z,.ref p0],.ref pn] M Q:=by
 refine ao ∅ hf rfl (ρ:=[S _,S _,Y,Y,Y,Y,Y]) rfl ?_
 unfold jK;nofun;calc hd hT h0 λqs ph M1 O g1 U mh=>?_;let Jh:qs.length<=1000:=by let:=O.len;rw[s9]at this;lia
 let Je:=hT.sg.td O;nofun;refine eV hm ∅ mh ?_
 rw[s9];refine⟨by rw[hH];lia,λpc B=>?_⟩
 let gc:=Ge.new (o:=.lst [.int (qs.length:Nat)]) B;let w0:Wm M L0 L1 L2 (qs,qs,[(qs.length:Int)]) ph ph pc (ad M1 pc (.lst [.int (qs.length:Nat)])):=⟨g1.trans gc,Je,Je,Jh,gc _ _ mh,gc _ _ mh,aa,U,U,bh g1 B,(λe=>by rw[e,mh]at B;cases B),(λe=>by rw[e,mh]at B;cases B)⟩
 generalize ad M1 pc (.lst [.int (qs.length:Nat)])=M2 at w0;clear gc B g1 mh U;let fin:∀(sv:Ws) (ph pb:WZ) (F3 Z:Option D) (M3:Mem),Run (qs,qs,[(qs.length:Int)]) ns sv->Wm M L0 L1 L2 sv ph pb pc M3->wSs (phi T (n-1)) (MSs.cons (MS.ret (ME.tup (MEs.cons (ME.var 3) (MEs.cons (ME.var 4) MEs.nil)))) MSs.nil) {nx:=λ_ M'=>Q D.non M',rt:=Q}
  [S (.tup [.int x,.int y,.int z,.ref p0]),S (.ref pn),S (.tup [.int x,.int y,.int z,.ref ph]),S (.ref pc),S (.tup [.int x,.int y,.int z,.ref pb]),F3,Z] M3:=by
  intro sv ph pb F3 Z M3 hr w;nofun;show⟨by rw[hH];lia,q qs sv pb pc M3 O hr w.g w.fb w.fc w.cb w.b w.c w.tb⟩
 nofun;calc⟨_,af (w0.g _ _ h1),?_⟩;refine aI (f:=D.int) (ys:=ns) (I:=λl ρ M'=>∃(F3 Z:Option D) (sv:Ws) (ph pb:WZ),ρ=[S (.tup [.int x,.int y,.int z,.ref p0]),S (.ref pn),S (.tup [.int x,.int y,.int z,.ref ph]),S (.ref pc),S (.tup [.int x,.int y,.int z,.ref pb]),F3,Z]/\Run (qs,qs,[(qs.length:Int)]) l sv/\sv.2.2.length<=l.length+1/\Wm M L0 L1 L2 sv ph pb pc M') rfl
  ⟨Y,Y,_,ph,ph,rfl,.nil,by simp,w0⟩ ?_ ?_ ?_
 ·rintro l ρ M' ⟨_,_,sv,_,_,rfl,_,_,w⟩;show af (w.g _ _ h1)
 ·rintro l i r ρ M3 e ⟨F3,Z,sv,ph,pb,rfl,hr,Jk,w⟩;let Jl:=ar e;calc⟨_,rfl,λF hF=>?_⟩;nofun;calc hl w.t w.l w.h λpf M4 g4 _ mf=>?_;let w:=w.ge g4;nofun
  by_cases hz:flp sv.1=[]
  ·rw[hz]at mf;refine⟨WY,by simp[jn,mf],?_⟩
   simp only[U8,if_true];nofun;calc fin sv ph pb _ _ M4 ?_ w;rw[e];show Run.stop hz hr
  ·refine⟨WX,by simp[jn,mf,hz],?_⟩
   simp only[P9,Ml,if_false];let⟨r',s',t',e1,e2,hp,e3⟩:=yp hz i;nofun;calc aQ mf ?_;rw[s9];calc⟨hp,?_⟩;calc al mf e3 ?_;calc Jg w.t e2 w.h λpx M5 g5 Jm mx=>?_;let tq:=tD w.t e2.hr e2.hs (t:=t');calc hd tq mx λj pr M6 J g6 Jf mr=>?_;let w5:=w.ge (g5.trans g6);let Jn:=g5.trans g6;let Ja:M pr=Y:=bh (w.g.trans g5) Jf;let ncr:pc≠pr:=λz=>by let:=(w.ge g5).c;rw[z,Jf]at this;cases this
   let hlen:j.length<=1000:=by let:=J.len;rw[s9,tE]at this;let:=w.l;lia
   let Jb:=tq.sg.td J;nofun;refine⟨⟨_,w5.c⟩,eV hm ∅ mr ?_⟩
   rw[s9];refine⟨pc,_,_,rfl,rfl,w5.c,by rw[s9,hH];lia,?_⟩
   let G:ad M6 pc (.lst (sv.2.2.map .int++[.int (j.length:Nat)])) pr=S (.lst (j.map prD)):=by rw[aj (Ne.symm ncr)];show mr
   let Jc:ad M6 pc (.lst (sv.2.2.map .int++[.int (j.length:Nat)])) pb=S (.lst (sv.2.1.map prD)):=by rw[aj (Ne.symm w5.cb)];show w5.b
   let Jd:ad M6 pc (.lst (sv.2.2.map .int++[.int (j.length:Nat)])) pc=S (.lst ((sv.2.2++[(j.length:Int)]).map .int)):=by rw[aa];simp
   let gg:Ge M (ad M6 pc (.lst (sv.2.2.map .int++[.int (j.length:Nat)]))):=λc o ec=>by rw[aj (λz=>by rw[z,w.fc]at ec;cases ec)];show w5.g _ _ ec
   generalize ad M6 pc (.lst (sv.2.2.map .int++[.int (j.length:Nat)]))=M7 at G Jc Jd gg;nofun;refine eV hm ∅ G ?_
   refine eV hm ∅ Jc ?_
   ac_nf;rw[s9,s9]
   by_cases L:j.length<sv.2.1.length
   ·rw[if_pos ∅]
    nofun;refine hF _ _ ⟨_,_,(j,j,sv.2.2++[(j.length:Int)]),pr,pr,rfl,.snoc hr (.inr ⟨hz,r',s',t',j,e1,J,by rw[if_pos L]⟩),by simp;lia,⟨gg,Jb,Jb,hlen,G,G,Jd,Ja,Ja,w.fc,ncr,ncr⟩⟩
   ·rw[if_neg ∅]
    ac_nf;refine hF _ _ ⟨_,_,(j,sv.2.1,sv.2.2++[(j.length:Int)]),pr,pb,rfl,.snoc hr (.inr ⟨hz,r',s',t',j,e1,J,by rw[if_neg L]⟩),by simp;lia,⟨gg,Jb,w.tb,hlen,G,Jc,Jd,Ja,w.fb,w.fc,ncr,w.cb⟩⟩
 ·rintro ρ M3 ⟨F3,Z,sv,ph,pb,rfl,hr,_,w⟩;show fin sv ph pb F3 Z M3 hr w
end
section
open L2.Srt
variable{T:List FD}
abbrev m8(s:Stmt)(fd fl ff:Nat):FD:=⟨"_law_due",s,["_law_scheme","_law_numbers_here","_law_here","_law_best","_law_counts","_law_number","_law_some"],2,
 (.cons (.asg (.name 2) (.call fd (.cons (.var 0) .nil)))
 (.cons (.asg (.name 3) (.var 2))
 (.cons (.asg (.name 4) (.lst (.cons (.blt .len (.cons (.ix (.var 2) (.int 3)) .nil)) .nil)))
 (.cons (.for (.name 5) (.seq (.var 1)) (.cons (.asg (.name 6) (.call fl (.cons (.var 2) .nil)))
 (.cons (.ite (.cmp .ne (.var 6) (.lst .nil)) (.cons (.asg (.name 2) (.call fd (.cons (.call ff (.cons (.var 2) (.cons (.ix (.var 6) (.bin .mod (.var 5) (.blt .len (.cons (.var 6) .nil)))) .nil))) .nil)))
 (.cons (.drop (.meth .append (.var 4) (.blt .len (.cons (.ix (.var 2) (.int 3)) .nil))))
 (.cons (.ite (.cmp .lt (.blt .len (.cons (.ix (.var 2) (.int 3)) .nil)) (.blt .len (.cons (.ix (.var 3) (.int 3)) .nil))) (.cons (.asg (.name 3) (.var 2))
 .nil) .nil)
 .nil))) .nil)
 .nil)))
 (.cons (.ret (.tup (.cons (.var 4) (.cons (.var 3) .nil))))
 .nil)))))⟩
def yr{k:Nat}{M:Mem}:∀l:List K3,aD (rb (k+1) M) (l.map k3D)=S (l.map λt=>V7 [.int t.1,.int t.2.1,.int t.2.2])
 |[]=>rfl
 |t::l=>by
  let e:rb (k+1) M (k3D t)=S (.tuple [.int t.1,.int t.2.1,.int t.2.2]):=by simp[k3D,rb,aD]
  rw[LL,aD,e,yr l];rfl
def AG{ff:Nat}(hf:T[f]?=S (m8 s fd fl ff))(hd:kS T (n-1) fd)(hl:iQ T (n-1) fl)(Jf:cM T (n-1) ff)(hn:2<=n){x y:Int}{pn:WZ}{ps:List Pr}(hT:Tdy L0 L1 L2 ps)(Ji:ps.length<=1000)(Jj:ns.length<=1000)(h0:M p0=S (.lst (ps.map prD)))(h1:M pn=S (.lst (ns.map .int)))(q:∀qs sv pb pc M',Td (ps.map sgn) qs->Run (qs,qs,[(qs.length:Int)]) ns sv->sv.2.2.length<=ns.length+1->Ge M M'->M pb=Y->M pc=Y->pc≠pb->M' pb=S (.lst (sv.2.1.map prD))->M' pc=S (.lst (sv.2.2.map .int))->Tdy L0 L1 L2 sv.2.1->Q (.tup [.ref pc,.tup [.int x,.int y,.int z,.ref pb]]) M'):phi T n f [.tup [.int x,.int y,.int z,.ref p0],.ref pn] M Q:=by
 refine ao ∅ hf rfl (ρ:=[S _,S _,Y,Y,Y,Y,Y]) rfl ?_
 unfold m8;nofun;calc hd hT h0 λqs ph M1 O g1 U mh=>?_;let Jg:qs.length<=1000:=by let:=O.len;rw[s9]at this;lia
 let Jc:=hT.sg.td O;nofun;nofun;calc⟨_,rfl,aQ mh ?_⟩;rw[s9];refine⟨by rw[hH];lia,λpc B=>?_⟩
 let gc:=Ge.new (o:=.lst [.int (qs.length:Nat)]) B;let w0:Wm M L0 L1 L2 (qs,qs,[(qs.length:Int)]) ph ph pc (ad M1 pc (.lst [.int (qs.length:Nat)])):=⟨g1.trans gc,Jc,Jc,Jg,gc _ _ mh,gc _ _ mh,aa,U,U,bh g1 B,(λe=>by rw[e,mh]at B;cases B),(λe=>by rw[e,mh]at B;cases B)⟩
 generalize ad M1 pc (.lst [.int (qs.length:Nat)])=M2 at w0;clear gc B g1 mh U;nofun;calc⟨_,af (w0.g _ _ h1),?_⟩;refine aI (f:=D.int) (ys:=ns) (I:=λl ρ M'=>∃(o5 o6:Option D) (sv:Ws) (ph pb:WZ),ρ=[S (.tup [.int x,.int y,.int z,.ref p0]),S (.ref pn),S (.tup [.int x,.int y,.int z,.ref ph]),S (.tup [.int x,.int y,.int z,.ref pb]),S (.ref pc),o5,o6]/\Run (qs,qs,[(qs.length:Int)]) l sv/\sv.2.2.length<=l.length+1/\Wm M L0 L1 L2 sv ph pb pc M') rfl
  ⟨Y,Y,_,ph,ph,rfl,.nil,by simp,w0⟩ ?_ ?_ ?_
 ·rintro l ρ M' ⟨_,_,sv,_,_,rfl,_,_,w⟩;show af (w.g _ _ h1)
 ·rintro l i r ρ M3 e ⟨o5,o6,sv,ph,pb,rfl,hr,Jd,w⟩;let Jk:=ar e;calc⟨_,rfl,λF hF=>?_⟩;nofun;calc hl w.t w.l w.h λpf M4 g4 _ mf=>?_;let w:=w.ge g4;nofun;refine⟨by rw[hH];lia,λpz Jh=>?_⟩
  let gz:=Ge.new (o:=.lst []) Jh;let w:=w.ge gz;let mf:=gz _ _ mf;refine⟨_,_,by rw[cc mf,yr];rfl,by rw[cc aa];rfl,?_⟩
  generalize ad M4 pz (.lst [])=M4 at w mf;refine⟨_,rfl,?_⟩
  by_cases hz:flp sv.1=[]
  ·rw[hz,if_neg (by simp[Md,MA])]
   ac_nf;show hF _ _ ⟨_,_,sv,ph,pb,rfl,.snoc hr (.inl ⟨hz,rfl⟩),by simp;lia,w⟩
  ·rw[if_pos (by
    cases h:flp sv.1 with
    |nil=>show absurd h hz
    |cons a b=>simp[Md,MA])]
   let⟨r',s',t',e1,e2,hp,e3⟩:=yp hz i;nofun;calc aQ mf ?_;rw[s9];calc⟨hp,?_⟩;calc al mf e3 ?_;calc Jf w.t e2 w.h λpx M5 g5 Jl mx=>?_;let tq:=tD w.t e2.hr e2.hs (t:=t');calc hd tq mx λj pr M6 J g6 Je mr=>?_;let w5:=w.ge (g5.trans g6);let F3:M pr=Y:=bh (w.g.trans g5) Je;let ncr:pc≠pr:=λz=>by let:=(w.ge g5).c;rw[z,Je]at this;cases this
   let hlen:j.length<=1000:=by let:=J.len;rw[s9,tE]at this;let:=w.l;lia
   let Z:=tq.sg.td J;nofun;calc⟨⟨_,w5.c⟩,_,rfl,aQ mr ?_⟩;rw[s9];refine⟨pc,_,_,rfl,rfl,w5.c,by rw[s9,hH];lia,?_⟩
   let G:ad M6 pc (.lst (sv.2.2.map .int++[.int (j.length:Nat)])) pr=S (.lst (j.map prD)):=by rw[aj (Ne.symm ncr)];show mr
   let Ja:ad M6 pc (.lst (sv.2.2.map .int++[.int (j.length:Nat)])) pb=S (.lst (sv.2.1.map prD)):=by rw[aj (Ne.symm w5.cb)];show w5.b
   let Jb:ad M6 pc (.lst (sv.2.2.map .int++[.int (j.length:Nat)])) pc=S (.lst ((sv.2.2++[(j.length:Int)]).map .int)):=by rw[aa];simp
   let gg:Ge M (ad M6 pc (.lst (sv.2.2.map .int++[.int (j.length:Nat)]))):=λc o ec=>by rw[aj (λz=>by rw[z,w.fc]at ec;cases ec)];show w5.g _ _ ec
   generalize ad M6 pc (.lst (sv.2.2.map .int++[.int (j.length:Nat)]))=M7 at G Ja Jb gg;nofun;calc⟨_,rfl,aQ G ?_⟩;calc⟨_,rfl,aQ Ja ?_⟩;ac_nf;rw[s9,s9]
   by_cases L:j.length<sv.2.1.length
   ·rw[if_pos ∅]
    nofun;refine hF _ _ ⟨_,_,(j,j,sv.2.2++[(j.length:Int)]),pr,pr,rfl,.snoc hr (.inr ⟨hz,r',s',t',j,e1,J,by rw[if_pos L]⟩),by simp;lia,⟨gg,Z,Z,hlen,G,G,Jb,F3,F3,w.fc,ncr,ncr⟩⟩
   ·rw[if_neg ∅]
    refine hF _ _ ⟨_,_,(j,sv.2.1,sv.2.2++[(j.length:Int)]),pr,pb,rfl,.snoc hr (.inr ⟨hz,r',s',t',j,e1,J,by rw[if_neg L]⟩),by simp;lia,⟨gg,Z,w.tb,hlen,G,Ja,Jb,F3,w.fb,w.fc,ncr,w.cb⟩⟩
 ·rintro ρ M3 ⟨o5,o6,sv,ph,pb,rfl,hr,Jd,w⟩;nofun;show⟨by rw[hH];lia,q qs sv pb pc M3 O hr Jd w.g w.fb w.fc w.cb w.b w.c w.tb⟩
abbrev i6(s:Stmt)(ft:Nat):FD:=⟨"_law_numbers",s,["_law_box_here","_law_found","_law_turn"],1,
 (.cons (.asg (.name 1) (.lst .nil))
 (.cons (.for (.name 2) (.rng1 (.ix (.lst (.cons (.call ft (.cons (.var 0) (.cons (.int 13) .nil))) (.cons (.int 60) .nil))) (.blt .int (.cons (.cmp .eq (.call ft (.cons (.var 0) (.cons (.int 8) .nil))) (.int 0)) .nil)))) (.cons (.drop (.meth .append (.var 1) (.ix (.lst (.cons (.call ft (.cons (.var 0) (.cons (.int 30) .nil))) (.cons (.call ft (.cons (.var 0) (.cons (.bin .pow (.int 10) (.int 18)) .nil))) (.cons (.bin .sub (.neg (.int 1)) (.call ft (.cons (.var 0) (.cons (.bin .pow (.int 10) (.int 6)) .nil)))) .nil)))) (.call ft (.cons (.var 0) (.cons (.int 3) .nil))))))
 .nil))
 (.cons (.ret (.var 1))
 .nil)))⟩
def vz(hf:T[f]?=S (i6 s ft))(z:cB T (n-1) ft)(hn:1<=n)(hb:Box b M)(q:∀(ns:List Int) p M',ns.length<=60->Bx b M M'->M p=Y->p≠b->M' p=S (.lst (ns.map .int))->Q (.ref p) M'):phi T n f [.ref b] M Q:=by
 calc ao hn hf rfl (ρ:=[S _,Y,Y]) rfl ?_;unfold i6;nofun;refine⟨by rw[hH];lia,λpn G=>?_⟩
 let B:=bH hb G;let x0:=(Bx.refl hb).ge (Ge.new (o:=.lst []) G);let m0:ad M pn (.lst []) pn=S (.lst (([]:List Int).map .int)):=aa;generalize ad M pn (.lst [])=M0 at x0 m0;nofun;refine z x0.box (·) (·) λc M1 c0 c1 x1=>?_
 refine⟨by rw[hH];lia,λpl J=>?_⟩
 let y1:=x0.trans x1;let Z:=bH y1.box J;let y2:=y1.ge (Ge.new (o:=.lst [.int c,.int 60]) J);let m2:=Ge.new (o:=.lst [.int c,.int 60]) J _ _ (x1.keep _ _ B m0);refine z y2.box (·) (·) λd M2 d0 d1 x2=>?_
 rw[Bh,xV];let y3:=y2.trans x2;let m3:=x2.keep _ _ B m2;let ml:M2 pl=S (.lst [.int c,.int 60]):=x2.keep _ _ Z aa;obtain⟨v,hv,Jc,Jd⟩:∃v:Int,atI [D.int c,.int 60] (if(d==0)=WX then 1 else 0)=S (.int v)/\0<=v/\v<=60:=by
  by_cases h:d=0
  ·rw[if_pos (by simpa using h)];show⟨60,rfl,by decide,by decide⟩
  ·rw[if_neg (by simpa using h)];show⟨c,rfl,c0,∅⟩
 refine al ml hv ⟨v,rfl,∅,∅,?_⟩
 refine qK (I:=λl ρ M'=>∃(ns:List Int) (o2:Option D),ρ=[S (.ref b),S (.ref pn),o2]/\ns.length=l.length/\Bx b M M'/\M' pn=S (.lst (ns.map .int)))
  ⟨[],Y,rfl,rfl,y3,m3⟩ (λ_ _ _ _=>trivial) ?_ ?_
 ·rintro l u r ρ N0 e ⟨ns,o2,rfl,hl,U,nn⟩;let Ja:=ar e;rw[bD]at Ja;calc⟨_,rfl,λF hF=>?_⟩;nofun;calc⟨⟨_,nn⟩,?_⟩;refine z U.box (·) (·) λa1 N1 _ _ z1=>?_
  refine⟨by decide,by decide,by decide,?_⟩
  refine z z1.box (·) (·) λa2 N2 _ _ z2=>?_
  refine⟨by decide,by decide,by decide,?_⟩
  refine z z2.box (·) (·) λF3 N3 _ _ z3=>?_
  ac_nf;refine⟨by rw[hH];lia,λpk L=>?_⟩
  let O:=(z1.trans z2).trans z3;let Jb:=bH O.box L;let z4:=O.ge (Ge.new (o:=.lst [.int a1,.int a2,.int (-1-F3)]) L);refine z z4.box (·) (·) λj N4 j0 j1 z5=>?_
  let mk:N4 pk=S (.lst [.int a1,.int a2,.int (-1-F3)]):=z5.keep _ _ Jb aa;obtain⟨w,hw⟩:∃w:Int,atI [D.int a1,.int a2,.int (-1-F3)] j=S (.int w):=by
   let:j=0∨j=1∨j=2:=∅
   rcases this with rfl|rfl|rfl
   ·show⟨a1,rfl⟩
   ·show⟨a2,rfl⟩
   ·show⟨-1-F3,rfl⟩
  calc al mk hw ?_;let z6:=z4.trans z5;refine⟨pn,_,_,rfl,rfl,z6.keep _ _ B nn,by rw[s9,hH];lia,?_⟩
  refine hF _ _ ⟨ns++[w],_,rfl,by simp[hl],(U.trans z6).upd G B,?_⟩
  rw[aa];simp
 ·rintro ρ N0 ⟨ns,o2,rfl,hl,U,nn⟩;rw[bD]at hl;nofun;show q ns pn N0 ∅ U G B nn
end
section
variable{T:List FD}
abbrev fM(y:Str)(s:Stmt)(f:Nat):FD:=⟨"_law_same",s,["_law_found",y],2,
 (.cons (.ite (.tru (.isin2 (.var 1) "list" "tuple")) (.cons (.ite (.or (.cons (.cmp .ne (.isin (.var 1) "list") (.isin (.var 0) "list")) (.cons (.cmp .ne (.isin (.var 1) "tuple") (.isin (.var 0) "tuple")) .nil))) (.cons (.ret (.bl WY))
 .nil) .nil)
 (.cons (.ret (.and (.cons (.cmp .eq (.blt .len (.cons (.var 0) .nil)) (.blt .len (.cons (.var 1) .nil))) (.cons (.blt .all (.cons (.comp [Y,(S 0),(S 1)] ["_law_k","_law_found",y] (.last (.rng1 (.blt .len (.cons (.var 1) .nil))) (.name 0) .nil (.call f (.cons (.ix (.var 1) (.var 0)) (.cons (.ix (.var 2) (.var 0)) .nil))))) .nil)) .nil))))
 .nil)) .nil)
 (.cons (.ret (.and (.cons (.isin (.var 0) "int") (.cons (.not (.isin (.var 0) "bool")) (.cons (.cmp .eq (.var 0) (.var 1)) .nil)))))
 .nil))⟩
set_option tactic.hygienic true
def Bk{x d:D}(h:aC M x=S ds)(e:atI ds i=S d)(q:Q d M):wIx x (.int i) M Q:=by
 cases x with
 |ref a=>
  simp only[aC]at h
  split at h
  ·next e0=>cases h;show al e0 e q
  ·cases h
 |tup es=>cases h;show⟨i,d,rfl,e,q⟩
 |con es=>cases h;show⟨i,d,rfl,e,q⟩
 |_=>cases h
set_option tactic.hygienic false
abbrev Sm(M:Mem):Nat->D->D->Prop
 |_,.int i,.int j=>i=j
 |n+1,.tup ds,.tup es=>ds.length<=100000/\ds.length=es.length/\∀(k:Nat) d e,ds[k]?=S d->es[k]?=S e->Sm M n d e
 |n+1,.ref a,.ref b=>∃ds es,M a=S (.lst ds)/\M b=S (.lst es)/\ds.length<=100000/\ds.length=es.length/\∀(k:Nat) d e,ds[k]?=S d->es[k]?=S e->Sm M n d e
 |_,_,_=>False
def Sm.ge(g:Ge M M'):∀{n:Nat} {x y:D},Sm M n x y->Sm M' n x y:=by
 intro n
 induction n with
 |zero=>intro x y h;cases x<;>cases y<;>first|show h.elim|show h
 |succ n ih=>
  intro x y h
  cases x<;>cases y<;>first
   |show h.elim
   |(let⟨ds,es,e1,e2,z,l,q⟩:=h;show⟨ds,es,g _ _ e1,g _ _ e2,z,l,λk d e h1 h2=>ih (q k d e h1 h2)⟩)
   |(let⟨z,l,q⟩:=h;show⟨z,l,λk d e h1 h2=>ih (q k d e h1 h2)⟩)
   |show h
def Sm.int:Sm M n (.int i) (.int i):=by unfold Sm;cases n<;>rfl
section
variable{f:Nat}{y:Str}{s:Stmt}
def r8(hf:T[f]?=S (fM y s f))(j:1<=n){x:Int}(q:Q (.bl WX) M):phi T n f [.int x,.int x] M Q:=by
 refine ao ∅ hf rfl (ρ:=[S _,S _]) rfl ?_
 unfold fM;nofun;calc⟨"int",rfl,WY,rfl,?_⟩;rw[if_neg (·)]
 nofun;calc⟨"int",rfl,?_⟩;rw[if_pos (·)]
 calc⟨"int",rfl,?_⟩;rw[if_pos (·),beq_self_eq_true]
 show q
def nD(ih:∀{x y:D} {M:Mem} {Q:QD},Sm M n x y->(∀M',Ge M M'->Q (.bl WX) M')->phi T m f [x,y] M Q){u:D}{es:List D}(F:aC M u=S ds)(G:aC M v=S es)(z:ds.length<=100000)(l:ds.length=es.length)(h:∀(k:Nat) d e,ds[k]?=S d->es[k]?=S e->Sm M n d e)(q:∀ρ M',Ge M M'->N ρ M' (es.map λ_=>.bl WX)):
 aU (b6 0) (bv (wAr (phi T m f) (au (wOp wIx (aP 1) (aP 0)) (au (wOp wIx (aP 2) (aP 0)) aY)))) (λ_=>True) N (aW 0 (es.length:Int).toNat) [Y,S u,S v] M []:=by
 refine aA (f:=λi=>D.int (i:Nat)) (I:=λl ρ M' acc=>(∃o0,ρ=[o0,S u,S v])/\Ge M M'/\acc=l.map λ_=>.bl WX) aR ⟨⟨_,rfl⟩,Ge.refl,rfl⟩ (λ_ _ _ _ _=>trivial) ?_ ?_
 ·rintro l' i r ρ M1 acc e ⟨⟨o0,rfl⟩,g,rfl⟩;calc⟨_,rfl,fun N' j=>?_⟩;let B:=ar e;rw[Mg]at B;let hi:i<es.length:=by
   let:i∈LO (es.length:Int).toNat:=by rw[e];simp
   let:=NO.mp this;lia
  ac_nf;let h1:ds[i]?=S ds[i]:=D1 ∅
  let h2:es[i]?=S es[i]:=D1 hi;calc Bk (tj F g) (am h1) (Bk (tj G g) (am h2) (ih ((h i _ _ h1 h2).ge g) λM2 g2=>?_));refine⟨by rw[s9,hH];lia,j _ _ _ ⟨⟨_,rfl⟩,g.trans g2,by simp⟩⟩
 ·rintro ρ M1 acc ⟨⟨o0,rfl⟩,g,rfl⟩;let e:(LO (es.length:Int).toNat).map (fun _=>D.bl WX)=es.map fun _=>.bl WX:=by
   rw[W1,W1];simp
  rw[e];show q _ M1 g
def r9:∀es:List D,aD jq (es.map λ_=>.bl WX)=S (es.map λ_=>WX)
 |[]=>rfl
 |e::es=>by rw[LL,LL];simp only[aD,jq,r9 es];rfl
def rf{es:List D}{p:WZ}(q:Q (.bl WX) (ad M p (.lst (es.map λ_=>.bl WX)))):pZ [.ref p] (ad M p (.lst (es.map λ_=>.bl WX))) Q:=by
 calc⟨_,_,es.map (λ_=>WX),rfl,af aa,r9 es,?_⟩;rw[show((es.map λ_=>WX).all id)=WX by simp]
 show q
set_option tactic.hygienic true
def Dd(hf:T[f]?=S (fM y s f)):∀{n m:Nat},n+1<=m->∀{u v:D} {M:Mem} {Q:QD},Sm M n u v->(∀M',Ge M M'->Q (.bl WX) M')->phi T m f [u,v] M Q:=by
 intro n
 induction n with
 |zero=>
  intro m hm u v M Q h q
  cases u<;>cases v<;>first
   |show h.elim
   |(let e:=h;unfold Sm at e;subst e;show r8 hf ∅ (q _ Ge.refl))
 |succ n ih=>
  intro m hm u v M Q h q
  cases u<;>cases v<;>first
   |show h.elim
   |(let e:=h;unfold Sm at e;subst e;show r8 hf ∅ (q _ Ge.refl))
   |skip
  case tup.tup ds es=>
   let⟨z,l,h⟩:=h;refine ao ∅ hf rfl (ρ:=[S _,S _]) rfl ?_
   unfold fM;nofun;calc⟨"tuple",rfl,WX,rfl,?_⟩;rw[if_pos rfl];nofun;calc⟨"tuple",rfl,"tuple",rfl,_,_,rfl,rfl,WY,rfl,?_⟩;rw[if_neg (·)]
   calc⟨"tuple",rfl,"tuple",rfl,_,_,rfl,rfl,WY,rfl,?_⟩;rw[if_neg (·)]
   nofun;rw[if_pos (by simp[l])]
   refine⟨∅,∅,?_⟩
   show nD (ih (m:=m-1) ∅) rfl rfl z l h λρ M' g p hp=>rf (q _ (g.trans (Ge.new hp)))
  case ref.ref a b=>
   let⟨ds,es,e1,e2,z,l,h⟩:=h;refine ao ∅ hf rfl (ρ:=[S _,S _]) rfl ?_
   unfold fM;let t1:tyN M (.ref a)=S "list":=by simp[tyN,e1]
   let j:tyN M (.ref b)=S "list":=by simp[tyN,e2]
   nofun;calc⟨"list",j,WX,rfl,?_⟩;rw[if_pos rfl];nofun;calc⟨"list",j,"list",t1,_,_,rfl,rfl,WY,rfl,?_⟩;rw[if_neg (·)]
   calc⟨"list",j,"list",t1,_,_,rfl,rfl,WY,rfl,?_⟩;rw[if_neg (·)]
   nofun;calc lH (af e1) (lH (af e2) ?_);ac_nf;rw[if_pos (by simp[l])]
   calc lH (af e2) ?_;refine⟨_,rfl,∅,∅,?_⟩
   show nD (ih (m:=m-1) ∅) (af e1) (af e2) z l h λρ M' g p hp=>rf (q _ (g.trans (Ge.new hp)))
set_option tactic.hygienic false
end
end
section
open L2.Srt
def i7(j:l.length<=100000):Sm M (n+1) (.tup (l.map .int)) (.tup (l.map .int)):=by
 refine⟨by rw[s9];show j,rfl,λk d e h1 h2=>?_⟩
 rw[h1]at h2;cases h2;rw[Ly]at h1;let⟨i,_,rfl⟩:=O8.mp h1;show Sm.int
def De{p:Pr}(h:p.1.length<=100000/\p.2.1.length<=100000/\p.2.2.length<=100000):Sm M 2 (prD p) (prD p):=by
 refine⟨by simp,rfl,λk d e h1 h2=>?_⟩
 rw[h1]at h2;cases h2;let hm:=LJ h1;simp only[Lw,LW,or_false]at hm
 rcases hm with rfl|rfl|rfl
 ·show i7 h.1
 ·show i7 h.2.1
 ·show i7 h.2.2
def Df{x y:Int}{qs:List Pr}(j:qs.length<=100000)(q:M a=S (.lst (qs.map prD)))(B:M b=S (.lst (qs.map prD)))(h:∀p∈qs,p.1.length<=100000/\p.2.1.length<=100000/\p.2.2.length<=100000):
 Sm M 4 (.tup [.int x,.int y,.int z,.ref a]) (.tup [.int x,.int y,.int z,.ref b]):=by
 refine⟨by simp,rfl,λk d e h1 h2=>?_⟩
 let:k=0∨k=1∨k=2∨k=3:=by let:=(J4.mp h1).1;simp at this;lia
 rcases this with rfl|rfl|rfl|rfl
 ·cases h1;cases h2;show Sm.int
 ·cases h1;cases h2;show Sm.int
 ·cases h1;cases h2;show Sm.int
 ·cases h1;cases h2
  refine⟨_,_,q,B,by rw[s9];show j,rfl,λk d e h1 h2=>?_⟩
  rw[h1]at h2;cases h2;rw[Ly]at h1;let⟨p,F,rfl⟩:=O8.mp h1;show De (h p (LJ F))
def AH:∀ns:List Int,MA (ns.map .int) (ns.map .int)=WX
 |[]=>rfl
 |n::ns=>by simp[MA,Md,AH ns]
def EX:∀ps:List Pr,MA (ps.map fg) (ps.map fg)=WX
 |[]=>rfl
 |p::ps=>by simp[MA,Md,EX ps,fg,AH]
end
section
open L2.Srt
def tG{a b:Nat}(j:b<m):(a*m+b) / m=a:=by rw[V0,Nat.mul_add_div ∅,SU j,Nat.add_zero]
def eW{p:Nat}:((cZ n m p).map (·.1)).Nodup:=by
 unfold cZ gj;rw[T1,Nz,NN];refine⟨λa _=>?_,?_⟩
 ·rw[T1,NN];refine⟨λb _=>?_,?_⟩
  ·rw[NG,MP];calc(Nz.mp T2).imp ?_;intro c c' F e;let h:=congrArg (λk:K3=>k.2.2) e;simp only[Qm,cy]at h;lia
  ·calc(Nz.mp T2).imp ?_;intro b b' z x hx y j e;rw[NG]at hx j;let⟨u,_,rfl⟩:=LI.mp hx;let⟨v,_,rfl⟩:=LI.mp j;let h:=congrArg (λk:K3=>k.2.1) e;simp only[Qm,cy]at h;lia
 ·calc(Nz.mp T2).imp ?_;intro a a' B x hx y j e;rw[T1]at hx j;let⟨b,z,hx⟩:=O0.mp hx;let⟨b',q,j⟩:=O0.mp j;rw[NG]at hx j;let⟨u,_,rfl⟩:=LI.mp hx;let⟨v,_,rfl⟩:=LI.mp j;let h:=congrArg (λk:K3=>k.2.1) e;simp only[Qm,cy]at h;let h2:a*m+b=a'*m+b':=by lia
  apply B;rw[<-tG (a:=a) (NO.mp z),h2,tG (NO.mp q)]
end
section
open L2.Srt
variable{T:List FD}
abbrev m9(xs:Str)(s:Stmt):FD:=⟨"_law_table_sums",s,[xs,"_law_n","_law_m","_law_p","_law_found","_law_a","_law_b","_law_c"],1,
 (.cons (.asg (.tup (.cons (.name 1) (.cons (.name 2) (.cons (.name 3) .nil)))) (.var 0))
 (.cons (.asg (.name 4) (.dnew WX))
 (.cons (.for (.name 5) (.rng1 (.var 1)) (.cons (.for (.name 6) (.rng1 (.var 2)) (.cons (.for (.name 7) (.rng1 (.var 3)) (.cons (.put (.var 4) (.tup (.cons (.bin .add (.bin .mul (.var 5) (.var 3)) (.var 7)) (.cons (.bin .add (.bin .mul (.var 5) (.var 2)) (.var 6)) (.cons (.bin .add (.bin .mul (.var 6) (.var 3)) (.var 7)) .nil)))) (.int 1))
 .nil))
 .nil))
 .nil))
 (.cons (.ret (.var 4))
 .nil))))⟩
structure TI(n m p:Nat)(X:List Tm)(L:List Tm):Prop where
 nd:(L.map (·.1)).Nodup
 sub:∀t∈L,t∈X
 all:∀t∈X,t.1∈L.map (·.1)
set_option tactic.hygienic true
def nE{L:List Tm}{k a:K3}{c:Int}(h:a∈L.map (·.1)∨a=k):a∈(eM L k c).map (·.1):=by
 unfold eM
 split
 ·next j=>
  rw[NG];let e:L.map ((λx:Tm=>x.1)∘λp=>if p.1=k then(p.1,c)else p)=L.map (·.1):=Pg λp _=>by simp only[Qm];split<;>rfl
  rw[e]
  rcases h with h|rfl
  ·show h
  ·let⟨t,ht,e⟩:=SW.mp j;rw[<-of_decide_eq_true e];show MM ht
 ·rw[Mj]
  rcases h with h|rfl
  ·show N7 _ h
  ·show LP _ (_)
set_option tactic.hygienic false
def TI.put{p:Nat}{X L:List Tm}(h:TI n m p X L)(t:Tm):TI n m p (X++[t]) (eM L t.1 t.2) where
 nd:=vf h.nd
 sub:=λu j=>by
  rcases An j with z|z
  ·show N7 _ (h.sub u z)
  ·show LP _ (by rw[z];simp)
 all:=λu j=>by
  rcases Lv.mp j with z|z
  ·show nE (.inl (h.all u z))
  ·let e:u=t:=by simpa using z
   rw[e];show nE (.inr rfl)
def TI.perm{p:Nat}{L:List Tm}(h:TI n m p (cZ n m p) L):L.Perm (cZ n m p):=by calc(Se (fR h.nd) (fR eW)).mpr λt=>⟨h.sub t,λht=>?_⟩;let⟨u,j,e⟩:=LI.mp (h.all t ht);let h1:=xY eW (h.sub u j);let h2:=xY eW ht;rw[e,h2]at h1;let:u=t:=Prod.ext e h1.symm;rw[<-this];show j
def AI{xs:Str}(hf:T[f]?=S (m9 xs s)){k:Nat}(hk:1<=k){p:Nat}(hn:n<=50)(hm:m<=50)(hp:p<=50)(q:∀(L:List Tm) d M',L.Perm (cZ n m p)->Ge M M'->M d=Y->M' d=S (.dct WX (L.map kcD))->Q (.ref d) M'):phi T k f [.tup [.int n,.int m,.int p]] M Q:=by
 refine ao ∅ hf rfl (ρ:=[S _,Y,Y,Y,Y,Y,Y,Y]) rfl ?_
 unfold m9;nofun;nofun;intro d hd;let g0:=Ge.new (o:=.dct WX []) hd;let d0:=aa (M:=M) (a:=d) (o:=.dct WX []);generalize ad M d (.dct WX [])=M0 at g0 d0⊢;nofun;refine⟨∅,∅,?_⟩
 rw[LU];refine aI (f:=λi=>D.int (i:Nat)) (ys:=LO n) (I:=λl ρ M'=>∃L U G j,ρ=[S (.tup [.int n,.int m,.int p]),S (.int n),S (.int m),S (.int p),S (.ref d),U,G,j]/\Ge M M'/\M' d=S (.dct WX (L.map kcD))/\TI n m p (l.flatMap (gj m p)) L/\L.length<=l.length*2500) aR ⟨[],_,_,_,rfl,g0,d0,⟨by simp,λ_ h=>by simp at h,λ_ h=>by simp at h⟩,by simp⟩ (λ_ _ _ _=>trivial) ?_ ?_
 ·rintro l a r ρ M1 e ⟨L,U,G,j,rfl,g1,h1,z,B⟩;calc⟨_,rfl,λF hF=>?_⟩;let F3:=ar e;rw[Mg]at F3;let ha:a<n:=NO.mp (by rw[e];simp)
  nofun;refine⟨∅,∅,?_⟩
  rw[LU];refine aI (f:=λi=>D.int (i:Nat)) (ys:=LO m) (I:=λl' ρ M'=>∃L G j,ρ=[S (.tup [.int n,.int m,.int p]),S (.int n),S (.int m),S (.int p),S (.ref d),S (.int (a:Nat)),G,j]/\Ge M M'/\M' d=S (.dct WX (L.map kcD))/\TI n m p (l.flatMap (gj m p)++l'.flatMap λb=>(LO p).map (cy m p a b)) L/\L.length<=l.length*2500+l'.length*50) aR ⟨L,_,_,rfl,g1,h1,by simpa using z,by simpa using B⟩ (λ_ _ _ _=>trivial) ?_ ?_
  ·rintro l' b r' ρ M2 e' ⟨L,G,j,rfl,g2,h2,z,B⟩;calc⟨_,rfl,λF' Z=>?_⟩;let J:=ar e';rw[Mg]at J;let hb:b<m:=NO.mp (by rw[e'];simp)
   nofun;refine⟨∅,∅,?_⟩
   rw[LU];refine aI (f:=λi=>D.int (i:Nat)) (ys:=LO p) (I:=λl3 ρ M'=>∃L j,ρ=[S (.tup [.int n,.int m,.int p]),S (.int n),S (.int m),S (.int p),S (.ref d),S (.int (a:Nat)),S (.int (b:Nat)),j]/\Ge M M'/\M' d=S (.dct WX (L.map kcD))/\TI n m p ((l.flatMap (gj m p)++l'.flatMap λb=>(LO p).map (cy m p a b))++l3.map (cy m p a b)) L/\L.length<=l.length*2500+l'.length*50+l3.length) aR ⟨L,_,rfl,g2,h2,by simpa using z,by simpa using B⟩ (λ_ _ _ _=>trivial) ?_ ?_
   ·rintro l3 c r3 ρ M3 e3 ⟨L,j,rfl,g3,h3,z,B⟩;calc⟨_,rfl,λF3 Ja=>?_⟩;let O:=ar e3;rw[Mg]at O;rw[gh];ac_nf;refine⟨gi ∅,gi ∅,gi ∅,by rw[hH];lia,?_⟩
    let ek:D.tup [.int (a*p+c),.int (a*m+b),.int (b*p+c)]=k3D (cy m p a b c).1:=by unfold cy k3D;simp only[Int.natCast_add,PD]
    rw[ek];refine Ag h3 (Bi (cy m p a b c).1) (by rw[s9,hH];lia) ?_
    rw[show D.int 1=.int (cy m p a b c).2 from rfl,Am];refine Ja _ _ ⟨_,_,rfl,g3.upd hd,aa,?_,?_⟩
    ·rw[Mj,<-LH];show z.put _
    ·let:=Ao (L:=L) (k:=(cy m p a b c).1) (c:=(cy m p a b c).2);rw[I7,LY];lia
   ·rintro ρ M3 ⟨L,j,rfl,g3,h3,z,B⟩;dsimp only;ac_nf;refine Z _ _ ⟨L,_,_,rfl,g3,h3,?_,?_⟩
    ·rw[Ng];simpa using z
    ·rw[I7];rw[Mg]at B;simp;lia
  ·rintro ρ M2 ⟨L,G,j,rfl,g2,h2,z,B⟩;dsimp only;ac_nf;refine hF _ _ ⟨L,_,_,_,rfl,g2,h2,?_,?_⟩
   ·rw[Ng];simpa[gj]using z
   ·rw[I7];rw[Mg]at B;simp;lia
 ·rintro ρ M1 ⟨L,U,G,j,rfl,g1,h1,z,B⟩;dsimp only;nofun;show q L d M1 z.perm g1 hd h1
abbrev one(L:Nat)(k:Int):List Int:=(LO L).map λh=>if((h:Nat):Int)=k then 1 else 0
def iR{L:Nat}{k:Int}:(one L k).length=L:=by simp[one]
def rg{L:Nat}{k:Int}(h0:0<=k)(h1:k<L):gz (one L k) i=if i=k then 1 else 0:=by
 unfold gz one
 by_cases hi:i<0
 ·rw[if_pos hi,if_neg ∅]
 ·rw[if_neg hi,MQ,Ly]
  by_cases hl:i.toNat<L
  ·rw[Qb hl];simp only[Pz,R8]
   by_cases e:i=k
   ·rw[if_pos ∅,if_pos e]
   ·rw[if_neg ∅,if_neg e]
  ·rw[TH (by simp;lia),if_neg ∅];rfl
abbrev jL(s:Stmt):FD:=⟨"_law_single",s,["_law_length","_law_place"],2,
 (.cons (.ret (.blt .tuple (.cons (.comp [Y,(S 1)] ["_law_here","_law_place"] (.last (.rng1 (.var 0)) (.name 0) .nil (.blt .int (.cons (.cmp .eq (.var 0) (.var 1)) .nil)))) .nil)))
 .nil)⟩
def yt(hf:T[f]?=S (jL s))(F:1<=n){L:Nat}(G:L<=100000){k:Int}(q:∀M',Ge M M'->Q (.tup ((one L k).map .int)) M'):phi T n f [.int L,.int k] M Q:=by
 refine ao ∅ hf rfl (ρ:=[S _,S _]) rfl ?_
 unfold jL;nofun;refine⟨∅,∅,?_⟩
 rw[LU];refine aA (f:=λi=>D.int (i:Nat)) (ys:=LO L) (I:=λl ρ M' acc=>(∃o0,ρ=[o0,S (.int k)])/\M'=M/\acc=(l.map λh=>if((h:Nat):Int)=k then(1:Int)else 0).map .int) aR ⟨⟨_,rfl⟩,rfl,rfl⟩ (λ_ _ _ _ _=>trivial) ?_ ?_
 ·rintro l i r ρ M1 acc e ⟨⟨o0,rfl⟩,rfl,rfl⟩;calc⟨_,rfl,λN' j=>?_⟩;let z:=ar e;rw[Mg]at z;ac_nf;refine⟨by rw[s9,s9,hH];lia,j _ _ _ ⟨⟨_,rfl⟩,rfl,?_⟩⟩
  simp
 ·rintro ρ M1 acc ⟨⟨o0,rfl⟩,rfl,rfl⟩ p B;show⟨_,_,rfl,af aa,q _ (Ge.new B)⟩
abbrev plP(L0 L1 L2:Nat)(t:Tm):Pr:=(one L0 t.1.2.1,one L1 t.1.2.2,(one L2 t.1.1).map (· * t.2))
def tH{x:Int}:∀{b:List Int} {i:Int},gz (b.map (· * x)) i=gz b i*x
 |[],i=>by rw[Pt,qP];simp
 |y::b,i=>by rw[LL,dh,dh,tH];split<;>rfl
def rh{L0 L1 L2:Nat}{k i j:Int}:∀{L:List Tm},(∀t∈L,(0<=t.1.1/\t.1.1<L2)/\(0<=t.1.2.1/\t.1.2.1<L0)/\(0<=t.1.2.2/\t.1.2.2<L1))->Tn (L.map (plP L0 L1 L2)) k i j=cf L (k,i,j)
 |[],_=>rfl
 |t::L,h=>by
  let⟨⟨z,a1⟩,⟨B,F⟩,⟨G,J⟩⟩:=h t (_)
  rw[LL,lL,eh,rh λu O=>h u (by simp[O])]
  congr 1;unfold plP;dsimp only;rw[rg B F,rg G J,tH,rg z a1]
  by_cases e:t.1=(k,i,j)
  ·rw[if_pos e,if_pos (by rw[e]),if_pos (by rw[e]),if_pos (by rw[e])];lia
  ·rw[if_neg e]
   by_cases e1:i=t.1.2.1
   ·by_cases e2:j=t.1.2.2
    ·by_cases q:k=t.1.1
     ·show absurd (by rw[e1,e2,q]) e
     ·rw[if_neg q];simp
    ·rw[if_neg e2];simp
   ·rw[if_neg e1];simp
abbrev tI(cap:Nat)(bf:BF):Prop:=∀{d:WZ} {kvs:List (D×D)} (sh:Sh) {M:Mem} {Q:QD},M d=S (.dct WX kvs)->gW sh=WX->(∀kv∈kvs,hs sh kv.1=WX)->kvs.length<=cap->(∀p ys,M p=Y->ys.Perm (kvs.map (·.1))->eI ys->Q (.ref p) (ad M p (.lst ys)))->opF bf [.ref d] M Q
def Hf:tI cap .sortk:=λsh _ _ h1 h2 j _ q=>⟨_,WX,_,sh,rfl,h1,h2,j,q⟩
abbrev i8(xs:Str)(bf:BF)(y:Str)(s:Stmt)(fs:Nat):FD:=⟨"_law_plainly",s,["_law_lengths",xs],2,
 (.cons (.ret (.comp [Y,Y,Y,(S 0),(S 1)] ["_law_k","_law_i","_law_j","_law_lengths",xs] (.last (.seq (.blt bf (.cons (.var 1) .nil))) (.tup (.cons (.name 0) (.cons (.name 1) (.cons (.name 2) .nil)))) .nil (.tup (.cons (.call fs (.cons (.ix (.var 3) (.int 0)) (.cons (.var 1) .nil))) (.cons (.call fs (.cons (.ix (.var 3) (.int 1)) (.cons (.var 2) .nil))) (.cons (.blt .tuple (.cons (.comp [Y,(S 4),(S 0),(S 1),(S 2)] [y,xs,"_law_k","_law_i","_law_j"] (.last (.seq (.call fs (.cons (.ix (.var 3) (.int 2)) (.cons (.var 0) .nil)))) (.name 0) .nil (.bin .mul (.var 0) (.ix (.var 1) (.tup (.cons (.var 2) (.cons (.var 3) (.cons (.var 4) .nil)))))))) .nil)) .nil)))))))
 .nil)⟩
abbrev rj(T:List FD)(n f:Nat):Prop:=∀{L:Nat} {k:Int} {M:Mem} {Q:QD},L<=100000->(∀M',Ge M M'->Q (.tup ((one L k).map .int)) M')->phi T n f [.int L,.int k] M Q
def vA{fs:Nat}{xs y:Str}{bf:BF}(hS:tI cap bf)(hf:T[f]?=S (i8 xs bf y s fs))(j:rj T (n-1) fs)(hn:1<=n)(h0:L0<=1000)(h1:L1<=1000)(h2:L2<=1000){L:List Tm}(B:(L.map (·.1)).Nodup)(hl:L.length<=1000000)(F:L.length<=cap){d:WZ}(hd:M d=S (.dct WX (L.map kcD)))(q:∀(rs:List Tm) p M',rs.Perm L->Ge M M'->M p=Y->M' p=S (.lst ((rs.map (plP L0 L1 L2)).map prD))->Q (.ref p) M'):phi T n f [.tup [.int L0,.int L1,.int L2],.ref d] M Q:=by
 refine ao ∅ hf rfl (ρ:=[S _,S _]) rfl ?_
 unfold i8;nofun;refine hS (.tup [.int,.int,.int]) hd rfl (λkv Z=>?_) (by rw[s9];show F) λps ys Ja z G=>?_
 ·let⟨t,_,rfl⟩:=LI.mp Z;rfl
 let⟨rs,J,rfl,Jc⟩:=rP B z G;let g1:=Ge.new (o:=.lst (rs.map λt=>k3D t.1)) Ja;let e1:=aa (M:=M) (a:=ps) (o:=.lst (rs.map λt=>k3D t.1));generalize ad M ps (.lst (rs.map λt=>k3D t.1))=M1 at g1 e1⊢;let Jd:rs.length<=1000000:=by rw[J.length_eq];show hl
 calc⟨_,af e1,?_⟩;refine aA (f:=λt:Tm=>k3D t.1) (ys:=rs) (I:=λl ρ M' acc=>(∃o0 o1 o2,ρ=[o0,o1,o2,S (.tup [.int L0,.int L1,.int L2]),S (.ref d)])/\Ge M1 M'/\acc=(l.map (plP L0 L1 L2)).map prD) rfl ⟨⟨_,_,_,rfl⟩,Ge.refl,rfl⟩ (λ_ _ _ _ h=>af (h.2.1 _ _ e1)) ?_ ?_
 ·rintro l t r ρ M2 acc e ⟨⟨o0,o1,o2,rfl⟩,g2,rfl⟩;calc⟨_,rfl,λN' Jb=>?_⟩;let Je:=ar e;let ht:t∈L:=J.mem_iff.mp (by rw[e];simp)
  ac_nf;refine⟨_,rfl,j ∅ λM3 g3=>⟨_,rfl,j ∅ λM4 g4=>⟨_,rfl,j ∅ λM5 F3=>⟨_,rfl,?_⟩⟩⟩⟩
  let F3:=g2.trans (g3.trans (g4.trans F3));let d5:=F3 _ _ (g1 _ _ hd);let ho:∀x∈one L2 t.1.1,x=0∨x=1:=λx hx=>by
   unfold one at hx;let⟨h,_,rfl⟩:=LI.mp hx
   split<;>simp
  refine aA (f:=D.int) (ys:=one L2 t.1.1) (I:=λl' ρ M' acc=>(∃o0,ρ=[o0,S (.ref d),S (.int t.1.1),S (.int t.1.2.1),S (.int t.1.2.2)])/\M'=M5/\acc=(l'.map (· * t.2)).map .int) rfl ⟨⟨_,rfl⟩,rfl,rfl⟩ (λ_ _ _ _ _=>by first|rfl|trivial) ?_ ?_
  ·rintro l' x r' ρ M6 acc e' ⟨⟨o0,rfl⟩,rfl,rfl⟩;calc⟨_,rfl,λN'' O=>?_⟩;let U:=ar e';rw[iR]at U;let hx:=ho x (by rw[e'];simp)
   ac_nf;refine⟨by rw[hH];lia,?_⟩
   rw[show D.tup [.int t.1.1,.int t.1.2.1,.int t.1.2.2]=k3D t.1 from rfl];calc EN d5 (Bi t.1) (Ap B ht) ?_;ac_nf;refine⟨gi ∅,by rw[s9,s9,hH];lia,O _ _ _ ⟨⟨_,rfl⟩,rfl,by simp⟩⟩
  ·rintro ρ M6 acc ⟨⟨o0,rfl⟩,rfl,rfl⟩ p J;refine⟨_,_,rfl,af aa,by rw[hH];lia,by rw[s9,s9,hH];lia,Jb _ _ _ ⟨⟨_,_,_,rfl⟩,F3.trans (Ge.new J),?_⟩⟩
   simp[prD,plP]
 ·rintro ρ M2 acc ⟨⟨o0,o1,o2,rfl⟩,g2,rfl⟩ p2 hp2;let g3:=g1.trans g2;refine q rs p2 _ J (g3.trans (Ge.new hp2)) ?_ aa
  cases hz:M p2 with
  |none=>rfl
  |some o=>rw[g3 _ _ hz]at hp2;cases hp2
end
section
open L2.Srt
abbrev tm(p:Pr)(k i j:Int):Int:=gz p.1 i*gz p.2.1 j*gz p.2.2 k
def iS{p:Pr}{a:List Pr}{k:Int}:Tn (p::a) k i j=tm p k i j+Tn a k i j:=lL
def yu{ps:List Pr}{p:Pr}{k:Int}:Tn (ps.take n++p::ps.drop n) k i j=Tn ps k i j+tm p k i j:=by
 let e:Tn ps k i j=Tn (ps.take n) k i j+Tn (ps.drop n) k i j:=by rw[<-hW,MV]
 rw[hW,iS,e];lia
def yv{k i j:Int}{p':Pr}:∀{ps:List Pr} {n:Nat} {p:Pr},ps[n]?=S p->Tn (ps.set n p') k i j=Tn ps k i j-tm p k i j+tm p' k i j
 |[],n,p,h=>by simp at h
 |a::ps,0,p,h=>by simp at h;subst h;rw[Sb,iS,iS];lia
 |a::ps,n+1,p,h=>by rw[Sd,iS,iS,yv (ps:=ps) (n:=n) (p:=p) (by simpa using h)];lia
def iT:∀{l:List Int},gz (l.map (- ·)) i = - gz l i:=by intro l;let:=xZ (x:=-1) (b:=l) (i:=i);rw[show l.map (- ·)=l.map (-1 * ·)from Pg λx _=>∅,this];lia
def Gc{r:List Int}{k:Int}:tm (l.map (- ·),r,o.map (- ·)) k i j=tm (l,r,o) k i j:=by unfold tm;dsimp only;rw[iT,iT];simp[Int.neg_mul,Int.mul_neg]
def tm_lr{r:List Int}{k:Int}:tm (l.map (- ·),r.map (- ·),o) k i j=tm (l,r,o) k i j:=by unfold tm;dsimp only;rw[iT,iT];simp[Int.neg_mul,Int.mul_neg]
abbrev aS(a b:List Int):List Int:=OB (· - ·) a b
def mj:∀{a b:List Int},a.length=b.length->gz (aS a b) i+gz b i=gz a i:=by
 intro a
 induction a generalizing i with
 |nil=>intro b h;cases b with|nil=>rw[show aS [] []=[]from rfl,qP];rfl|cons y b=>simp at h
 |cons x a ih=>
  intro b h
  cases b with
  |nil=>simp at h
  |cons y b=>
   rw[show aS (x::a) (y::b)=(x-y)::aS a b from rfl,dh,dh,dh]
   by_cases e:i=0
   ·rw[if_pos e,if_pos e,if_pos e];lia
   ·rw[if_neg e,if_neg e,if_neg e];show ih (by simpa using h)
def Dg{r m:List Int}{k:Int}(h:l.length=m.length):tm (aS l m,r,o) k i j+tm (m,r,o) k i j=tm (l,r,o) k i j:=by unfold tm;dsimp only;rw[<-VW,<-VW,mj h]
def Dh{r m:List Int}{k:Int}(h:r.length=m.length):tm (l,aS r m,o) k i j+tm (l,m,o) k i j=tm (l,r,o) k i j:=by unfold tm;dsimp only;rw[<-VW,<-Int.mul_add,mj h]
def Di{r m:List Int}{k:Int}(h:o.length=m.length):tm (l,r,aS o m) k i j+tm (l,r,m) k i j=tm (l,r,o) k i j:=by unfold tm;dsimp only;rw[<-Int.mul_add,mj h]
abbrev seven:List Pr:=[([1,0,0,1],[1,0,0,1],[1,0,0,1]),([0,0,1,1],[1,0,0,0],[0,0,1,-1]),([1,0,0,0],[0,1,0,-1],[0,1,0,1]),([0,0,0,1],[-1,0,1,0],[1,0,1,0]),([1,1,0,0],[0,0,0,1],[-1,1,0,0]),([-1,0,1,0],[1,1,0,0],[0,0,0,1]),([0,1,0,-1],[0,0,1,1],[1,0,0,0])]
def AJ:∀a b c:Fin 4,Tn seven (a.val:Nat) (b.val:Nat) (c.val:Nat)=cf (cZ 2 2 2) (((a.val:Nat):Int),((b.val:Nat):Int),((c.val:Nat):Int)):=by decide +kernel
def AK{k:Int}:Tn seven k i j=cf (cZ 2 2 2) (k,i,j):=by
 by_cases h:(0<=k/\k<4)/\(0<=i/\i<4)/\(0<=j/\j<4)
 ·let:=AJ ⟨k.toNat,∅⟩ ⟨i.toNat,∅⟩ ⟨j.toNat,∅⟩
  dsimp only at this;rw[Pf h.1.1,Pf h.2.1.1,Pf h.2.2.1]at this;show this
 ·let z:Tn seven k i j=0:=by
   cases Decidable.em (Tn seven k i j=0)with
   |inl e=>show e
   |inr e=>show absurd (ya (L0:=4) (L1:=4) (L2:=4) (us:=seven) (·) e) h
  let B:cf (cZ 2 2 2) (k,i,j)=0:=tt λt ht e=>by let⟨a,b,c,G,J,L,rfl⟩:=lK ht;unfold cy at e;let e1:=congrArg (λq:K3=>q.1) e;let e2:=congrArg (λq:K3=>q.2.1) e;let F:=congrArg (λq:K3=>q.2.2) e;dsimp only at e1 e2 F;lia
  rw[z,B]
end
section
open L2.Srt
variable{T:List FD}
abbrev i9(xv xl:Str)(s:Stmt)(ft fa:Nat):FD:=⟨"_law_dressed",s,["_law_box_here","_law_lengths","_law_products","_law_most","_law_found","_law_l","_law_r","_law_o","_law_way","_law_turn","_law_at","_law_side","_law_more",xl,"_law_extra"],4,
 (.cons (.asg (.name 4) (.lst .nil))
 (.cons (.for (.tup (.cons (.name 5) (.cons (.name 6) (.cons (.name 7) .nil)))) (.seq (.var 2)) (.cons (.asg (.name 8) (.call ft (.cons (.var 0) (.cons (.int 6) .nil))))
 (.cons (.ite (.cmp .eq (.var 8) (.int 0)) (.cons (.par 5 7 (.call fa (.cons (.var 5) .nil)) (.call fa (.cons (.var 7) .nil)))
 .nil) .nil)
 (.cons (.ite (.cmp .eq (.var 8) (.int 1)) (.cons (.par 5 6 (.call fa (.cons (.var 5) .nil)) (.call fa (.cons (.var 6) .nil)))
 .nil) .nil)
 (.cons (.drop (.ins (.var 4) (.call ft (.cons (.var 0) (.cons (.bin .add (.blt .len (.cons (.var 4) .nil)) (.int 1)) .nil))) (.tup (.cons (.var 5) (.cons (.var 6) (.cons (.var 7) .nil))))))
 .nil)))))
 (.cons (.for (.name 9) (.rng1 (.call ft (.cons (.var 0) (.cons (.bin .add (.var 3) (.int 1)) .nil)))) (.cons (.asg (.name 10) (.call ft (.cons (.var 0) (.cons (.blt .len (.cons (.var 4) .nil)) .nil))))
 (.cons (.asg (.tup (.cons (.name 5) (.cons (.name 6) (.cons (.name 7) .nil)))) (.ix (.var 4) (.var 10)))
 (.cons (.asg (.name 11) (.call ft (.cons (.var 0) (.cons (.int 3) .nil))))
 (.cons (.asg (.name 12) (.blt .tuple (.cons (.comp [Y,(S 0)] [xv,"_law_box_here"] (.last (.seq (.ix (.ix (.var 4) (.var 10)) (.var 11))) (.name 0) .nil (.bin .sub (.call ft (.cons (.var 1) (.cons (.int 5) .nil))) (.int 2)))) .nil)))
 (.cons (.asg (.name 13) (.blt .tuple (.cons (.comp [Y,Y] [xv,"_law_other"] (.last (.zip (.ix (.ix (.var 4) (.var 10)) (.var 11)) (.var 12)) (.tup (.cons (.name 0) (.cons (.name 1) .nil))) .nil (.bin .sub (.var 0) (.var 1)))) .nil)))
 (.cons (.put (.var 4) (.var 10) (.bin .add (.bin .add (.sl (.ix (.var 4) (.var 10)) .none (.some (.var 11))) (.tup (.cons (.var 13) .nil))) (.sl (.ix (.var 4) (.var 10)) (.some (.bin .add (.var 11) (.int 1))) .none)))
 (.cons (.asg (.name 14) (.bin .add (.bin .add (.sl (.tup (.cons (.var 5) (.cons (.var 6) (.cons (.var 7) .nil)))) .none (.some (.var 11))) (.tup (.cons (.var 12) .nil))) (.sl (.tup (.cons (.var 5) (.cons (.var 6) (.cons (.var 7) .nil)))) (.some (.bin .add (.var 11) (.int 1))) .none)))
 (.cons (.drop (.ins (.var 4) (.call ft (.cons (.var 0) (.cons (.bin .add (.blt .len (.cons (.var 4) .nil)) (.int 1)) .nil))) (.var 14)))
 .nil)))))))))
 (.cons (.ret (.bin .add (.blt .tuple (.cons (.var 1) .nil)) (.tup (.cons (.var 4) .nil))))
 .nil))))⟩
abbrev tJ(T:List FD)(n f:Nat):Prop:=∀{l:List Int} {M:Mem} {Q:QD},l.length<=100000->(∀M',Ge M M'->Q (.tup ((l.map (- ·)).map .int)) M')->phi T n f [.tup (l.map .int)] M Q
abbrev Within(B:Int)(l:List Int):Prop:=∀x∈l,-B<=x/\x<=B
structure Dr(B:Int)(L0 L1 L2:Nat)(p:Pr):Prop where
 l0:p.1.length=L0
 l1:p.2.1.length=L1
 l2:p.2.2.length=L2
 e0:Within B p.1
 e1:Within B p.2.1
 e2:Within B p.2.2
def Within.neg(h:Within B l):Within B (l.map (- ·)):=λx hx=>by let⟨y,j,rfl⟩:=LI.mp hx;let:=h y j;lia
def Within.mono{B':Int}(j:B<=B')(h:Within B l):Within B' l:=λx hx=>by let:=h x hx;lia
def Dr.mono{B':Int}(j:B<=B'){p:Pr}(h:Dr B L0 L1 L2 p):Dr B' L0 L1 L2 p:=⟨h.l0,h.l1,h.l2,h.e0.mono j,h.e1.mono j,h.e2.mono j⟩
def AL{a b:List Int}(h:a.length=b.length):(aS a b).length=a.length:=by simp[aS,h]
def Within.less{B:Int}:∀{a b:List Int},Within B a->Within 2 b->Within (B+2) (aS a b)
 |[],_,_,_=>λx hx=>by simp[aS]at hx
 |_::_,[],_,_=>λx hx=>by simp[aS]at hx
 |x::a,y::b,j,q=>fun z hz=>by
  rw[show aS (x::a) (y::b)=(x-y)::aS a b from rfl]at hz
  rcases Lw.mp hz with rfl|hz
  ·let:=j x (_);let:=q y (_);lia
  ·show Within.less (λw hw=>j w (by simp[hw])) (λw hw=>q w (by simp[hw])) z hz
abbrev pAt(p:Pr):Nat->List Int|0=>p.1|1=>p.2.1|_=>p.2.2
abbrev cF(p:Pr)(m:List Int):Nat->Pr|0=>(m,p.2.1,p.2.2)|1=>(p.1,m,p.2.2)|_=>(p.1,p.2.1,m)
def EY{p:Pr}{m:List Int}{s:Nat}{k:Int}(h:(pAt p s).length=m.length):tm (cF p (aS (pAt p s) m) s) k i j+tm (cF p m s) k i j=tm p k i j:=by
 match s with
 |0=>show Dg h
 |1=>show Dh h
 |_+2=>show Di h
def Dr.set{p:Pr}(h:Dr B L0 L1 L2 p){m:List Int}{s:Nat}(j:m.length=(pAt p s).length)(hw:Within B m):Dr B L0 L1 L2 (cF p m s):=by
 match s with
 |0=>show⟨j.trans h.l0,h.l1,h.l2,hw,h.e1,h.e2⟩
 |1=>show⟨h.l0,j.trans h.l1,h.l2,h.e0,hw,h.e2⟩
 |_+2=>show⟨h.l0,h.l1,j.trans h.l2,h.e0,h.e1,hw⟩
def Dr.at{p:Pr}(h:Dr B L0 L1 L2 p){s:Nat}:Within B (pAt p s):=by
 match s with
 |0=>show h.e0
 |1=>show h.e1
 |_+2=>show h.e2
def Dj(B:cB T n ft)(G:Box b M)(j:l.length<=1000)(q:∀(ns:List Int) ρ M',ns.length=l.length->Within 2 ns->Bx b M M'->N ρ M' (ns.map .int)):
 aU (b6 0) (bv (wOp jh (wAr (phi T n ft) (au (aP 1) (au (wC (.int 5)) aY))) (wC (.int 2)))) (λM=>aC M (.tup (l.map .int))=S (l.map .int)) N (l.map .int) [Y,S (.ref b)] M []:=by
 refine aA (f:=D.int) (ys:=l) (I:=λl ρ M' acc=>∃ns:List Int,(∃o,ρ=[o,S (.ref b)])/\acc=ns.map .int/\ns.length=l.length/\Within 2 ns/\Bx b M M') rfl ⟨[],⟨_,rfl⟩,rfl,rfl,λ_ h=>by simp at h,Bx.refl G⟩ (λ_ _ _ _ _=>rfl) ?_ ?_
 ·rintro l i r ρ M1 acc e ⟨ns,⟨o,rfl⟩,rfl,j,hr,z⟩;calc⟨_,rfl,λN' F=>?_⟩;let J:=ar e;ac_nf;refine B z.box ∅ ∅ λv M2 v0 v1 L=>?_
  ac_nf;refine⟨by rw[s9,hH];lia,F _ _ _ ⟨ns++[v-2],⟨_,rfl⟩,by simp,by simp[j],λy O=>?_,z.trans L⟩⟩
  rcases Lv.mp O with h|h
  ·show hr y h
  ·simp at h;subst h;lia
 ·rintro ρ M1 acc ⟨ns,⟨o,rfl⟩,rfl,j,hr,z⟩;show q ns _ M1 j hr z
def Dl{a b:List Int}(J:a.length<=1000){chk:Mem->Prop}(G:chk M)(q:∀ρ,N ρ M ((aS a b).map .int)):
 aU (ur (bW (b6 0) (bW (b6 1) gK))) (bv (wOp jh (aP 0) (aP 1))) chk N (OB fU (a.map .int) (b.map .int)) [Y,Y] M []:=by
 let ez:OB fU (a.map D.int) (b.map D.int)=(a.zip b).map λz=>D.tup [.int z.1,.int z.2]:=by rw[VH,List.zip,Rb];rfl
 refine aA (f:=λz:Int×Int=>D.tup [.int z.1,.int z.2]) (ys:=a.zip b) (I:=λl ρ M' acc=>(∃o0 j,ρ=[o0,j])/\M'=M/\acc=(l.map λz=>z.1-z.2).map .int) ez ⟨⟨_,_,rfl⟩,rfl,rfl⟩ (λ_ _ _ _ h=>by rw[h.2.1];show G) ?_ ?_
 ·rintro l z r ρ M1 acc e ⟨⟨o0,j,rfl⟩,rfl,rfl⟩;calc⟨_,rfl,λN' B=>?_⟩;let F:=ar e;rw[List.length_zip]at F;ac_nf;show⟨by rw[s9,s9,hH];lia,B _ _ _ ⟨⟨_,_,rfl⟩,rfl,by simp⟩⟩
 ·rintro ρ M1 acc ⟨⟨o0,j,rfl⟩,rfl,rfl⟩;let:(a.zip b).map (λz=>z.1-z.2)=aS a b:=by rw[List.zip,Rb];rfl
  rw[this];show q _
def yw{p:Pr}{s:Nat}(h:s<3):atI [D.tup (p.1.map .int),.tup (p.2.1.map .int),.tup (p.2.2.map .int)] (s:Nat)=S (.tup ((pAt p s).map .int)):=by
 match s,h with
 |0,_=>rfl
 |1,_=>rfl
 |2,_=>rfl
abbrev pts(p:Pr):List D:=[.tup (p.1.map .int),.tup (p.2.1.map .int),.tup (p.2.2.map .int)]
def tK{p:Pr}{s:Nat}(h:s<3)(q:Q (.tup ((pts p).take s)) M):bR (prD p) Y (S ((s:Nat):Int)) M Q:=by
 match s,h with
 |0,_=>show q
 |1,_=>show q
 |2,_=>show q
def tL{p:Pr}{s:Nat}(h:s<3)(q:Q (.tup ((pts p).drop (s+1))) M):bR (prD p) (S (((s:Nat):Int)+1)) Y M Q:=by
 match s,h with
 |0,_=>show q
 |1,_=>show q
 |2,_=>show q
def tM{p:Pr}{m:List Int}{s:Nat}(h:s<3):D.tup ((pts p).take s++[.tup (m.map .int)]++(pts p).drop (s+1))=prD (cF p m s):=by
 match s,h with
 |0,_=>rfl
 |1,_=>rfl
 |2,_=>rfl
def iU{p:Pr}:(pts p).length=3:=rfl
def vB{xl:Str}(hf:T[f]?=S (i9 xv xl s ft fa))(F3:cB T (n-1) ft)(Jd:tJ T (n-1) fa)(hn:1<=n)(hB:1<=B/\B<=100)(h0:L0<=100)(h1:L1<=100)(h2:L2<=100)(hm:most<=20){ps:List Pr}(Ju:∀p∈ps,Dr B L0 L1 L2 p)(Jo:ps≠[])(hl:ps.length<=10000){y0 y1 y2:D}{pp:WZ}(hb:Box b M)(Jp:pp≠b)(ep:M pp=S (.lst (ps.map prD)))(q:∀(qs:List Pr) pf M',(∀p∈qs,Dr (B+2*most) L0 L1 L2 p)->qs.length<=ps.length+most->qs≠[]->(∀k i j,Tn qs k i j=Tn ps k i j)->Bx b M M'->M pf=Y->pf≠b->M' pf=S (.lst (qs.map prD))->Q (.tup [y0,y1,y2,.ref pf]) M'):
 phi T n f [.ref b,.tup [y0,y1,y2],.ref pp,.int most] M Q:=by
 refine ao ∅ hf rfl (ρ:=[S _,S _,S _,S _,Y,Y,Y,Y,Y,Y,Y,Y,Y,Y,Y]) rfl ?_
 unfold i9;nofun;refine⟨by rw[hH];lia,λpf Z=>?_⟩
 let G:pf≠b:=λw=>by let⟨_,_,_,e⟩:=hb;rw[<-w,Z]at e;cases e
 let x1:=Bx.of hb (Ge.new (o:=.lst []) Z);let e1:=aa (M:=M) (a:=pf) (o:=.lst []);generalize ad M pf (.lst [])=M1 at x1 e1⊢;nofun;calc⟨_,af (x1.keep _ _ Jp ep),?_⟩;refine aI (f:=prD) (ys:=ps) (I:=λl ρ M'=>∃qs o5 o6 o7 o8,ρ=[S (.ref b),S (.tup [y0,y1,y2]),S (.ref pp),S (.int most),S (.ref pf),o5,o6,o7,o8,Y,Y,Y,Y,Y,Y]/\Bx b M M'/\M' pf=S (.lst (qs.map prD))/\qs.length=l.length/\(∀p∈qs,Dr B L0 L1 L2 p)/\∀k i j,Tn qs k i j=Tn l k i j) rfl ⟨[],_,_,_,_,rfl,x1,e1,rfl,λ_ h=>by simp at h,λ_ _ _=>rfl⟩ (λ_ _ _ g9=>(by let⟨_,_,_,_,_,_,h,_⟩:=g9;show af (h.keep _ _ Jp ep))) ?_ ?_
 ·rintro l p r ρ M2 e ⟨qs,o5,o6,o7,o8,rfl,x2,e2,Ja,L,hT⟩;calc⟨_,rfl,λF hF=>?_⟩;let U:=Ju p (by rw[e];simp)
  let Jq:=ar e;nofun;refine F3 x2.box (·) (·) λv M3 v0 v1 x3=>?_
  let e3:=x3.keep pf _ G e2;let x3:=x2.trans x3;clear e2 x2;refine ce (λρ M'=>∃l' r' o',ρ=[S (.ref b),S (.tup [y0,y1,y2]),S (.ref pp),S (.int most),S (.ref pf),S (.tup (l'.map .int)),S (.tup (r'.map .int)),S (.tup (o'.map .int)),S (.int v),Y,Y,Y,Y,Y,Y]/\Bx b M M'/\M' pf=S (.lst (qs.map prD))/\Dr B L0 L1 L2 (l',r',o')/\∀k i j,tm (l',r',o') k i j=tm p k i j) (λR hR=>?_) ?_
  ·ac_nf
   by_cases hv:v=0
   ·rw[if_pos (by simp[hv])]
    nofun;refine Jd (by let:=U.l0;lia) λM4 g4=>Jd (by let:=U.l2;lia) λM5 g5=>hR _ _ ⟨_,_,_,rfl,x3.ge (g4.trans g5),(g4.trans g5) _ _ e3,⟨by rw[s9];show U.l0,U.l1,by rw[s9];show U.l2,U.e0.neg,U.e1,U.e2.neg⟩,λk i j=>Gc⟩
   ·rw[if_neg (by simp[hv])]
    show hR _ _ ⟨_,_,_,rfl,x3,e3,U,λ_ _ _=>rfl⟩
  rintro ρ M4 ⟨l',r',o',rfl,x4,e4,J,ht⟩;refine ce (λρ M'=>∃l' r' o',ρ=[S (.ref b),S (.tup [y0,y1,y2]),S (.ref pp),S (.int most),S (.ref pf),S (.tup (l'.map .int)),S (.tup (r'.map .int)),S (.tup (o'.map .int)),S (.int v),Y,Y,Y,Y,Y,Y]/\Bx b M M'/\M' pf=S (.lst (qs.map prD))/\Dr B L0 L1 L2 (l',r',o')/\∀k i j,tm (l',r',o') k i j=tm p k i j) (λR hR=>?_) ?_
  ·ac_nf
   by_cases hv:v=1
   ·rw[if_pos (by simp[hv])]
    nofun;refine Jd (by let:=J.l0;dsimp only at this;lia) λM5 g5=>Jd (by let:=J.l1;dsimp only at this;lia) λM6 g6=>hR _ _ ⟨_,_,_,rfl,x4.ge (g5.trans g6),(g5.trans g6) _ _ e4,⟨by rw[s9];show J.l0,by rw[s9];show J.l1,J.l2,J.e0.neg,J.e1.neg,J.e2⟩,λk i j=>tm_lr.trans (ht k i j)⟩
   ·rw[if_neg (by simp[hv])]
    show hR _ _ ⟨_,_,_,rfl,x4,e4,J,ht⟩
  clear x3 e3 x4 e4 J ht;rintro ρ M5 ⟨l',r',o',rfl,x5,e5,J,ht⟩;nofun;calc⟨⟨_,e5⟩,aQ e5 ?_⟩;ac_nf;rw[s9];refine F3 x5.box ∅ ∅ λw M6 w0 w1 x6=>?_
  let e6:=x6.keep pf _ G e5;let x6:=x5.trans x6;refine⟨by rw[hH];lia,?_⟩
  refine⟨_,_,_,_,rfl,rfl,e6,w0,by rw[s9];lia,by rw[s9,hH];lia,?_⟩
  refine hF _ _ ⟨qs.take w.toNat++(l',r',o')::qs.drop w.toNat,_,_,_,_,rfl,x6.upd Z G,?_,?_,?_,?_⟩
  ·rw[aa,Mj,LL,Qn,Qo];rfl
  ·rw[I7,My,LS,NX,I7,LY];lia
  ·intro y hy
   rcases Lv.mp hy with h|h
   ·show L y (OX h)
   ·rcases Lw.mp h with rfl|h
    ·show J
    ·show L y (OW h)
  ·intro k i j;rw[yu,hT,ht,hW,iS];simp[Tn]
 ·rintro ρ M2 ⟨qs,o5,o6,o7,o8,rfl,x2,e2,Ja,L,hT⟩;dsimp only;nofun;refine F3 x2.box ∅ ∅ λv M3 v0 v1 x3=>?_
  let e3:=x3.keep pf _ G e2;let x3:=x2.trans x3;clear e1 x1 e2 x2;refine⟨_,rfl,∅,∅,?_⟩
  refine aI (f:=λi=>D.int (i:Nat)) (ys:=LO v.toNat) (I:=λl ρ M'=>∃qs o5 o6 o7 o8 o9 Jg Jh Ji Jj Jk,ρ=[S (.ref b),S (.tup [y0,y1,y2]),S (.ref pp),S (.int most),S (.ref pf),o5,o6,o7,o8,o9,Jg,Jh,Ji,Jj,Jk]/\Bx b M M'/\M' pf=S (.lst (qs.map prD))/\qs.length=ps.length+l.length/\(∀p∈qs,Dr (B+2*l.length) L0 L1 L2 p)/\∀k i j,Tn qs k i j=Tn ps k i j) aR ⟨qs,_,_,_,_,_,_,_,_,_,_,rfl,x3,e3,Ja,λp U=>(L p U).mono (_),hT⟩ (λ_ _ _ _=>trivial) ?_ ?_
  ·rintro l t r ρ M4 e ⟨qs,o5,o6,o7,o8,o9,Jg,Jh,Ji,Jj,Jk,rfl,x4,e4,Ja,L,hT⟩;calc⟨_,rfl,fun F hF=>?_⟩;let Jq:=ar e;rw[Mg]at Jq;let Jz:1<=ps.length:=by
    cases ps with
    |nil=>show absurd rfl Jo
    |cons _ _=>simp
   nofun;calc aQ e4 ?_;rw[s9];refine F3 x4.box ∅ ∅ λa M5 a0 a1 x5=>?_
   let e5:=x5.keep pf _ G e4;let x5:=x4.trans x5;clear e4 x4;obtain⟨a,rfl⟩:∃k:Nat,a=k:=⟨a.toNat,∅⟩
   obtain⟨p,U⟩:∃p,qs[a]?=S p:=⟨_,D1 ∅⟩
   let Jv:=LJ U;let hd:=L p Jv;let Jb:atI (qs.map prD) ((a:Nat):Int)=S (prD p):=am (by rw[Ly,U];rfl)
   nofun;calc al e5 Jb ?_;calc⟨_,rfl,?_⟩;nofun;refine F3 x5.box (·) (·) λc M6 c0 c1 x6=>?_
   let e6:=x6.keep pf _ G e5;let x6:=x5.trans x6;clear e5 x5;obtain⟨c,rfl⟩:∃k:Nat,c=k:=⟨c.toNat,∅⟩
   let O:c<3:=∅
   let Jr:(pAt p c).length<=1000:=by
    let:=hd.l0;let:=hd.l1;let:=hd.l2
    match c,O with
    |0,_=>change p.1.length<=_;lia
    |1,_=>change p.2.1.length<=_;lia
    |2,_=>change p.2.2.length<=_;lia
   nofun;calc al e6 Jb ?_;calc⟨_,_,rfl,yw O,_,rfl,?_⟩;calc Dj F3 x6.box Jr λm ρ M7 Jl Js x7 p7 hp7=>?_;let e7:=x7.keep pf _ G e6;let x7:=x6.trans x7;calc⟨_,_,rfl,af aa,?_⟩;let g8:=Ge.new (o:=.lst (m.map .int)) hp7;let e8:=g8 _ _ e7;let x8:=x7.ge g8;generalize ad M7 p7 (.lst (m.map .int))=M8 at g8 e8 x8⊢;clear e6 x6 e7 x7 g8 hp7;nofun;calc al e8 Jb ?_;calc⟨_,_,rfl,yw O,_,rfl,?_⟩;calc Dl Jr rfl λρ p9 hp9=>?_;calc⟨_,_,rfl,af aa,?_⟩;let g9:=Ge.new (o:=.lst ((aS (pAt p c) m).map .int)) hp9;let e9:=g9 _ _ e8;let x9:=x8.ge g9;generalize ad M8 p9 (.lst ((aS (pAt p c) m).map .int))=M9 at g9 e9 x9⊢;clear e8 x8 g9 hp9;nofun;calc al e9 Jb ?_;refine tK O ⟨by rw[hH];lia,.inr trivial,by rw[hH,LS,iU,LY];lia,?_⟩
   calc al e9 Jb ?_;refine tL O ⟨.inr trivial,by rw[hH,I7,LS,NX,iU,LY];lia,?_⟩
   rw[tM O];refine b9 e9 (j:=a) (by rw[s9];unfold ixN;rw[if_pos ∅,if_pos ∅,LU]) ?_
   let Jm:Bx b M (ad M9 pf (.lst ((qs.map prD).set a (prD (cF p (aS (pAt p c) m) c))))):=x9.upd Z G;let Jc:ad M9 pf (.lst ((qs.map prD).set a (prD (cF p (aS (pAt p c) m) c)))) pf=S (.lst ((qs.set a (cF p (aS (pAt p c) m) c)).map prD)):=by rw[aa,RI]
   generalize ad M9 pf (.lst ((qs.map prD).set a (prD (cF p (aS (pAt p c) m) c))))=M10 at Jm Jc⊢;clear e9 x9;let Jt:∀k i j,Tn (qs.set a (cF p (aS (pAt p c) m) c)) k i j+tm (cF p m c) k i j=Tn ps k i j:=λk i j=>by let h1:=EY (p:=p) (m:=m) (s:=c) (k:=k) (i:=i) (j:=j) Jl.symm;rw[yv U,hT,<-h1];lia
   let Jn:∀y∈qs.set a (cF p (aS (pAt p c) m) c),Dr (B+2*(l++[t]).length) L0 L1 L2 y:=λy hy=>by
    let Je:B+2*l.length<=B+2*(l++[t]).length:=by rw[I7,LY];lia
    rcases Qa hy with h|h
    ·show(L y h).mono Je
    ·rw[h];calc(hd.mono Je).set (AL Jl.symm) ?_;let:=(hd.at (s:=c)).less Js;show this.mono (by rw[I7,LY];lia)
   let Jw:Dr (B+2*(l++[t]).length) L0 L1 L2 (cF p m c):=by
    let Je:B+2*l.length<=B+2*(l++[t]).length:=by rw[I7,LY];lia
    show(hd.mono Je).set Jl (Js.mono (by rw[I7,LY];lia))
   let Jx:(qs.set a (cF p (aS (pAt p c) m) c)).length=qs.length:=Ro;generalize qs.set a (cF p (aS (pAt p c) m) c)=us at Jt Jn Jx Jc;nofun;refine⟨by rw[hH];lia,?_⟩
   refine tK O ⟨by rw[hH];lia,.inr trivial,by rw[hH,LS,iU,LY];lia,?_⟩
   refine⟨by rw[hH];lia,?_⟩
   refine tL O ⟨.inr trivial,by rw[hH,I7,LS,NX,iU,LY];lia,?_⟩
   rw[tM O];nofun;calc⟨⟨_,Jc⟩,aQ Jc ?_⟩;ac_nf;rw[s9];refine F3 Jm.box ∅ ∅ λw JA w0 w1 Jf=>?_
   let Jy:=Jf.keep pf _ G Jc;let Jf:=Jm.trans Jf;refine⟨_,_,_,_,rfl,rfl,Jy,w0,by rw[s9];lia,by rw[s9,hH];lia,?_⟩
   refine hF _ _ ⟨us.take w.toNat++cF p m c::us.drop w.toNat,_,_,_,_,_,_,_,_,_,_,rfl,Jf.upd Z G,?_,?_,?_,?_⟩
   ·rw[aa,Mj,LL,Qn,Qo]
   ·rw[I7,My,LS,NX,I7,LY];lia
   ·intro y hy
    rcases Lv.mp hy with h|h
    ·show Jn y (OX h)
    ·rcases Lw.mp h with rfl|h
     ·show Jw
     ·show Jn y (OW h)
   ·intro k i j;rw[yu,Jt]
  ·rintro ρ M4 ⟨qs,o5,o6,o7,o8,o9,Jg,Jh,Ji,Jj,Jk,rfl,x4,e4,Ja,L,hT⟩;dsimp only;rw[Mg]at Ja L;nofun;refine⟨_,_,rfl,rfl,by rw[hH];lia,.inr trivial,by rw[hH];simp,?_⟩
   refine q qs pf M4 (λp U=>(L p U).mono ∅) ∅ (λz=>?_) hT x4 Z G e4
   subst z
   cases ps with
   |nil=>show Jo rfl
   |cons _ _=>rw[Nm,My]at Ja;lia
end
section
open L2.Srt
variable{T:List FD}
abbrev eX(xv:Str)(s:Stmt):FD:=⟨"_law_lengths_of",s,[xv],1,
 (.cons (.ret (.tup (.cons (.bin .mul (.ix (.var 0) (.int 0)) (.ix (.var 0) (.int 1))) (.cons (.bin .mul (.ix (.var 0) (.int 1)) (.ix (.var 0) (.int 2))) (.cons (.bin .mul (.ix (.var 0) (.int 0)) (.ix (.var 0) (.int 2))) .nil)))))
 .nil)⟩
def vC(hf:T[f]?=S (eX xv s))(j:1<=n){x y z:Nat}(hx:x<=1000)(B:y<=1000)(q:Q (.tup [.int (x*y:Nat),.int (y*z:Nat),.int (x*z:Nat)]) M):phi T n f [.tup [.int x,.int y,.int z]] M Q:=by
 refine ao ∅ hf rfl (ρ:=[S _]) rfl ?_
 unfold eX;nofun;refine⟨_,rfl,_,rfl,gi ∅,_,rfl,_,rfl,gi ∅,_,rfl,_,rfl,gi ∅,by rw[hH];lia,?_⟩
 rw[PD,PD,PD]at q;show q
abbrev iV(s:Stmt):FD:=⟨"_law_seven",s,[],0,
 (.cons (.ret (.lst (.cons (.tup (.cons (.tup (.cons (.int 1) (.cons (.int 0) (.cons (.int 0) (.cons (.int 1) .nil))))) (.cons (.tup (.cons (.int 1) (.cons (.int 0) (.cons (.int 0) (.cons (.int 1) .nil))))) (.cons (.tup (.cons (.int 1) (.cons (.int 0) (.cons (.int 0) (.cons (.int 1) .nil))))) .nil)))) (.cons (.tup (.cons (.tup (.cons (.int 0) (.cons (.int 0) (.cons (.int 1) (.cons (.int 1) .nil))))) (.cons (.tup (.cons (.int 1) (.cons (.int 0) (.cons (.int 0) (.cons (.int 0) .nil))))) (.cons (.tup (.cons (.int 0) (.cons (.int 0) (.cons (.int 1) (.cons (.neg (.int 1)) .nil))))) .nil)))) (.cons (.tup (.cons (.tup (.cons (.int 1) (.cons (.int 0) (.cons (.int 0) (.cons (.int 0) .nil))))) (.cons (.tup (.cons (.int 0) (.cons (.int 1) (.cons (.int 0) (.cons (.neg (.int 1)) .nil))))) (.cons (.tup (.cons (.int 0) (.cons (.int 1) (.cons (.int 0) (.cons (.int 1) .nil))))) .nil)))) (.cons (.tup (.cons (.tup (.cons (.int 0) (.cons (.int 0) (.cons (.int 0) (.cons (.int 1) .nil))))) (.cons (.tup (.cons (.neg (.int 1)) (.cons (.int 0) (.cons (.int 1) (.cons (.int 0) .nil))))) (.cons (.tup (.cons (.int 1) (.cons (.int 0) (.cons (.int 1) (.cons (.int 0) .nil))))) .nil)))) (.cons (.tup (.cons (.tup (.cons (.int 1) (.cons (.int 1) (.cons (.int 0) (.cons (.int 0) .nil))))) (.cons (.tup (.cons (.int 0) (.cons (.int 0) (.cons (.int 0) (.cons (.int 1) .nil))))) (.cons (.tup (.cons (.neg (.int 1)) (.cons (.int 1) (.cons (.int 0) (.cons (.int 0) .nil))))) .nil)))) (.cons (.tup (.cons (.tup (.cons (.neg (.int 1)) (.cons (.int 0) (.cons (.int 1) (.cons (.int 0) .nil))))) (.cons (.tup (.cons (.int 1) (.cons (.int 1) (.cons (.int 0) (.cons (.int 0) .nil))))) (.cons (.tup (.cons (.int 0) (.cons (.int 0) (.cons (.int 0) (.cons (.int 1) .nil))))) .nil)))) (.cons (.tup (.cons (.tup (.cons (.int 0) (.cons (.int 1) (.cons (.int 0) (.cons (.neg (.int 1)) .nil))))) (.cons (.tup (.cons (.int 0) (.cons (.int 0) (.cons (.int 1) (.cons (.int 1) .nil))))) (.cons (.tup (.cons (.int 1) (.cons (.int 0) (.cons (.int 0) (.cons (.int 0) .nil))))) .nil)))) .nil)))))))))
 .nil)⟩
def yz(hf:T[f]?=S (iV s))(j:1<=n)(q:∀p,M p=Y->Q (.ref p) (ad M p (.lst (seven.map prD)))):phi T n f [] M Q:=by
 refine ao ∅ hf rfl (ρ:=[]) rfl ?_
 unfold iV;let z:0+1+1+1+1<=Ls:=by rw[hH];lia
 let B:0+1+1+1<=Ls:=by rw[hH];lia
 let F:0+1+1+1+1+1+1+1<=Ls:=by rw[hH];lia
 nofun
 repeat refine⟨by assumption,?_⟩
 show q
abbrev tN(T:List FD)(k f:Nat):Prop:=∀{n m p:Nat} {M:Mem} {Q:QD},n<=50->m<=50->p<=50->(∀(L:List Tm) d M',L.Perm (cZ n m p)->Ge M M'->M d=Y->M' d=S (.dct WX (L.map kcD))->Q (.ref d) M')->phi T k f [.tup [.int n,.int m,.int p]] M Q
abbrev nF(T:List FD)(n f:Nat):Prop:=∀{b:WZ} {L0 L1 L2 most:Nat} {B:Int},(1<=B/\B<=100)->L0<=100->L1<=100->L2<=100->most<=20->∀{ps:List Pr},(∀p∈ps,Dr B L0 L1 L2 p)->ps≠[]->ps.length<=10000->∀{y0 y1 y2:D} {pp:WZ} {M:Mem} {Q:QD},Box b M->pp≠b->M pp=S (.lst (ps.map prD))->
 (∀(qs:List Pr) pf M',(∀p∈qs,Dr (B+2*most) L0 L1 L2 p)->qs.length<=ps.length+most->qs≠[]->(∀k i j,Tn qs k i j=Tn ps k i j)->Bx b M M'->M pf=Y->pf≠b->M' pf=S (.lst (qs.map prD))->Q (.tup [y0,y1,y2,.ref pf]) M')->
 phi T n f [.ref b,.tup [y0,y1,y2],.ref pp,.int most] M Q
abbrev nG(T:List FD)(cap n f:Nat):Prop:=∀{L0 L1 L2:Nat},L0<=1000->L1<=1000->L2<=1000->∀{L:List Tm},(L.map (·.1)).Nodup->L.length<=1000000->L.length<=cap->∀{d:WZ} {M:Mem} {Q:QD},M d=S (.dct WX (L.map kcD))->
 (∀(rs:List Tm) p M',rs.Perm L->Ge M M'->M p=Y->M' p=S (.lst ((rs.map (plP L0 L1 L2)).map prD))->Q (.ref p) M')->phi T n f [.tup [.int L0,.int L1,.int L2],.ref d] M Q
abbrev jM(xv:Str)(s:Stmt)(ft fd fv fl fp fs:Nat):FD:=⟨"_law_tables",s,["_law_box_here",xv,"_law_most","_law_lengths"],3,
 (.cons (.ite (.and (.cons (.cmp .eq (.var 1) (.tup (.cons (.int 2) (.cons (.int 2) (.cons (.int 2) .nil))))) (.cons (.cmp .eq (.call ft (.cons (.var 0) (.cons (.int 2) .nil))) (.int 0)) .nil))) (.cons (.ret (.call fd (.cons (.var 0) (.cons (.tup (.cons (.int 4) (.cons (.int 4) (.cons (.int 4) .nil)))) (.cons (.call fv .nil) (.cons (.var 2) .nil))))))
 .nil) .nil)
 (.cons (.asg (.name 3) (.call fl (.cons (.var 1) .nil)))
 (.cons (.ret (.call fd (.cons (.var 0) (.cons (.var 3) (.cons (.call fp (.cons (.var 3) (.cons (.call fs (.cons (.var 1) .nil)) .nil))) (.cons (.var 2) .nil))))))
 .nil)))⟩
def AM:∀p∈seven,Dr 1 4 4 4 p:=by
 intro p j;let h:∀p∈seven,(p.1.length=4/\p.2.1.length=4/\p.2.2.length=4)/\(∀x∈p.1,-1<=x/\x<=1)/\(∀x∈p.2.1,-1<=x/\x<=1)/\(∀x∈p.2.2,-1<=x/\x<=1):=by decide
 let⟨⟨a,b,c⟩,d,e,g⟩:=h p j;show⟨a,b,c,d,e,g⟩
def rl{L:Nat}{k:Int}:Within 1 (one L k):=λx hx=>by
 unfold one at hx;let⟨h,_,rfl⟩:=LI.mp hx
 split<;>lia
def gA{p:Nat}:(cZ n m p).length=n*(m*p):=by unfold cZ;rw[CN,Mg]
def Dm{p:Nat}{t:Tm}(h:t∈cZ n m p):(0<=t.1.1/\t.1.1<(n*p:Nat))/\(0<=t.1.2.1/\t.1.2.1<(n*m:Nat))/\(0<=t.1.2.2/\t.1.2.2<(m*p:Nat)):=by let⟨a,b,c,j,q,z,rfl⟩:=lK h;let h1:=qO j z;let h2:=qO j q;let B:=qO q z;unfold cy;dsimp only;lia
def EZ{t:Tm}(h:t.2=1):Dr 1 L0 L1 L2 (plP L0 L1 L2 t):=by
 refine⟨iR,iR,by unfold plP;rw[s9];show iR,rl,rl,λx hx=>?_⟩
 unfold plP at hx;dsimp only at hx;rw[h]at hx;let⟨y,j,rfl⟩:=LI.mp hx;let:=rl y j;lia
def yA{fv fs:Nat}{sv sl:Stmt}(hf:T[f]?=S (jM xv s ft fd fv fl fp fs))(Jb:cB T (n-1) ft)(Ja:nF T (n-1) fd)(Jc:T[fv]?=S (iV sv))(Jd:T[fl]?=S (eX xv sl))(Je:nG T cap (n-1) fp)(Jf:tN T (n-1) fs)(hn:2<=n){x y z:Nat}(hx:1<=x/\x<=50)(hy:1<=y/\y<=50)(hz:1<=z/\z<=50)(h1:x*y<=100)(h2:y*z<=100)(h3:x*z<=100)(h4:x*(y*z)<=10000)(h5:x*(y*z)<=cap)(hm:most<=20)(hb:Box b M)(q:∀(qs:List Pr) pf M',(∀p∈qs,Dr (1+2*most) (x*y) (y*z) (x*z) p)->qs.length<=x*(y*z)+most->(∀k i j,Tn qs k i j=cf (cZ x y z) (k,i,j))->Bx b M M'->M pf=Y->pf≠b->M' pf=S (.lst (qs.map prD))->Q (.tup [.int (x*y:Nat),.int (y*z:Nat),.int (x*z:Nat),.ref pf]) M'):
 phi T n f [.ref b,.tup [.int x,.int y,.int z],.int most] M Q:=by
 let bne:∀{M':Mem} {p:WZ},Box b M'->M' p=Y->p≠b:=λJg F3 w=>by let⟨_,_,_,e⟩:=Jg;rw[<-w,F3]at e;cases e
 refine ao ∅ hf rfl (ρ:=[S _,S _,S _,Y]) rfl ?_
 unfold jM;refine ce (λρ M'=>ρ=[S (.ref b),S (.tup [.int x,.int y,.int z]),S (.int most),Y]/\Bx b M M') (λR hR=>?_) ?_
 ·ac_nf;refine⟨by rw[hH];lia,.tuple [.int x,.int y,.int z],.tuple [.int 2,.int 2,.int 2],rfl,rfl,?_⟩
  refine⟨_,rfl,?_⟩
  by_cases h:x=2/\y=2/\z=2
  ·let⟨rfl,rfl,rfl⟩:=h;rw[if_pos (by rfl)]
   refine Jb hb (·) (·) λv M1 _ _ Z=>?_
   ac_nf
   by_cases hv:v=0
   ·rw[if_pos (by simp[hv])]
    nofun;refine⟨by rw[hH];lia,?_⟩
    refine yz Jc ∅ λp F3=>?_
    let g2:=Ge.new (o:=.lst (seven.map prD)) F3;let e2:=aa (M:=M1) (a:=p) (o:=.lst (seven.map prD));generalize ad M1 p (.lst (seven.map prD))=M2 at g2 e2⊢;let x2:=Z.ge g2;refine Ja (B:=1) ∅ ∅ ∅ ∅ hm AM (by simp[seven]) (by simp[seven]) x2.box (bne Z.box F3) e2 λqs pf M3 hq J Jh O x3 U F e3=>?_
    refine q qs pf M3 hq (by simp[seven]at J;lia) (λk i j=>?_) (x2.trans x3) (x2.none U F) F e3
    rw[O,AK]
   ·rw[if_neg (by simp[hv])]
    show hR _ _ ⟨rfl,Z⟩
  ·rw[if_neg]
   ·show hR _ _ ⟨rfl,Bx.refl hb⟩
   ·intro w;simp[Md,MA]at w;show h ∅
 ·rintro ρ M1 ⟨rfl,Z⟩;nofun;refine vC Jd ∅ ∅ ∅ ?_
  nofun;refine Jf ∅ ∅ ∅ λL d M2 hL g2 hd e2=>?_
  let Ji:(L.map (·.1)).Nodup:=(hL.map _).nodup_iff.mpr eW;let hlen:=hL.length_eq;rw[gA]at hlen;refine Je ∅ ∅ ∅ Ji ∅ ∅ e2 λrs p M3 Jj g3 F3 e3=>?_
  let x3:=Z.ge (g2.trans g3);let Jk:=bne (Z.ge g2).box F3;let G:=Jj.trans hL;refine Ja (B:=1) ∅ h1 h2 h3 hm (ps:=rs.map (plP (x*y) (y*z) (x*z))) ?_ ?_ ?_ x3.box Jk e3 λqs pf M4 hq J Jh O x4 U F e4=>?_
  ·intro u hu;let⟨t,ht,rfl⟩:=LI.mp hu;let⟨a,b',c,_,_,_,rfl⟩:=lK (G.mem_iff.mp ht);show EZ rfl
  ·intro w;let:=congrArg OE w;rw[s9,G.length_eq,gA,Nm]at this;let:1*(1*1)<=x*(y*z):=NS hx.1 (NS hy.1 hz.1);lia
  ·rw[s9,G.length_eq,gA];lia
  ·refine q qs pf M4 hq (by rw[s9,G.length_eq,gA]at J;show J) (λk i j=>?_) (x3.trans x4) (x3.none U F) F e4
   rw[O,rh λt ht=>Dm (G.mem_iff.mp ht)];show CK G
end
section
namespace K37
abbrev ag(i:Nat):Stmt:=PySem.Challenge.pw_fewtimes_k37_walked.main.body.getD i (.Pass ⟨0,0,0,0⟩)
abbrev d0:FD:=iP (ag 4)
abbrev d1:FD:=eU (ag 5)
abbrev d2:FD:=iJ (ag 7)
abbrev d3:FD:=cL (ag 8)
abbrev d4:FD:=di (ag 9)
abbrev d5:FD:=jC (ag 10) 2 3
abbrev d6:FD:=iK (ag 11)
abbrev d7:FD:=dU (ag 12) 4
abbrev d8:FD:=lQ (ag 13) 1 6 7
abbrev d9:FD:=jE (ag 14) 5 8
abbrev d10:FD:=lZ (ag 15)
abbrev d11:FD:=gw (ag 16)
abbrev d12:FD:=gx (ag 17) 4 3
abbrev d13:FD:=i5 (ag 18) 11 12
abbrev d14:FD:=jK (ag 20) 9 0 10 13
abbrev d15:FD:=kP (ag 22)
abbrev b16:MSs:=
 (.cons (.asg (.name 2) (.bin .mod (.bin .mul (.bin .add (.bin .add (.bin .mod (.var 0) (.int 1000000007)) (.bin .mul (.int 7) (.var 1))) (.int 1)) (.int 48271)) (.int 2147483647)))
 (.cons (.asg (.name 3) (.bin .mod (.bin .mul (.var 2) (.bin .add (.bin .add (.bin .mod (.var 2) (.int 1009)) (.var 1)) (.int 3))) (.int 998244353)))
 (.cons (.ret (.bin .fdiv (.bin .mod (.bin .add (.bin .mul (.var 3) (.int 39373)) (.var 2)) (.int 2147483629)) (.int 64)))
 .nil)))
abbrev d16:FD:=⟨"_law_mixed",ag 23,["_law_number","_law_k","_law_once","_law_twice"],2,b16⟩
abbrev d17:FD:=vd (ag 24) 15 16
abbrev d18:FD:=qM (ag 25) 16
abbrev d19:FD:=fM "_law_due_here" (ag 26) 19
abbrev d20:FD:=m9 "_law_sizes" (ag 27)
abbrev d21:FD:=eX "_law_sizes" (ag 28)
abbrev d22:FD:=jL (ag 29)
abbrev d23:FD:=i8 "_law_sums" .sortk "_law_number" (ag 30) 22
abbrev d24:FD:=gr "_law_turned_about" "_law_part" "_law_number" (ag 31)
abbrev d25:FD:=i9 "_law_number" "_law_less_here" (ag 32) 18 24
abbrev d26:FD:=iV (ag 33)
abbrev d27:FD:=jM "_law_sizes" (ag 34) 18 25 26 21 23 20
abbrev d28:FD:=qY "_law_number" (ag 35) 18
abbrev d29:FD:=qZ (ag 36) 18 28
abbrev d30:FD:=gr "_law_about" "_law_part" "_law_number" (ag 37)
abbrev d31:FD:=i3 "_law_number" (ag 38) 30
abbrev d32:FD:=jG (ag 39)
abbrev b33:MSs:=
 (.cons (.for (.name 1) (.rng1 (.blt .len (.cons (.var 0) .nil))) (.cons (.ite (.cmp .ne (.comp [Y] ["_law_part"] (.last (.seq (.ix (.var 0) (.var 1))) (.name 0) (.cons (.cmp .eq (.var 0) (.bin .mul (.tup (.cons (.int 0) .nil)) (.blt .len (.cons (.var 0) .nil)))) .nil) (.var 0))) (.lst .nil)) (.cons (.ret (.bin .add (.sl (.var 0) .none (.some (.var 1))) (.sl (.var 0) (.some (.bin .add (.var 1) (.int 1))) .none)))
 .nil) .nil)
 .nil))
 (.cons (.for (.name 2) (.rng1 (.blt .len (.cons (.var 0) .nil))) (.cons (.for (.name 3) (.rng2 (.bin .add (.var 2) (.int 1)) (.blt .len (.cons (.var 0) .nil))) (.cons (.asg (.name 4) (.comp [Y,(S 0),(S 2),(S 3)] ["_law_side","_law_products","_law_r","_law_s"] (.last (.rng1 (.int 3)) (.name 0) (.cons (.cmp .eq (.ix (.ix (.var 1) (.var 2)) (.var 0)) (.ix (.ix (.var 1) (.var 3)) (.var 0))) .nil) (.var 0))))
 (.cons (.ite (.cmp .gt (.blt .len (.cons (.var 4) .nil)) (.int 1)) (.cons (.asg (.name 5) (.ix (.comp [Y,(S 4)] ["_law_side","_law_alike"] (.last (.seq (.tup (.cons (.int 2) (.cons (.int 1) (.cons (.int 0) .nil))))) (.name 0) (.cons (.or (.cons (.cmp .ninS (.var 0) (.var 1)) (.cons (.cmp .eq (.var 1) (.lst (.cons (.int 0) (.cons (.int 1) (.cons (.int 2) .nil))))) .nil))) .nil) (.var 0))) (.int 0)))
 (.cons (.asg (.name 6) (.blt .list (.cons (.ix (.var 0) (.var 2)) .nil)))
 (.cons (.put (.var 6) (.var 5) (.call 32 (.cons (.ix (.ix (.var 0) (.var 2)) (.var 5)) (.cons (.ix (.ix (.var 0) (.var 3)) (.var 5)) .nil))))
 (.cons (.asg (.name 7) (.bin .add (.sl (.var 0) (.some (.bin .add (.var 2) (.int 1))) (.some (.var 3))) (.sl (.var 0) (.some (.bin .add (.var 3) (.int 1))) .none)))
 (.cons (.ret (.bin .add (.bin .add (.sl (.var 0) .none (.some (.var 2))) (.lst (.cons (.blt .tuple (.cons (.var 6) .nil)) .nil))) (.var 7)))
 .nil))))) .nil)
 .nil)))
 .nil))
 (.cons (.ret .non)
 .nil)))
abbrev d33:FD:=⟨"_law_less",ag 40,["_law_products","_law_at","_law_r","_law_s","_law_alike","_law_third","_law_both","_law_rest"],1,b33⟩
abbrev d34:FD:=i4 "_law_scheme" (ag 41) 31 33
abbrev d35:FD:=jJ (ag 42)
abbrev d36:FD:=gy (ag 43) 32 30
abbrev d37:FD:=i6 (ag 44) 18
abbrev d38:FD:=m8 (ag 45) 34 35 36
abbrev b39:MSs:=
 (.cons (.for (.name 1) (.rng1 (.bin .add (.int 1) (.blt .min2 (.cons (.int 3) (.cons (.blt .len (.cons (.var 0) .nil)) .nil))))) (.cons (.asg (.name 2) (.call 17 (.cons (.var 0) (.cons (.var 1) .nil))))
 (.cons (.asg (.name 3) (.call 29 (.cons (.var 2) (.cons (.int 8) .nil))))
 (.cons (.ite (.cmp .eq (.call 18 (.cons (.var 2) (.cons (.int 3) .nil))) (.int 0)) (.cons (.asg (.name 3) (.call 27 (.cons (.var 2) (.cons (.ix (.lst (.cons (.tup (.cons (.int 2) (.cons (.int 2) (.cons (.int 2) .nil)))) (.cons (.tup (.cons (.int 1) (.cons (.int 2) (.cons (.int 2) .nil)))) (.cons (.tup (.cons (.int 2) (.cons (.int 1) (.cons (.int 2) .nil)))) .nil)))) (.call 18 (.cons (.var 2) (.cons (.int 3) .nil)))) (.cons (.int 2) .nil)))))
 .nil) .nil)
 (.cons (.asg (.name 4) (.call 37 (.cons (.var 2) .nil)))
 (.cons (.asg (.name 5) (.lst (.cons (.blt .list (.cons (.ix (.var 3) (.int 3)) .nil)) (.cons (.blt .list (.cons (.var 4) .nil)) .nil))))
 (.cons (.asg (.name 6) (.call 38 (.cons (.var 3) (.cons (.var 4) .nil))))
 (.cons (.for (.name 7) (.rng1 (.int 2)) (.cons (.asg (.name 8) (.call 14 (.cons (.var 3) (.cons (.var 4) .nil))))
 (.cons (.ite (.not (.tru (.call 19 (.cons (.var 8) (.cons (.var 6) .nil))))) (.cons (.ret (.bl WY))
 .nil) .nil)
 (.cons (.drop (.meth .append (.ix (.var 8) (.int 0)) (.int 0)))
 (.cons (.drop (.meth .append (.ix (.ix (.var 8) (.int 1)) (.int 3)) (.tup .nil)))
 .nil)))))
 (.cons (.ite (.cmp .ne (.lst (.cons (.ix (.var 3) (.int 3)) (.cons (.var 4) .nil))) (.var 5)) (.cons (.ret (.bl WY))
 .nil) .nil)
 .nil)))))))))
 (.cons (.ret (.bl WX))
 .nil))
abbrev d39:FD:=⟨"law",ag 46,["_law_script","_law_k","_law_box_here","_law_scheme","_law_numbers_here","_law_kept","_law_due_here","_law_turn","_law_found"],1,b39⟩
abbrev tab:List FD:=[d0,d1,d2,d3,d4,d5,d6,d7,d8,d9,d10,d11,d12,d13,d14,d15,d16,d17,d18,d19,d20,d21,d22,d23,d24,d25,d26,d27,d28,d29,d30,d31,d32,d33,d34,d35,d36,d37,d38,d39]
abbrev rn:List (Str×D):=[]
end K37
end
section
namespace K37
def F1:∀d∈tab,va (tab.map (·.name)) rn d=WX:=by decide +kernel
noncomputable abbrev PA(K:Frag)(x:Str)(f:WZ):Prop:=QL K Nq x=S (S (.ref f))
noncomputable abbrev PL(K:Frag)(f:WZ)(x:Str)(s:Stmt)(oc:gV)(od:Option WZ)(kV dc pm:gV)(an:Option WZ)(cd ct:gV)(sl:Array (Option gV)):Prop:=K.lookup f=S ⟨oc,od,.func (Pq x x (dW s) (cj s) (aF s) .none kV dc pm an cd ct),sl⟩
noncomputable abbrev PC(K:Frag)(c:gV)(x:Str):Prop:=RT K c x=WX
noncomputable abbrev PK(K:Frag)(f:WZ):Prop:=PY K (.ref f)=WX
def all_mk{l:Tr}{w:Mn}{K:Frag}{h:Heap}{mg:Str->Option gV}{fa:WZ}(X:K.In h)(G:h.Ns Nq mg)(hfa:mg "law"=S (.ref fa))(z:∀x∈bltNames,QL K Nq x=S Y)(a0:PA K "times_in" f0)(l0:PL K f0 "times_in" (ag 4) oc0 od0 kV0 dc0 pm0 an0 cd0 ct0 sl0)(c0:PC K cd0 "times_in")(k0:PK K f0)(a1:PA K "has_noughts" f1)(l1:PL K f1 "has_noughts" (ag 5) oc1 od1 kV1 dc1 pm1 an1 cd1 ct1 sl1)(c1:PC K cd1 "has_noughts")(k1:PK K f1)(a2:PA K "begins_below" f2)(l2:PL K f2 "begins_below" (ag 7) oc2 od2 kV2 dc2 pm2 an2 cd2 ct2 sl2)(c2:PC K cd2 "begins_below")(k2:PK K f2)(a3:PA K "negated" f3)(l3:PL K f3 "negated" (ag 8) oc3 od3 kV3 dc3 pm3 an3 cd3 ct3 sl3)(c3:PC K cd3 "negated")(k3:PK K f3)(a4:PA K "added" f4)(l4:PL K f4 "added" (ag 9) oc4 od4 kV4 dc4 pm4 an4 cd4 ct4 sl4)(c4:PC K cd4 "added")(k4:PK K f4)(a5:PA K "signed" f5)(l5:PL K f5 "signed" (ag 10) oc5 od5 kV5 dc5 pm5 an5 cd5 ct5 sl5)(c5:PC K cd5 "signed")(k5:PK K f5)(a6:PA K "first_alike" f6)(l6:PL K f6 "first_alike" (ag 11) oc6 od6 kV6 dc6 pm6 an6 cd6 ct6 sl6)(c6:PC K cd6 "first_alike")(k6:PK K f6)(a7:PA K "put_together" f7)(l7:PL K f7 "put_together" (ag 12) oc7 od7 kV7 dc7 pm7 an7 cd7 ct7 sl7)(c7:PC K cd7 "put_together")(k7:PK K f7)(a8:PA K "one_fewer" f8)(l8:PL K f8 "one_fewer" (ag 13) oc8 od8 kV8 dc8 pm8 an8 cd8 ct8 sl8)(c8:PC K cd8 "one_fewer")(k8:PK K f8)(a9:PA K "tidied" f9)(l9:PL K f9 "tidied" (ag 14) oc9 od9 kV9 dc9 pm9 an9 cd9 ct9 sl9)(c9:PC K cd9 "tidied")(k9:PK K f9)(a10:PA K "flips" f10)(l10:PL K f10 "flips" (ag 15) oc10 od10 kV10 dc10 pm10 an10 cd10 ct10 sl10)(c10:PC K cd10 "flips")(k10:PK K f10)(a11:PA K "is_flip" f11)(l11:PL K f11 "is_flip" (ag 16) oc11 od11 kV11 dc11 pm11 an11 cd11 ct11 sl11)(c11:PC K cd11 "is_flip")(k11:PK K f11)(a12:PA K "flipped_pair" f12)(l12:PL K f12 "flipped_pair" (ag 17) oc12 od12 kV12 dc12 pm12 an12 cd12 ct12 sl12)(c12:PC K cd12 "flipped_pair")(k12:PK K f12)(a13:PA K "flipped" f13)(l13:PL K f13 "flipped" (ag 18) oc13 od13 kV13 dc13 pm13 an13 cd13 ct13 sl13)(c13:PC K cd13 "flipped")(k13:PK K f13)(a14:PA K "walked" f14)(l14:PL K f14 "walked" (ag 20) oc14 od14 kV14 dc14 pm14 an14 cd14 ct14 sl14)(c14:PC K cd14 "walked")(k14:PK K f14)(a15:PA K "_law_cell_at" f15)(l15:PL K f15 "_law_cell_at" (ag 22) oc15 od15 kV15 dc15 pm15 an15 cd15 ct15 sl15)(c15:PC K cd15 "_law_cell_at")(k15:PK K f15)(a16:PA K "_law_mixed" f16)(l16:PL K f16 "_law_mixed" (ag 23) oc16 od16 kV16 dc16 pm16 an16 cd16 ct16 sl16)(c16:PC K cd16 "_law_mixed")(k16:PK K f16)(a17:PA K "_law_box" f17)(l17:PL K f17 "_law_box" (ag 24) oc17 od17 kV17 dc17 pm17 an17 cd17 ct17 sl17)(c17:PC K cd17 "_law_box")(k17:PK K f17)(a18:PA K "_law_take" f18)(l18:PL K f18 "_law_take" (ag 25) oc18 od18 kV18 dc18 pm18 an18 cd18 ct18 sl18)(c18:PC K cd18 "_law_take")(k18:PK K f18)(a19:PA K "_law_same" f19)(l19:PL K f19 "_law_same" (ag 26) oc19 od19 kV19 dc19 pm19 an19 cd19 ct19 sl19)(c19:PC K cd19 "_law_same")(k19:PK K f19)(a20:PA K "_law_table_sums" f20)(l20:PL K f20 "_law_table_sums" (ag 27) oc20 od20 kV20 dc20 pm20 an20 cd20 ct20 sl20)(c20:PC K cd20 "_law_table_sums")(k20:PK K f20)(a21:PA K "_law_lengths_of" f21)(l21:PL K f21 "_law_lengths_of" (ag 28) oc21 od21 kV21 dc21 pm21 an21 cd21 ct21 sl21)(c21:PC K cd21 "_law_lengths_of")(k21:PK K f21)(a22:PA K "_law_single" f22)(l22:PL K f22 "_law_single" (ag 29) oc22 od22 kV22 dc22 pm22 an22 cd22 ct22 sl22)(c22:PC K cd22 "_law_single")(k22:PK K f22)(a23:PA K "_law_plainly" f23)(l23:PL K f23 "_law_plainly" (ag 30) oc23 od23 kV23 dc23 pm23 an23 cd23 ct23 sl23)(c23:PC K cd23 "_law_plainly")(k23:PK K f23)(a24:PA K "_law_turned_about" f24)(l24:PL K f24 "_law_turned_about" (ag 31) oc24 od24 kV24 dc24 pm24 an24 cd24 ct24 sl24)(c24:PC K cd24 "_law_turned_about")(k24:PK K f24)(a25:PA K "_law_dressed" f25)(l25:PL K f25 "_law_dressed" (ag 32) oc25 od25 kV25 dc25 pm25 an25 cd25 ct25 sl25)(c25:PC K cd25 "_law_dressed")(k25:PK K f25)(a26:PA K "_law_seven" f26)(l26:PL K f26 "_law_seven" (ag 33) oc26 od26 kV26 dc26 pm26 an26 cd26 ct26 sl26)(c26:PC K cd26 "_law_seven")(k26:PK K f26)(a27:PA K "_law_tables" f27)(l27:PL K f27 "_law_tables" (ag 34) oc27 od27 kV27 dc27 pm27 an27 cd27 ct27 sl27)(c27:PC K cd27 "_law_tables")(k27:PK K f27)(a28:PA K "_law_pool" f28)(l28:PL K f28 "_law_pool" (ag 35) oc28 od28 kV28 dc28 pm28 an28 cd28 ct28 sl28)(c28:PC K cd28 "_law_pool")(k28:PK K f28)(a29:PA K "_law_near_scheme" f29)(l29:PL K f29 "_law_near_scheme" (ag 36) oc29 od29 kV29 dc29 pm29 an29 cd29 ct29 sl29)(c29:PC K cd29 "_law_near_scheme")(k29:PK K f29)(a30:PA K "_law_about" f30)(l30:PL K f30 "_law_about" (ag 37) oc30 od30 kV30 dc30 pm30 an30 cd30 ct30 sl30)(c30:PC K cd30 "_law_about")(k30:PK K f30)(a31:PA K "_law_signed" f31)(l31:PL K f31 "_law_signed" (ag 38) oc31 od31 kV31 dc31 pm31 an31 cd31 ct31 sl31)(c31:PC K cd31 "_law_signed")(k31:PK K f31)(a32:PA K "_law_added" f32)(l32:PL K f32 "_law_added" (ag 39) oc32 od32 kV32 dc32 pm32 an32 cd32 ct32 sl32)(c32:PC K cd32 "_law_added")(k32:PK K f32)(a33:PA K "_law_less" f33)(l33:PL K f33 "_law_less" (ag 40) oc33 od33 kV33 dc33 pm33 an33 cd33 ct33 sl33)(c33:PC K cd33 "_law_less")(k33:PK K f33)(a34:PA K "_law_tidied" f34)(l34:PL K f34 "_law_tidied" (ag 41) oc34 od34 kV34 dc34 pm34 an34 cd34 ct34 sl34)(c34:PC K cd34 "_law_tidied")(k34:PK K f34)(a35:PA K "_law_flips" f35)(l35:PL K f35 "_law_flips" (ag 42) oc35 od35 kV35 dc35 pm35 an35 cd35 ct35 sl35)(c35:PC K cd35 "_law_flips")(k35:PK K f35)(a36:PA K "_law_flipped" f36)(l36:PL K f36 "_law_flipped" (ag 43) oc36 od36 kV36 dc36 pm36 an36 cd36 ct36 sl36)(c36:PC K cd36 "_law_flipped")(k36:PK K f36)(a37:PA K "_law_numbers" f37)(l37:PL K f37 "_law_numbers" (ag 44) oc37 od37 kV37 dc37 pm37 an37 cd37 ct37 sl37)(c37:PC K cd37 "_law_numbers")(k37:PK K f37)(a38:PA K "_law_due" f38)(l38:PL K f38 "_law_due" (ag 45) oc38 od38 kV38 dc38 pm38 an38 cd38 ct38 sl38)(c38:PC K cd38 "_law_due")(k38:PK K f38)(a39:PA K "law" f39)(l39:PL K f39 "law" (ag 46) oc39 od39 kV39 dc39 pm39 an39 cd39 ct39 sl39)(c39:PC K cd39 "law")(k39:PK K f39)
 : ∃fd:PX,(∀(s:tv) (v:gV),UU s fd ⟨[v],[]⟩ [("_law_script",v)])/\∀base:Heap,K.In base->base.Ns Nq mg->eB l.prog w K mg base CX0 40 fa fd ["_law_script"] (lSp K (phi tab 40 39)):=by
 let e:=hfa.symm.trans (LG X G a39)
 cases e
 let O:Bg K mg tab rn:=by
  refine⟨λx hx=>PySem.W.mg_none_of X G (z x hx),?_,F1,?_⟩
  ·intro i d hd
   match i,hd with
   |0,hd=>cases hd;show⟨_,_,ah l0 c0 k0,LG X G a0,a0,(ah l0 c0 k0).binds λ_ _ _ _ _ _ us hl=>by let⟨u0,rfl⟩:=bg us hl;rfl⟩
   |1,hd=>cases hd;show⟨_,_,ah l1 c1 k1,LG X G a1,a1,(ah l1 c1 k1).binds λ_ _ _ _ _ _ us hl=>by let⟨u0,rfl⟩:=bg us hl;rfl⟩
   |2,hd=>cases hd;show⟨_,_,ah l2 c2 k2,LG X G a2,a2,(ah l2 c2 k2).binds λ_ _ _ _ _ _ us hl=>by let⟨u0,rfl⟩:=bg us hl;rfl⟩
   |3,hd=>cases hd;show⟨_,_,ah l3 c3 k3,LG X G a3,a3,(ah l3 c3 k3).binds λ_ _ _ _ _ _ us hl=>by let⟨u0,rfl⟩:=bg us hl;rfl⟩
   |4,hd=>cases hd;show⟨_,_,ah l4 c4 k4,LG X G a4,a4,(ah l4 c4 k4).binds λ_ _ _ _ _ _ us hl=>by let⟨u0,u1,rfl⟩:=bw us hl;rfl⟩
   |5,hd=>cases hd;show⟨_,_,ah l5 c5 k5,LG X G a5,a5,(ah l5 c5 k5).binds λ_ _ _ _ _ _ us hl=>by let⟨u0,rfl⟩:=bg us hl;rfl⟩
   |6,hd=>cases hd;show⟨_,_,ah l6 c6 k6,LG X G a6,a6,(ah l6 c6 k6).binds λ_ _ _ _ _ _ us hl=>by let⟨u0,rfl⟩:=bg us hl;rfl⟩
   |7,hd=>cases hd;show⟨_,_,ah l7 c7 k7,LG X G a7,a7,(ah l7 c7 k7).binds λ_ _ _ _ _ _ us hl=>by let⟨u0,u1,rfl⟩:=bw us hl;rfl⟩
   |8,hd=>cases hd;show⟨_,_,ah l8 c8 k8,LG X G a8,a8,(ah l8 c8 k8).binds λ_ _ _ _ _ _ us hl=>by let⟨u0,rfl⟩:=bg us hl;rfl⟩
   |9,hd=>cases hd;show⟨_,_,ah l9 c9 k9,LG X G a9,a9,(ah l9 c9 k9).binds λ_ _ _ _ _ _ us hl=>by let⟨u0,rfl⟩:=bg us hl;rfl⟩
   |10,hd=>cases hd;show⟨_,_,ah l10 c10 k10,LG X G a10,a10,(ah l10 c10 k10).binds λ_ _ _ _ _ _ us hl=>by let⟨u0,rfl⟩:=bg us hl;rfl⟩
   |11,hd=>cases hd;show⟨_,_,ah l11 c11 k11,LG X G a11,a11,(ah l11 c11 k11).binds λ_ _ _ _ _ _ us hl=>by let⟨u0,u1,rfl⟩:=bw us hl;rfl⟩
   |12,hd=>cases hd;show⟨_,_,ah l12 c12 k12,LG X G a12,a12,(ah l12 c12 k12).binds λ_ _ _ _ _ _ us hl=>by let⟨u0,u1,u2,rfl⟩:=vc us hl;rfl⟩
   |13,hd=>cases hd;show⟨_,_,ah l13 c13 k13,LG X G a13,a13,(ah l13 c13 k13).binds λ_ _ _ _ _ _ us hl=>by let⟨u0,u1,rfl⟩:=bw us hl;rfl⟩
   |14,hd=>cases hd;show⟨_,_,ah l14 c14 k14,LG X G a14,a14,(ah l14 c14 k14).binds λ_ _ _ _ _ _ us hl=>by let⟨u0,u1,rfl⟩:=bw us hl;rfl⟩
   |15,hd=>cases hd;show⟨_,_,ah l15 c15 k15,LG X G a15,a15,(ah l15 c15 k15).binds λ_ _ _ _ _ _ us hl=>by let⟨u0,u1,rfl⟩:=bw us hl;rfl⟩
   |16,hd=>cases hd;show⟨_,_,ah l16 c16 k16,LG X G a16,a16,(ah l16 c16 k16).binds λ_ _ _ _ _ _ us hl=>by let⟨u0,u1,rfl⟩:=bw us hl;rfl⟩
   |17,hd=>cases hd;show⟨_,_,ah l17 c17 k17,LG X G a17,a17,(ah l17 c17 k17).binds λ_ _ _ _ _ _ us hl=>by let⟨u0,u1,rfl⟩:=bw us hl;rfl⟩
   |18,hd=>cases hd;show⟨_,_,ah l18 c18 k18,LG X G a18,a18,(ah l18 c18 k18).binds λ_ _ _ _ _ _ us hl=>by let⟨u0,u1,rfl⟩:=bw us hl;rfl⟩
   |19,hd=>cases hd;show⟨_,_,ah l19 c19 k19,LG X G a19,a19,(ah l19 c19 k19).binds λ_ _ _ _ _ _ us hl=>by let⟨u0,u1,rfl⟩:=bw us hl;rfl⟩
   |20,hd=>cases hd;show⟨_,_,ah l20 c20 k20,LG X G a20,a20,(ah l20 c20 k20).binds λ_ _ _ _ _ _ us hl=>by let⟨u0,rfl⟩:=bg us hl;rfl⟩
   |21,hd=>cases hd;show⟨_,_,ah l21 c21 k21,LG X G a21,a21,(ah l21 c21 k21).binds λ_ _ _ _ _ _ us hl=>by let⟨u0,rfl⟩:=bg us hl;rfl⟩
   |22,hd=>cases hd;show⟨_,_,ah l22 c22 k22,LG X G a22,a22,(ah l22 c22 k22).binds λ_ _ _ _ _ _ us hl=>by let⟨u0,u1,rfl⟩:=bw us hl;rfl⟩
   |23,hd=>cases hd;show⟨_,_,ah l23 c23 k23,LG X G a23,a23,(ah l23 c23 k23).binds λ_ _ _ _ _ _ us hl=>by let⟨u0,u1,rfl⟩:=bw us hl;rfl⟩
   |24,hd=>cases hd;show⟨_,_,ah l24 c24 k24,LG X G a24,a24,(ah l24 c24 k24).binds λ_ _ _ _ _ _ us hl=>by let⟨u0,rfl⟩:=bg us hl;rfl⟩
   |25,hd=>cases hd;show⟨_,_,ah l25 c25 k25,LG X G a25,a25,(ah l25 c25 k25).binds λ_ _ _ _ _ _ us hl=>by let⟨u0,u1,u2,u3,rfl⟩:=FV us hl;rfl⟩
   |26,hd=>cases hd;show⟨_,_,ah l26 c26 k26,LG X G a26,a26,(ah l26 c26 k26).binds λ_ _ _ _ _ _ us hl=>by let⟨rfl⟩:=FU us hl;rfl⟩
   |27,hd=>cases hd;show⟨_,_,ah l27 c27 k27,LG X G a27,a27,(ah l27 c27 k27).binds λ_ _ _ _ _ _ us hl=>by let⟨u0,u1,u2,rfl⟩:=vc us hl;rfl⟩
   |28,hd=>cases hd;show⟨_,_,ah l28 c28 k28,LG X G a28,a28,(ah l28 c28 k28).binds λ_ _ _ _ _ _ us hl=>by let⟨u0,u1,rfl⟩:=bw us hl;rfl⟩
   |29,hd=>cases hd;show⟨_,_,ah l29 c29 k29,LG X G a29,a29,(ah l29 c29 k29).binds λ_ _ _ _ _ _ us hl=>by let⟨u0,u1,rfl⟩:=bw us hl;rfl⟩
   |30,hd=>cases hd;show⟨_,_,ah l30 c30 k30,LG X G a30,a30,(ah l30 c30 k30).binds λ_ _ _ _ _ _ us hl=>by let⟨u0,rfl⟩:=bg us hl;rfl⟩
   |31,hd=>cases hd;show⟨_,_,ah l31 c31 k31,LG X G a31,a31,(ah l31 c31 k31).binds λ_ _ _ _ _ _ us hl=>by let⟨u0,rfl⟩:=bg us hl;rfl⟩
   |32,hd=>cases hd;show⟨_,_,ah l32 c32 k32,LG X G a32,a32,(ah l32 c32 k32).binds λ_ _ _ _ _ _ us hl=>by let⟨u0,u1,rfl⟩:=bw us hl;rfl⟩
   |33,hd=>cases hd;show⟨_,_,ah l33 c33 k33,LG X G a33,a33,(ah l33 c33 k33).binds λ_ _ _ _ _ _ us hl=>by let⟨u0,rfl⟩:=bg us hl;rfl⟩
   |34,hd=>cases hd;show⟨_,_,ah l34 c34 k34,LG X G a34,a34,(ah l34 c34 k34).binds λ_ _ _ _ _ _ us hl=>by let⟨u0,rfl⟩:=bg us hl;rfl⟩
   |35,hd=>cases hd;show⟨_,_,ah l35 c35 k35,LG X G a35,a35,(ah l35 c35 k35).binds λ_ _ _ _ _ _ us hl=>by let⟨u0,rfl⟩:=bg us hl;rfl⟩
   |36,hd=>cases hd;show⟨_,_,ah l36 c36 k36,LG X G a36,a36,(ah l36 c36 k36).binds λ_ _ _ _ _ _ us hl=>by let⟨u0,u1,rfl⟩:=bw us hl;rfl⟩
   |37,hd=>cases hd;show⟨_,_,ah l37 c37 k37,LG X G a37,a37,(ah l37 c37 k37).binds λ_ _ _ _ _ _ us hl=>by let⟨u0,rfl⟩:=bg us hl;rfl⟩
   |38,hd=>cases hd;show⟨_,_,ah l38 c38 k38,LG X G a38,a38,(ah l38 c38 k38).binds λ_ _ _ _ _ _ us hl=>by let⟨u0,u1,rfl⟩:=bw us hl;rfl⟩
   |39,hd=>cases hd;show⟨_,_,ah l39 c39 k39,LG X G a39,a39,(ah l39 c39 k39).binds λ_ _ _ _ _ _ us hl=>by let⟨u0,rfl⟩:=bg us hl;rfl⟩
   |i+40,hd=>simp[tab]at hd
  ·intro x i hx;simp only[rn,Lw,LW,or_false,Rg]at hx
 calc⟨Pq "law" "law" (dW (ag 46)) (cj (ag 46)) (aF (ag 46)) .none kV39 dc39 pm39 an39 cd39 ct39,λs v=>.of_eq rfl,λbase _ _=>?_⟩;show xU O 40 39 d39 _ _ rfl (ah l39 c39 k39)
def walk {l:Tr}{q:LR}{loose:List Str}{XP:(Str->Option gV)->Heap->Prop}{YP:Mn->Heap->Prop}{d:DefRec}{K:Params->Frag}(hn:l.most=S 63)(hdf:d.params.defaults=[])(hlaw:∀ns:List Int,ns.length<=63->phi tab 40 39 [.con (ns.map D.int)] (fun _=>Y) fun d _=>d=.bl WX)(hY:∀(w:Mn) (h:Heap),YP w h->(K w.params).In h)(F:∀(w:Mn) (mg:Str->Option gV) (fa:WZ) (h:Heap),(K w.params).In h->h.Ns Nq mg->mg d.name=S (.ref fa)->
   ∃fd:PX,(∀(s:tv) (u:gV),UU s fd ⟨[u],[]⟩ [("_law_script",u)])/\∀base:Heap,(K w.params).In base->base.Ns Nq mg->eB l.prog w (K w.params) mg base CX0 40 fa fd ["_law_script"] (lSp (K w.params) (phi tab 40 39))):
 PySem.W.WalkO q loose XP YP l.row.toRowW d [] (λf vs=>We f vs):=
 L2.walk_of (n:=63) (k:=40) (x:="_law_script") (CX:=λ_=>CX0) (sp:=λw=>lSp (K w.params) (phi tab 40 39)) hn (·) hdf ⟨rfl,by decide,by decide⟩ hY F (λw H a ns hl hO hS=>EJ hO hS (hlaw ns hl)) λ_ _ _ _ _ z=>z
end K37
end
section
namespace K37
open L2.Srt
variable{n:Nat}
def tO(j:1<=n):ve tab n 16:=xX (x:="_law_number") (s:=ag 23) rfl j
def cG(j:2<=n):cB tab n 18:=λz h1 h2 q=>CI (s:=ag 25) (fm:=16) rfl (tO ∅) j z h1 h2 q
variable{M:Mem}
def AN{m:Nat}(j:n+1<=m){u v:D}{Q:QD}(h:Sm M n u v)(q:∀M',Ge M M'->Q (.bl WX) M'):phi tab m 19 [u,v] M Q:=Dd (s:=ag 26) (y:="_law_due_here") rfl j h q
def vD(j:2<=n):dl tab n 5:=λz q=>yc (s:=ag 10) (sb:=ag 7) (sn:=ag 8) (fb:=2) (fn:=3) rfl rfl rfl j z q
def yB(q:3<=n):fK tab n 8:=λj h0 z B=>Au (s:=ag 13) (sn:=ag 5) (sa:=ag 11) (st':=ag 12) (sd:=ag 9) (fn:=1) (fa:=6) (ft:=7) (fd:=4) rfl rfl rfl rfl rfl q j.ne j.lp (by let:=j.n;lia) h0 z B
def vE(z:4<=n):kS tab n 9:=λj h0 q=>ye (s:=ag 14) (fs:=5) (fo:=8) rfl (vD ∅) (yB ∅) ∅ j h0 q
def yC(j:1<=n):iQ tab n 10:=λz B h0 q=>AE (s:=ag 15) rfl j z.ne B h0 q
def rW(j:3<=n):cM tab n 13:=vy (s:=ag 18) (si:=ag 16) (sp:=ag 17) (sa:=ag 9) (sn:=ag 8) (fi:=11) (fp:=12) (fa:=4) (fn:=3) rfl rfl rfl rfl rfl j
def nH(j:1<=n):jF tab n 30:=λz q=>nB (nm:="_law_about") (xp:="_law_part") (xn:="_law_number") (s:=ag 37) rfl j z q
def vF(j:1<=n):tJ tab n 24:=λz q=>nB (nm:="_law_turned_about") (xp:="_law_part") (xn:="_law_number") (s:=ag 31) rfl j z q
def rX(j:2<=n):dl tab n 31:=vp (xn:="_law_number") (s:=ag 38) (fa:=30) rfl (nH ∅) ∅
def kT(z:1<=n):gu tab n 32:=λB j q=>yf (s:=ag 39) rfl z B j q
def AO(j:2<=n):fK tab n 33:=Az (xp:="_law_part") (s:=ag 40) (fa:=32) rfl (kT ∅) ∅
def rY(z:4<=n):kS tab n 34:=λj h0 q=>vq (s:=ag 41) (xs:="_law_scheme") (fs:=31) (fl:=33) rfl (rX ∅) (AO ∅) ∅ j h0 q
def vG(j:1<=n):iQ tab n 35:=λ_ z h0 q=>ym (s:=ag 42) rfl j z h0 q
def rp(j:2<=n):cM tab n 36:=rV (s:=ag 43) (fa:=32) (fb:=30) rfl (kT ∅) (nH ∅) ∅
def AQ(B:3<=n):yi tab n 28:=λj z q=>D8 (s:=ag 35) (xn:="_law_number") (ft:=18) rfl (cG ∅) ∅ j z q
def yD(j:1<=n):tN tab n 20:=λa b c q=>AI (s:=ag 27) (xs:="_law_sizes") rfl j a b c q
def vH(j:1<=n):rj tab n 22:=λz q=>yt (s:=ag 29) rfl j z q
def rZ(B:2<=n):nG tab 1000000 n 23:=λa b c _ h1 h2 j _ _ _ z q=>vA Hf (s:=ag 30) (xs:="_law_sums") (y:="_law_number") (fs:=22) rfl (vH ∅) ∅ a b c h1 h2 j z q
def se(z:3<=n):nF tab n 25:=λa b c d e _ f g h _ _ _ _ _ _ i j k q=>vB (s:=ag 32) (xv:="_law_number") (xl:="_law_less_here") (ft:=18) (fa:=24) rfl (cG ∅) (vF ∅) ∅ a b c d e f g h i j k q
def Dn{x y z:Int}{a b c d:WZ}{qs:List Pr}{cs:List Int}(q:qs.length<=100000)(B:cs.length<=100000)(F:M a=S (.lst (qs.map prD)))(G:M b=S (.lst (qs.map prD)))(h:∀p∈qs,p.1.length<=100000/\p.2.1.length<=100000/\p.2.2.length<=100000)(j:M c=S (.lst (cs.map .int)))(hd:M d=S (.lst (cs.map .int))):
 Sm M 5 (.tup [.ref c,.tup [.int x,.int y,.int z,.ref a]]) (.tup [.ref d,.tup [.int x,.int y,.int z,.ref b]]):=by
 refine⟨by simp,rfl,λk u v h1 h2=>?_⟩
 let:k=0∨k=1:=by let:=(J4.mp h1).1;simp at this;lia
 rcases this with rfl|rfl
 ·cases h1;cases h2
  refine⟨_,_,j,hd,by rw[s9];show B,rfl,λk u v h1 h2=>?_⟩
  rw[h1]at h2;cases h2;rw[Ly]at h1;let⟨i,_,rfl⟩:=O8.mp h1;show Sm.int
 ·cases h1;cases h2
  show Df q F G h
def yE{p a b:WZ}{ps:List Pr}{rs:List Int}(h:M p=S (.lst [.ref a,.ref b]))(j:M a=S (.lst (ps.map prD)))(q:M b=S (.lst (rs.map .int))):rb 16 M (.ref p)=S (.list [.list (ps.map fg),.list (rs.map .int)]):=by
 let e1:rb 15 M (.ref a)=S (.list (ps.map fg)):=by rw[cc j,xW];rfl
 let e2:rb 15 M (.ref b)=S (.list (rs.map .int)):=by rw[cc q,cn];rfl
 rw[cc h];simp[aD,e1,e2]
def Do{ps:List Pr}{rs:List Int}:Md (.list [.list (ps.map fg),.list (rs.map .int)]) (.list [.list (ps.map fg),.list (rs.map .int)])=WX:=by simp[Md,MA,EX,AH]
def law_holds(ns:List Int)(hl:ns.length<=63):phi tab 40 39 [.con (ns.map D.int)] (λ_=>Y) λd _=>d=.bl WX:=by
 refine ao ∅ rfl rfl (ρ:=[S _,Y,Y,Y,Y,Y,Y,Y,Y]) rfl ?_
 unfold d39 L2.Mi.K37.b39;nofun;rw[s9];refine⟨by split<;>lia,by split<;>lia,?_⟩
 refine aI (I:=λl ρ M'=>∃o1 o2 o3 o4 o5 o6 U F3,ρ=[S (.con (ns.map D.int)),o1,o2,o3,o4,o5,o6,U,F3]) aR ⟨_,_,_,_,_,_,_,_,rfl⟩ (λ_ _ _ hI=>trivial) ?_ ?_
 ·rintro l k r ρ M8 e ⟨o1,o2,o3,o4,o5,o6,U,F3,rfl⟩;calc⟨_,rfl,λF hF=>?_⟩;nofun;refine EO (s:=ag 24) (fc:=15) (fm:=16) (sc:=ag 22) rfl rfl (tO ∅) ∅ ∅ λbx x y hp=>?_
  nofun;refine D9 (s:=ag 36) (ft:=18) (fp:=28) (most:=8) rfl (cG ∅) (AQ ∅) ∅ ∅ ⟨_,_,_,aa⟩ λL0 L1 L2 ps pr M1 hN hlen x1 Jr B mr=>?_
  refine ce (I:=λρ M'=>∃(L0 L1 L2:Nat) (ps:List Pr) (pr:WZ),Tdy L0 L1 L2 ps/\ps.length<=100/\pr≠bx/\Box bx M'/\M' pr=S (.lst (ps.map prD))/\ρ=[S (.con (ns.map D.int)),S (.int (k:Nat)),S (.ref bx),S (.tup [.int (L0:Nat),.int (L1:Nat),.int (L2:Nat),.ref pr]),o4,o5,o6,U,F3]) (λR hR=>?_) ?_
  ·ac_nf;refine cG ∅ x1.box (·) (·) λw M2 w0 w1 x2=>?_
   ac_nf;let Js:=x2.keep _ _ B mr;let hT:Tdy L0 L1 L2 ps:=⟨hN.l,by let:=hN.h0;lia,by let:=hN.h1;lia,by let:=hN.h2;lia,∅⟩
   split
   ·nofun;refine⟨by rw[hH];lia,by rw[hH];lia,by rw[hH];lia,by rw[hH];lia,λpz Z=>?_⟩
    let Jt:=bH x2.box Z;let x3:=x2.ge (Ge.new (o:=.lst [D.tup [.int 2,.int 2,.int 2],.tup [.int 1,.int 2,.int 2],.tup [.int 2,.int 1,.int 2]]) Z);refine cG ∅ x3.box (·) (·) λj M3 j0 j1 x4=>?_
    let mz:M3 pz=S (.lst [D.tup [.int 2,.int 2,.int 2],.tup [.int 1,.int 2,.int 2],.tup [.int 2,.int 1,.int 2]]):=x4.keep _ _ Jt aa;let y3:=x3.trans x4;let go:∀(n m p:Nat),(1<=n/\n<=2)->(1<=m/\m<=2)->(1<=p/\p<=2)->phi tab (40-1) 27 [.ref bx,.tup [.int (n:Nat),.int (m:Nat),.int (p:Nat)],.int 2] M3 λd M4=>R [S (.con (ns.map D.int)),S (.int (k:Nat)),S (.ref bx),S d,o4,o5,o6,U,F3] M4:=by
     intro n m p hn hm hp;let q1:n*m<=2*2:=NS hn.2 hm.2;let q2:m*p<=2*2:=NS hm.2 hp.2;let q3:n*p<=2*2:=NS hn.2 hp.2;let q4:n*(m*p)<=2*(2*2):=NS hn.2 q2;let r1:1*1<=n*m:=NS hn.1 hm.1;let r2:1*1<=m*p:=NS hm.1 hp.1;let r3:1*1<=n*p:=NS hn.1 hp.1;refine yA (s:=ag 34) (sv:=ag 33) (sl:=ag 28) (cap:=1000000) (ft:=18) (fd:=25) (fv:=26) (fl:=21) (fp:=23) (fs:=20) (most:=2) rfl (cG ∅) (se ∅) rfl rfl (rZ ∅) (yD ∅) ∅ ∅ ∅ ∅ ∅ ∅ ∅ ∅ ∅ ∅ y3.box λqs pq M4 Je JE _ x5 JF Jh mq=>?_
     show hR _ _ ⟨n*m,m*p,n*p,qs,pq,⟨λu hu=>⟨(Je u hu).l0,(Je u hu).l1,(Je u hu).l2⟩,∅,∅,∅,∅⟩,∅,Jh,x5.box,mq,rfl⟩
    let:j=0∨j=1∨j=2:=∅
    rcases this with rfl|rfl|rfl
    ·show al mz (d:=.tup [.int 2,.int 2,.int 2]) rfl (go 2 2 2 ∅ ∅ ∅)
    ·show al mz (d:=.tup [.int 1,.int 2,.int 2]) rfl (go 1 2 2 ∅ ∅ ∅)
    ·show al mz (d:=.tup [.int 2,.int 1,.int 2]) rfl (go 2 1 2 ∅ ∅ ∅)
   ·show hR _ _ ⟨L0,L1,L2,ps,pr,hT,∅,B,x2.box,Js,rfl⟩
  clear hN hlen x1 Jr B mr;rintro ρ M2 ⟨L0,L1,L2,ps,pr,hT,hlen,B,bb,mr,rfl⟩;nofun;refine vz (s:=ag 44) (ft:=18) rfl (cG ∅) ∅ bb λnn pn M3 JG x3 Ju JC mn=>?_
  let mr:=x3.keep _ _ B mr;clear x3 bb Ju;nofun;calc⟨_,rfl,_,_,rfl,af mr,λq Ji=>?_⟩;let Ja:=Ge.new (o:=.lst (ps.map prD)) Ji;calc⟨_,_,rfl,af (Ja _ _ mn),λG Jj=>?_⟩;let Jb:=Ge.new (o:=.lst (nn.map .int)) Jj;refine⟨by rw[hH];lia,λpk Jk=>?_⟩
  let gk:=Ge.new (o:=.lst [.ref q,.ref G]) Jk;let J:=gk _ _ (Jb _ _ (aa (M:=M3) (a:=q) (o:=.lst (ps.map prD))));let L:=gk _ _ (aa (M:=ad M3 q (.lst (ps.map prD))) (a:=G) (o:=.lst (nn.map .int)));let mk:=aa (M:=ad (ad M3 q (.lst (ps.map prD))) G (.lst (nn.map .int))) (a:=pk) (o:=.lst [.ref q,.ref G]);let mr:=gk _ _ (Jb _ _ (Ja _ _ mr));let mn:=gk _ _ (Jb _ _ (Ja _ _ mn));generalize ad (ad (ad M3 q (.lst (ps.map prD))) G (.lst (nn.map .int))) pk (.lst [.ref q,.ref G])=M4 at mk J L mr mn;clear gk Ja Jb Ji Jj Jk;nofun;refine AG (s:=ag 45) (fd:=34) (fl:=35) (ff:=36) rfl (rY ∅) (vG ∅) (rp ∅) ∅ hT ∅ ∅ mr mn λqs ws pb pc M5 Jv Jl JH g5 _ _ JI mb mc Jm=>?_
  let mr:=g5 _ _ mr;let mn:=g5 _ _ mn;let mk:=g5 _ _ mk;let J:=g5 _ _ J;let L:=g5 _ _ L;clear g5;let JJ:ws.2.1.length<=10000:=Jm.n;let Jw:∀p∈ws.2.1,p.1.length<=100000/\p.2.1.length<=100000/\p.2.2.length<=100000:=Jm.lp;nofun;refine⟨by decide,by decide,?_⟩
  let Jx:aW 0 (2:Int).toNat=[0,1].map λi:Nat=>D.int (i:Nat):=rfl;rw[Jx];refine aI (f:=λi:Nat=>D.int (i:Nat)) (ys:=[0,1]) (I:=λl ρ M'=>∃U F3:Option D,ρ=[S (.con (ns.map D.int)),S (.int (k:Nat)),S (.ref bx),S (.tup [.int (L0:Nat),.int (L1:Nat),.int (L2:Nat),.ref pr]),S (.ref pn),S (.ref pk),S (.tup [.ref pc,.tup [.int (L0:Nat),.int (L1:Nat),.int (L2:Nat),.ref pb]]),U,F3]/\M' pr=S (.lst (ps.map prD))/\M' pn=S (.lst (nn.map .int))/\M' pk=S (.lst [.ref q,.ref G])/\M' q=S (.lst (ps.map prD))/\M' G=S (.lst (nn.map .int))/\M' pb=S (.lst (ws.2.1.map prD))/\M' pc=S (.lst (ws.2.2.map .int))) rfl
   ⟨U,F3,rfl,mr,mn,mk,J,L,mb,mc⟩ (λ_ _ _ _=>trivial) ?_ ?_
  ·rintro l' i' r' ρ M6 e' ⟨U,F3,rfl,mr,mn,mk,J,L,mb,mc⟩;calc⟨_,rfl,λF2 Jy=>?_⟩;nofun;refine yq (s:=ag 20) (sm:=ag 4) (fd:=9) (fm:=0) (fl:=10) (ff:=13) rfl rfl (vE ∅) (yC ∅) (rW ∅) ∅ hT ∅ ∅ mr mn λJK JL Jc Jd M7 Jn Jf g7 Jz JA Jo Jp Jg JD=>?_
   cases Jn.uniq Jv
   cases Jf.uniq Jl
   let neq:∀{a:WZ} {o:O},M6 a=S o->a≠Jc/\a≠Jd:=λ{a o} h=>⟨(λz=>by rw[z,Jz]at h;cases h),(λz=>by rw[z,JA]at h;cases h)⟩
   nofun;refine AN (n:=5) ∅ (Dn ∅ ∅ Jp (g7 _ _ mb) Jw Jg (g7 _ _ mc)) λM9 g9=>?_
   calc⟨WX,rfl,?_⟩;rw[if_neg (·)]
   let JB:=g7.trans g9;nofun;refine⟨_,rfl,⟨_,rfl,_,g9 _ _ Jg⟩,Jd,_,_,rfl,rfl,g9 _ _ Jg,by rw[s9,hH];lia,?_⟩
   let Jq:ad M9 Jd (.lst (ws.2.2.map .int++[.int 0])) Jc=S (.lst (ws.2.1.map prD)):=by rw[aj (Ne.symm Jo)];show g9 _ _ Jp
   nofun;refine⟨_,rfl,_,_,rfl,rfl,⟨_,rfl,_,Jq⟩,by rw[hH];lia,Jc,_,_,rfl,rfl,Jq,by rw[s9,hH];lia,?_⟩
   let kp:∀{a:WZ} {o:O},M6 a=S o->ad (ad M9 Jd (.lst (ws.2.2.map .int++[.int 0]))) Jc (.lst (ws.2.1.map prD++[.tup []])) a=S o:=λ{a o} h=>by rw[aj (neq h).1,aj (neq h).2];show JB _ _ h
   show Jy _ _ ⟨_,_,rfl,kp mr,kp mn,kp mk,kp J,kp L,kp mb,kp mc⟩
  ·rintro ρ M6 ⟨U,F3,rfl,mr,mn,mk,J,L,mb,mc⟩;nofun;refine⟨_,rfl,by rw[hH];lia,λpz Z=>?_⟩
   let gz:=Ge.new (o:=.lst [.ref pr,.ref pn]) Z;calc⟨_,_,yE aa (gz _ _ mr) (gz _ _ mn),yE (gz _ _ mk) (gz _ _ J) (gz _ _ L),?_⟩;rw[Do];calc⟨_,rfl,?_⟩;rw[if_neg (·)]
   show hF _ _ ⟨_,_,_,_,_,_,_,_,rfl⟩
 ·rintro ρ M8 ⟨o1,o2,o3,o4,o5,o6,U,F3,rfl⟩;dsimp only;nofun
end K37
end
end
end Mi
end
end L2
end
namespace PySem.W.Fast
def tw12886093579474552569:True:=trivial
def tw6554583329031867866:True:=trivial
def tw6775501393024261351:True:=trivial
def tw18302039709668842525:True:=trivial
def tw13550927267158503232:True:=trivial
def tw11122755909167305240:True:=trivial
def tw8881665976297336527:True:=trivial
def tw2788518236412427415:True:=trivial
def tw11671088230112395956:True:=trivial
def tw15375142144309013561:True:=trivial
def tw7166855057306861026:True:=trivial
def tw8011622899982737228:True:=trivial
def tw12571883059177840685:True:=trivial
def tw2549444955241748336:True:=trivial
def tw7686365889132952023:True:=trivial
def tw8347364550698535279:True:=trivial
def tw16940795359410278520:True:=trivial
def tw6019475058315015990:True:=trivial
def tw1983352568031962414:True:=trivial
def tw401865570701602195:True:=trivial
def tw9542684438632899077:True:=trivial
def tw5900283312335617933:True:=trivial
def tw10235195655901565058:True:=trivial
def tw16643881726353171338:True:=trivial
def tw7904356954355195579:True:=trivial
def tw13581987758207434085:True:=trivial
def tw16940895870721973278:True:=trivial
def tw13507745831302509523:True:=trivial
def tw5716353230407895855:True:=trivial
def tw16058573540786853324:True:=trivial
def tw12675064064519051503:True:=trivial
def tw9772792803766293310:True:=trivial
def tw1499941126012039947:True:=trivial
def tw9909777896850083544:True:=trivial
def tw18034990809630203588:True:=trivial
def tw15584582495409065647:True:=trivial
def tw941240169960632134:True:=trivial
def tw6674977068733308326:True:=trivial
def tw12119998724086068859:True:=trivial
def tw17698176174054459285:True:=trivial
def tw10414685885827296180:True:=trivial
def tw3682681981356341202:True:=trivial
def tw7804156584759723300:True:=trivial
def tw12219521898234586636:True:=trivial
def tw8345670417963528825:True:=trivial
def tw16573457755391614927:True:=trivial
def tw139499530026701691:True:=trivial
def tw16284869121230030816:True:=trivial
def tw3259890440791062042:True:=trivial
def tw16824725080644502581:True:=trivial
def tw18249179915665458840:True:=trivial
def tw9321249254502670535:True:=trivial
def tw18331938153761127814:True:=trivial
def tw6987183759049102548:True:=trivial
def tw5897108779605083668:True:=trivial
def tw7690115888894294935:True:=trivial
def tw4652425353001512961:True:=trivial
def tw8810359894551794079:True:=trivial
def tw17614196603757437998:True:=trivial
def tw5559866356965421545:True:=trivial
def tw14209284673303637275:True:=trivial
def tw7443260223103605864:True:=trivial
def tw17562496782397866564:True:=trivial
def tw1066547235355786929:True:=trivial
def tw11558841570303854668:True:=trivial
def tw13011370560904507076:True:=trivial
def tw146249355740907263:True:=trivial
def tw8686753704018889282:True:=trivial
def tw5994678361796258791:True:=trivial
def tw4109099509264531612:True:=trivial
def tw9920861470507212087:True:=trivial
def tw12376961978993202991:True:=trivial
def tw1354830877619528848:True:=trivial
def tw17056664070905537857:True:=trivial
def tw15390336696641301534:True:=trivial
def tw16345526459175159468:True:=trivial
def tw15964082128789166066:True:=trivial
def tw10418606243131535687:True:=trivial
def tw1393997202810221400:True:=trivial
def tw13898146930048550891:True:=trivial
def tw8787289813085719175:True:=trivial
def tw14296541657158931344:True:=trivial
def tw4621769410390038764:True:=trivial
def tw3276890303736731559:True:=trivial
def tw16155583567214787931:True:=trivial
def tw6750061052175236272:True:=trivial
def tw10941128308482763881:True:=trivial
def tw13392706819299554609:True:=trivial
def tw16836836407798387844:True:=trivial
def tw11348941228706327814:True:=trivial
def tw17180528629301390808:True:=trivial
def tw2584423010035991432:True:=trivial
def tw12970746060952017944:True:=trivial
def tw13269814947148994234:True:=trivial
def tw8574401254663957981:True:=trivial
def tw17255182452556810309:True:=trivial
def tw1068555876172275921:True:=trivial
def tw5759729828007137611:True:=trivial
def tw10870314602414308341:True:=trivial
def tw509681742869058093:True:=trivial
def tw9921320817413711590:True:=trivial
def tw16311345534518467274:True:=trivial
def tw11507626369927684820:True:=trivial
def tw1710160604402406566:True:=trivial
def tw13302622317289146016:True:=trivial
def tw139225033641145683:True:=trivial
def tw11805305763565869970:True:=trivial
end PySem.W.Fast
set_option tactic.hygienic true
open PySem.W in
set_option maxRecDepth 100000 in
set_option maxHeartbeats 0 in
theorem PySem.Challenge.cw_fewtimes_k37_walked_holds : PySem.Challenge.rw_fewtimes_k37_walked.Holds := by
 w_on;o_law;k_head;(case hw=>w_witness2)
 k_fill
 refine L2.Mi.K37.walk (l:=PySem.Challenge.rw_fewtimes_k37_walked) rfl rfl L2.Mi.K37.law_holds (fun w h Y=>PySem.W.kIn_of Y) ?F
 case F =>
  intro w mg fa h KX G hmg;refine' L2.Mi.K37.all_mk KX G hmg ?z ?_ ?_ ?_ ?_ ?_ ?_ ?_ ?_ ?_ ?_ ?_ ?_ ?_ ?_ ?_ ?_ ?_ ?_ ?_ ?_ ?_ ?_ ?_ ?_ ?_ ?_ ?_ ?_ ?_ ?_ ?_ ?_ ?_ ?_ ?_ ?_ ?_ ?_ ?_ ?_ ?_ ?_ ?_ ?_ ?_ ?_ ?_ ?_ ?_ ?_ ?_ ?_ ?_ ?_ ?_ ?_ ?_ ?_ ?_ ?_ ?_ ?_ ?_ ?_ ?_ ?_ ?_ ?_ ?_ ?_ ?_ ?_ ?_ ?_ ?_ ?_ ?_ ?_ ?_ ?_ ?_ ?_ ?_ ?_ ?_ ?_ ?_ ?_ ?_ ?_ ?_ ?_ ?_ ?_ ?_ ?_ ?_ ?_ ?_ ?_ ?_ ?_ ?_ ?_ ?_ ?_ ?_ ?_ ?_ ?_ ?_ ?_ ?_ ?_ ?_ ?_ ?_ ?_ ?_ ?_ ?_ ?_ ?_ ?_ ?_ ?_ ?_ ?_ ?_ ?_ ?_ ?_ ?_ ?_ ?_ ?_ ?_ ?_ ?_ ?_ ?_ ?_ ?_ ?_ ?_ ?_ ?_ ?_ ?_ ?_ ?_ ?_ ?_ ?_ ?_ ?_ ?_ ?_ ?_ ?_
  case z =>
   intro x hx;simp only [L2.Mi.bltNames,List.mem_cons,List.not_mem_nil,or_false] at hx
   rcases hx with rfl | rfl | rfl | rfl | rfl | rfl | rfl | rfl | rfl | rfl | rfl | rfl | rfl | rfl | rfl | rfl | rfl | rfl | rfl | rfl <;> k_is
  all_goals try (change _=_;k_is)
