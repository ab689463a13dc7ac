import PyProof.Rows.All
import Wide.All
import OpenK.AllK
import Wide.FinOn
import Lean
import PyProof.EqAt
import PyProof.EqKinds
import PyProof.TupleCall
import PyProof.ZipIter
import PyProof.EnumMake
import PyProof.EnumFor
import PyProof.CollectIter
import PyProof.TupleKey
import PyProof.DictRoadsH
import PyProof.P3Eq
import PyProof.Rows.SeqMore
import PyProof.ConsumeWalk
import PyProof.Rows.SortShellK
import PyProof.DictItems
import PyProof.DictWalks
import PyProof.AttrMissHeap
import PyProof.DictIter
import PyProof.MaxThree
import PyProof.SeqI3
import PyProof.DictTruth
import PyProof.Rows.TupDisplay
import PyProof.ListCopy
import PyProof.NeKinds
import PyProof.RaisesDict
import KE.KDictOf
import PyProof.Rows.CallKwBuiltin
import PyProof.DelItemList
import PySem.Challenge.RW_fewtimes_k50_long_numbers
set_option Elab.async false
set_option linter.all false
set_option compiler.extract_closed false
set_option genSizeOf false
set_option bootstrap.genMatcherCode false
set_option maxRecDepth 100000
set_option maxHeartbeats 4000000
open PySem.W (Frag)
open PySem renaming wpAny_bind->gV,Value->i0,Shared->s9,wpAny_pure->z4,sizeLine_eq->I7,sizeLine->LK,wpAny->LR,model->Mj,starEach->Mk,Program->Ml,wpAny_setField_rec->Ms,wpAny_callSpecial?_slot->Mw,wpAny_call_entry->MB,World->MQ,wpAny_field->MR,Around->MU,mem_of_lookup->N5,wpAny_holding->Na,wpAny_newObj_type->Nf,Comprehension->Nl,DictEntry->Nq,wpAny_mono->Nv,mainGlobals->Nw,Paired->NA,assignEach->NB,wpAny_Call_Name_kw->NI,PyData->NM,Builtin->NN,sysModules->O0,binaryOp->O7,wpAny_rule->Oc,wpAny_pyIter_tuple->Od,FuncData->Oe,wpAny_attempt->Ol,wpAny_pyIter_list->Oo,compareOp->Oy,rawInt->Oz,pyNext->OB,cellsFrom->OC,codeAny_mono->OE,wpAny_of_eq->OI,wpAny_seqItems->OJ,isSubtype_type->OK,foldedSetIterable->ON,inplaceOp->OY,wpAny_isInstance->P0,NameKind->P6,firstArgMember->P9,codeAny->Pb,builtinLookup_eq_fast->Pc,wpAny_passesOwn->Ph,codeAny_builtin->Pm,wpAny_truthy_bool->Pn,cLine->Po,wpAny_standAt->Pt,swappedStores->Pu,IsPair->Pz,bootBuiltins->PR,backTo->PV,wpAny_typeOf->PY,wpAny_loadPart'->Qc,wpAny_ite_false->Qe,Arguments->Qj,Operator->Qs,swapsWith->Qy,swapsWithSole->QH,behindInMarks->QI,Reads->QK,typeLookup_type->QP,tupleKind_room_in1->QT,sliceBounds->QZ,Model->R5,wpAny_newTuple->R8,isSubtype_stop->R9,wpAny_ite_true->Rg,call_meets->Rq,entryFor_of_tree->Rt,wpAny_newList->RA,wpAny_updateSeq_pair->RE,codeAny_call_builtin->RF,letOwnedTupleGo->RJ,Keyword->S0,tupleKind->Se,wpAny_newFunctionEnv_cells->Sj,wpAny_binaryOp_repeat_ref->Sy,standAt->SF,getItem->SG,IsZip->SI,wpAny_letGo->SJ,wpAny_pyIter_slot->SK,assignInOrder->SO,wpAny_getItem_list_slice->SQ,attributeBase->SR,wpAny_comprehension_free->SS,wpAny_handled->SU,wpAny_onRaise->SV,noFill_tuple_add->T7,builtinsNs->To,pyIter->Tq,wpAny_pyNext_list_item->Tr,wpAny_call->Ts,IsPart->Tt,seqIndex_neg->Tu,wpAny_getItem_list_neg->Tw,typeIs_int->Tz,IsEnum->TH,wpAny_execs_nil->TR,pushCells_keeps->TX,wpAny_specialOf->U0,wpAny_pyNext_list_end->U2,codeAny_call_function->U3,wpAny_loadName_local->U9,bindArgs->Ub,seqIndex_of->Ud,keywordEach->Ue,newFunctionEnv->Ug,wpAny_throw->Uh,ZipApart->Ui,ReadsAll->Ul,setItem->Uv,BindsTo->Uw,callerA->Ux,valueAt->Uy,wpAny_loadName_cell->Uz,seq_tuple_add->UG,evalPart_none->UH,plainId_quiet->UK,mroOf_keyiter->UL,foldedForSure->UP,typeLookup->UZ,newExc->V3,argsOk->V5,concat_meets->Vg,wpAny_sequenceKey->Vi,newTuple->Vn,wpAny_pyIter_enum->Vq,entryFor->Vr,Result->VF,wpAny_Dict_empty->VH,pushCells->VJ,seqItems?->VL,wpAny_pyIter_zip->VO,IsEnumOut->VP,checkBuiltinCall->VQ,notIterableAtAll->VW,fillsInplaceSlot->VY,unpackItems->W5,atKey->W7,richCompare->W9,wpAny_Name->Wn,bindName->Wo,wpAny_load->Wp,bindL->Wr,bindC->Ws,backToKw->Wu,call->Wv,raiseNew->Wx
open PySem.Heap renaming get?_push_of_some->q7,lt_size->LD,get?_push_size->LF,get?_update_ne->Nb,SameBut->NH,size_push->NT,IsTuple->S8,get?_update_other->Tx,get?_update_self->U4,IsList->Uj,get?_push_cases->Uk,ExtBut->W8
open Bool renaming and_eq_true->r0,false_ne_true->LJ,not_eq_true'->N8,false_eq_true->NS,not_eq_true->Rr,false_or->Rz,and_eq_true_iff->RG,or_eq_true->RU
open List renaming length_map->tv,getElem?_eq_getElem->z0,range->D0,replicate->D1,getElem?_append_right->D2,length_append->J4,pairwise_append->LH,mem_cons->LI,getD_eq_getElem?_getD->LL,size_toArray->LN,getElem?_eq_some_iff->LP,getElem?_map->LQ,mem_map->LU,mem_append->LV,map_cons->LX,getElem?_append_left->LY,append_assoc->LZ,mem_cons_of_mem->Mg,mem_of_getElem?->Mh,length_take->Mm,mem_map_of_mem->Mn,map_append->Mo,mem_append_right->Mp,mem_cons_self->Mr,length_range->Mx,getElem?_range->MD,mem_append_left->MJ,not_mem_nil->MM,toList_toArray->MN,length_cons->MP,map_congr_left->MV,mem_range->MY,length_eq_zero_iff->MZ,length_pos_iff->N6,nodup_iff_pairwise_ne->Nh,getElem?_eq_none->Ni,replicate_succ->Nk,append_nil->Np,flatten_cons->Nr,pairwise_map->Nu,length_replicate->Nx,any_eq_true->ND,drop_eq_getElem_cons->NF,map_map->NJ,nodup_cons->NL,length_singleton->NP,take_append_drop->NQ,find?_cons->NW,take_of_length_le->NY,length->O6,getElem?_take_of_lt->O8,length_nil->O9,dropLast_concat_getLast->Oa,length_drop->Of,mem_iff_getElem->Oh,any_cons->Oj,ext_getElem?->Ov,flatMap_cons->Ox,mem_singleton->OD,all_cons->OG,mem_of_mem_take->OM,getElem?_cons_succ->OO,mem_filter->OP,flatten_append->OT,getElem?_set_self->OU,drop_eq_nil_of_le->OV,lookup_cons->OZ,Perm->P1,mem_flatMap->P2,perm_append_comm->Pe,getLast?_eq_getElem?->Pg,map_nil->Pp,mem_of_mem_drop->Pq,getElem_mem->PM,all_eq_true->PN,find?_cons_of_neg->Q4,getElem?_drop->Q5,filter_append->Q7,of_mem_zip->Q8,forIn_cons->Qb,range_succ->Qi,length_filter_le->Qm,reverse_cons->Qo,nodup_append->Qq,getElem?_set_ne->Qr,lookup->Qv,reverse_reverse->Qw,mem_reverse->Qz,cons_append->QA,length_reverse->QE,flatMap_append->QF,eq_of_mem_replicate->QN,nil_append->QO,sum_append->QS,zip_cons_cons->QU,pairwise_cons->QV,filter_cons_of_pos->R0,filter_cons_of_neg->R3,zipWith->Ra,extract->Rb,reverse_perm->Rc,length_eq_one_iff->Rh,find?_cons_of_pos->Ri,foldl_append->Rj,foldl->Rp,filterMap_cons->RX,reverse_append->RY,forIn_nil->Sn,drop_drop->Ss,mapM_cons->Sv,find?_eq_none->Sx,mem_of_find?_eq_some->SA,take_add_one->SM,getLast?_map->SN,sum_cons->T3,getElem?_replicate->T6,zipIdx_cons->Ta,getElem?_cons_zero->Tg,map_set->TM,zipWith_cons_cons->TN,length_set->TU,foldl_cons->TV,getElem?_reverse->U5,pairwise_reverse->U6,pairwise_flatMap->U8,getElem?_mapIdx->Um,drop_zero->Up,getElem_of_mem->UE,map_take->UQ,mem_filterMap->UU,set_cons_zero->V9,set_cons_succ->Va,drop_length->VR,perm_middle->VS,map_snd_zip->VU,map_flatMap->W1,nodup_range->W2,map_reverse->W4,zipIdx_nil->Wg,find?_some->Wj
open PyProof.Rows renaming wpS_bind->LG,Keyed->LM,pendingOf->Md,arrOf->MK,wpS_forRange->N7,callWith_type1->Nc,SortSt->Ng,kindOf->O1,failedOf->Ot,wpS_modify->Ou,slot_tuple_getitem->OA,get?_update_seq->OS,listUpdate_at->PD,wpS_get->PH,setPending->Qx,SortKind->QL,envOfC->Rm,callWith_builtin1->Ro,mem_zip_self->Sd,assignInOrder_cons->Si,AllBare->SE,seqSlot_of->Tc,subscriptTail_builtinR->Tv,entry_tuple_getitem->UA,subscriptTail->UI,args_tuple_getitem->UY,seqObj->V7,assignInOrder_nil->Vd,listItems_at->Vv,entry_list_iadd'->VV,keyKind'_eq->Wa,seqEpoch_at->Wb,IntsAre->Wm,boot_range->Wq,Subscript_->Wt,mergeAt'->Wy
open Int renaming toNat_natCast->LO,eq_ofNat_of_zero_le->N9,toNat_of_nonneg->PF,natCast_add->QR,emod_lt_of_pos->QW,emod_nonneg->RW,mul_comm->TL,natCast_mul->TZ
open Nat renaming le_refl->LW,ne_of_lt->Mt,lt_of_lt_of_le->Mz,lt_irrefl->Nj,ne_of_gt->Ny,min_eq_left->Nz,le_trans->NG,mul_le_mul->NU,zero_le->Og,mul_le_mul_right->Oi,le_of_lt->PU,succ_mul->PZ,add_assoc->QM,add_mul->R4,div_lt_of_lt_mul->RH,mul_comm->S2,sub_self->Sa,zero_add->Sb,mul_assoc->T5,succ_le_succ->Td,lt_succ_self->Te,div_add_mod->U1,mul_add->Ut,mul_one->Uu,lt_of_le_of_lt->Vb,one_le_two_pow->Vc,lt_succ_of_lt->Vl,pow_succ->VB,div_eq_of_lt->W3,two_pow_pos->Wk,mul_add_div->Wl,not_lt->Ww,succ->WG,mod_lt->WH,max_le->WI
open Array renaming toList_append->Me,toList_push->Mf,getElem?_toList->Mq,length_toList->My,getElem?_eq_getElem->MX,toList_reverse->N3,toList_extract->OL,getElem?_eq_none->Q3,size_append->Qp,toList_inj->Rx,map->Ry,size_push->RV,toList_setIfInBounds->Su,toList->Tp,all_eq_true->Vw,filterMap->Wi
open PySem.Str renaming ofString->Mu
open PySem.W renaming mg_of->Mv,kia_one->NV,codeHdIn->NX,fnOf->OF,keepIn->P5,cellsFrom_some->PX,codeIn->Qu,nsIn->S9,methodObj->SD,instObj->TQ,OpenLaw->TY,lookIn->Ua,codeHd_of_K->UB,callWith_K->UW,codeRec_of->UX,kitx_list->Ve,kitx_dict->Vf,FnAt->Vm,plainGet->VE
open PySem.Value renaming ref->MA,type->N1,none->NZ,bool->UT,int->VC,str->VD
open PySem.NameKind renaming free->MW,cell->OH
open List.Perm renaming append_left->N4,append_right->Nt,of_eq->Qf,refl->Uo
open Option renaming some->NO,map_some->Pk,isSome_iff_exists->Pw,bind_some->PJ,getD_none->T8,join_some->Th,map_eq_some_iff->TB,isSome_some->V1,isSome_map->Vk,bind_none->VZ,join_none->W0
open PySem.PyData renaming canLayAll0->NR,eqv->Oq,depthAll->OQ,depth->Q0,canLay0->Rf,eqvAll->UJ
open PySem.SeqAt renaming readOf->Ob,readOf_eq->OR,eqAt_reads->VT
open PySem.Obj renaming mapSeq->Om,data_mapFields->V2
open PySem.Builtin.Dict_items renaming pairFromOwner->Ow,ownedTupleIsFree->OX,isOneOf->Pa
open PySem.Builtin.List renaming listLengthHint->OW,listTooLong->Py,listFitsIndex->Sw
open PySem.Calls renaming spliced_cons->P4,spliced_nil->Qn,callWith_builtin->R7,evalArgs_plain->RC,Name_function_global->Sg
open PySem.F renaming slot_tuple_iterator_next->P7,slot_enumerate_next->Ql,args_tuple_add_2->QJ,entry_tuple_add->QY,slot_tuple_add->R6,slot_dict_get->Rl,slot_int_rmul->RN,args_tuple_iterator_next_1->RQ,slot_zip_next->RT,plain_extend_loop->RZ,entry_tuple_iterator_next->S4,slot_list_insert->SX,args_dict_get_3->T9,args_enumerate_next_1->Tb,plainAttrs_list->Tf,entry_dict_get->TF,entry_enumerate_next->TJ,slot_dict_items_iter->TK,entry_proto_collect->U7,entry_extend_loop->UD,args_int_rmul_2->Vj,args_zip_next_1->Vo,slot_dict_items->Vy,entry_int_rmul->VG,entry_zip_next->VM,slot_dict_iter->VX,fills_int_mul->Wf,slot_tuple_lt->Wh
open PySem.Builtin.Slice renaming slicePlaces->Pf,sliceAdjust->QB,sliceApplied->Sk
open LawfulBEq renaming eq_of_beq->Pj
open PySem.Builtin.Tuple renaming tupleExact->Px,tupleCompareSizes->Rk,tupleItemsOf->Sl,tupleIsExact->Sm,tupleTooMany->Sr,tupleHashOf->Sz
open PySem.Shared renaming heap->PQ,TypeIs->SW
open ForInStep renaming yield->Q9
open List.cons renaming injEq->Qg
open PySem.Data renaming seq->Qh,fields->W6
open And renaming intro->Qk
open True renaming intro->Qt
open PySem.Builtin.Int renaming intBits->QC
open PySem.Paired renaming length->QG
open PySem.Builtin.Range renaming rangeSize->QX
open PyProof.Rows.SortSt renaming mk'->Ru
open Prod.mk renaming injEq->RB
open PyProof.Rows.IsTup renaming new->Sf
open PySem.Code renaming quiet_builtin->So,builtin->Vx
open List.Pairwise renaming nil->SH
open PySem.Env renaming blockKind->SY,kindOf->V8
open Function renaming comp->T2
open Sum renaming inl->Ti,inr->Tj
open PySem.Around renaming frames_deeper->Uc,under_plain->V4,in1_handled->V6
open PySem.Expr renaming Subscript->Uq,Attribute->Ur,Constant->UM,ListComp->UN,UnaryOp->Vz,Compare->VA,BoolOp->Wc,BinOp->Wz,IfExp->WA,Tuple->WB,Slice->WC,Name->WJ,List->WK,Call->WL,Dict->WM
open PySem.Stmt renaming AugAssign->Us,Continue->UO,Assign->Wd,Return->We,While->WD,Break->WE,Expr->WN,Pass->WO
open PySem.Heap.SameBut renaming update->UC
open PySem.SeqAt.EqAt renaming int_str->UR,str_int->US
open PySem.Heap.IsSliceOf renaming new->V0
open Prod renaming ext->Vh
open PySem.Heap.IsTuple renaming push->Vp
open Iff renaming rfl->Vs
open Option.some renaming injEq->Vt
open Exists renaming intro->Vu
open LawfulMonad renaming pure_bind->VI
open PySem.Heap.IsList renaming push->VN
open Option renaming some->Z,none->Y
open Bool renaming true->F2,false->N2
open PySem renaming Addr->Xc
section
theorem Xd{a b c:Nat}(h:b<=c)(k:a<=b):a<=c:=Nat.le_trans k h
theorem Xe{a b c:Nat}(h:b<=c)(k:a+1<=b):a<=c-1:=Nat.le_sub_of_add_le (Nat.le_trans k h)
theorem Xf{a b:Nat}(h:Nat.ble (a+1) b=true):a<b:=Nat.le_of_ble_eq_true h
local macro_rules|`(∅)=>`(by first|with_reducible assumption|with_reducible exact Nat.le_of_ble_eq_true rfl|with_reducible exact Xf rfl|exact Xd (by with_reducible assumption) (by with_reducible exact Nat.le_of_ble_eq_true rfl)|exact Xe (by with_reducible assumption) (by with_reducible exact Nat.le_of_ble_eq_true rfl)|lia)
namespace L2
open PySem PySem.Spec PyProof.Rows
section
noncomputable abbrev Key:=Sum Int Str
noncomputable def ij:Key->i0->Bool
 |.inl k,v=>Value.isInt k v
 |.inr x,v=>Value.isStrOf x v
noncomputable def Gx(w:MQ):Key->Int
 |.inl k=>hashInt k
 |.inr x=>hashStr w x
theorem aW:∀{k:Key} {v:i0},ij k v=F2->(∃i t,k=Ti i/\v=VC i t)∨(∃x t,k=Tj x/\v=VD x t)
 |.inl i,v,h=>by obtain⟨t,e⟩:=Value.isInt_shape (k:=i) (v:=v) h;exact .inl ⟨i,t,rfl,e⟩
 |.inr x,v,h=>by obtain⟨t,e⟩:=Value.isStrOf_shape (x:=x) (v:=v) h;exact .inr ⟨x,t,rfl,e⟩
theorem vf(i:Int)(t:Tok):ij (.inl i) (.int i t)=F2:=by simp[ij,Value.isInt]
theorem vg(x:Str)(t:Tok):ij (.inr x) (.str x t)=F2:=by simp[ij,Value.isStrOf]
theorem CY(a b:Int):decide ((Ti a:Key)=Ti b)=(a==b):=by
 by_cases e:a=b
 ·subst e;simp
 ·have h:¬(Ti a:Key)=Ti b:=λq=>e (Ti.inj q);rw[decide_eq_false h];exact(beq_eq_false_iff_ne.mpr e).symm
theorem CZ(a b:Str):decide ((Tj a:Key)=Tj b)=decide (a=b):=by
 by_cases e:a=b
 ·subst e;simp
 ·have h:¬(Tj a:Key)=Tj b:=λq=>e (Tj.inj q);rw[decide_eq_false h,decide_eq_false e]
theorem D3(a:Int)(b:Str):decide ((Ti a:Key)=Tj b)=N2:=decide_eq_false (λq=>nomatch q)
theorem D4(a:Str)(b:Int):decide ((Tj a:Key)=Ti b)=N2:=decide_eq_false (λq=>nomatch q)
noncomputable def aU(prog:Ml)(w:MQ):PySem.KeyKind prog w Key where
 is:=ij
 hash:=Gx w
 inj:=λv a b ha hb=>by
  rcases aW ha with⟨i,t,rfl,rfl⟩|⟨x,t,rfl,rfl⟩
  ·rcases aW hb with⟨j,u,rfl,e⟩|⟨y,u,rfl,e⟩
   ·injection e with e1 _;rw[e1]
   ·exact nomatch e
  ·rcases aW hb with⟨j,u,rfl,e⟩|⟨y,u,rfl,e⟩
   ·exact nomatch e
   ·injection e with e1 _;rw[e1]
 byValue:=λk v h=>by rcases aW h with⟨i,t,rfl,rfl⟩|⟨x,t,rfl,rfl⟩<;>rfl
 pyHash:=λhv h=>by
  rcases aW hv with⟨i,t,rfl,rfl⟩|⟨x,t,rfl,rfl⟩
  ·exact wpAny_pyHash_int h
  ·exact wpAny_pyHash_str h
 eqBool:=λhu hv h=>by
  rcases aW hu with⟨i,t,rfl,rfl⟩|⟨x,t,rfl,rfl⟩
  ·rcases aW hv with⟨j,u,rfl,rfl⟩|⟨y,u,rfl,rfl⟩
   ·rw[CY]at h;exact wpAny_eqBool_int h
   ·rw[D3]at h;exact UR i t y u _ _ _ _ h
  ·rcases aW hv with⟨j,u,rfl,rfl⟩|⟨y,u,rfl,rfl⟩
   ·rw[D4]at h;exact US x t j u _ _ _ _ h
   ·rw[CZ]at h;exact wpAny_eqBool_str h
 «strs»:=λk x t v h=>by
  rcases aW h with⟨i,u,rfl,e⟩|⟨y,u,rfl,e⟩
  ·exact nomatch e
  ·injection e with e1 _
   subst e1
   cases v<;>rfl
theorem rj(prog:Ml)(w:MQ)(i:Int)(t:Tok):(aU prog w).is (.inl i) (.int i t)=F2:=vf i t
theorem rn(prog:Ml)(w:MQ)(x:Str)(t:Tok):(aU prog w).is (.inr x) (.str x t)=F2:=vg x t
end
variable{us:List i0}{a b:Xc}{P:Ml}{w:MQ}{h:Heap}
section
inductive V where
 |non|bl (b:Bool)|int (i:Int)|str (x:Str)|byt (b:Array UInt8)|flt (b:UInt64)|ref (a:Xc)|ty (n:String)
 deriving DecidableEq
noncomputable def RelV:V->i0->Prop
 |.non,u=>u=NZ
 |.bl b,u=>u=UT b
 |.int i,u=>∃t,u=VC i t
 |.str x,u=>∃t,u=VD x t
 |.byt b,u=>∃t,u=Value.bytes b t
 |.flt b,u=>∃t,u=Value.float b t
 |.ref a,u=>u=MA a
 |.ty n,u=>u=N1 n
noncomputable abbrev Vals:List V->List i0->Prop:=NA RelV
theorem Vals.length{xs:List V}(r:Vals xs us):xs.length=us.length:=QG r
theorem Vals.get:∀{xs:List V} {us:List i0} {i:Nat} {x:V},Vals xs us->xs[i]?=Z x->∃u,us[i]?=Z u/\RelV x u
 |_,_,_,_,.nil,e=>by simp at e
 |_,_,0,_,.cons r _,e=>by simp at e;subst e;exact⟨_,rfl,r⟩
 |_,_,i+1,x,.cons _ t,e=>by
  obtain⟨u,h1,h2⟩:=Vals.get (i:=i) (x:=x) t (by simpa using e)
  exact⟨u,by simpa using h1,h2⟩
theorem Vals.set{x:V}{u:i0}(r:RelV x u):∀{xs:List V} {us:List i0} (i:Nat),Vals xs us->Vals (xs.set i x) (us.set i u)
 |_,_,_,.nil=>.nil
 |_,_,0,.cons _ t=>.cons r t
 |_,_,i+1,.cons q t=>.cons q (Vals.set r i t)
theorem Vals.append:∀{xs ys:List V} {us ws:List i0},Vals xs us->Vals ys ws->Vals (xs++ys) (us++ws)
 |_,_,_,_,.nil,s=>s
 |_,_,_,_,.cons r t,s=>.cons r (Vals.append t s)
theorem Vals.take:∀{xs:List V} {us:List i0} (n:Nat),Vals xs us->Vals (xs.take n) (us.take n)
 |_,_,0,_=>.nil
 |_,_,_+1,.nil=>.nil
 |_,_,n+1,.cons r t=>.cons r (Vals.take n t)
theorem Vals.drop:∀{xs:List V} {us:List i0} (n:Nat),Vals xs us->Vals (xs.drop n) (us.drop n)
 |_,_,0,r=>r
 |_,_,_+1,.nil=>.nil
 |_,_,n+1,.cons _ t=>Vals.drop n t
noncomputable def RelO:Option V->Option i0->Prop
 |some v,Z u=>RelV v u
 |none,Y=>True
 |_,_=>False
noncomputable def KV{κ:Type}:List (κ×V)->List (κ×i0)->Prop:=NA λ(p:κ×V) (q:κ×i0)=>p.1=q.1/\RelV p.2 q.2
noncomputable def kV:Key->V
 |.inl i=>.int i
 |.inr x=>.str x
inductive HO where
 |lst (xs:List V)
 |tup (xs:List V)
 |dK (kvs:List (Key×V))|dT (kvs:List (List Key×V))
 |set (S:Int->Bool) (n:Nat)
 |ins (C dx:Xc) (fs:List (Str×V))
 |own (x:Xc)
 |xd (fs:List (Str×V))
 |met (f x:Xc)
 |rng (lo hi:Int)
 |frz (o:Obj) (u:HO)
 |tbl (ps:Array i0)
 |ext (φ:Heap->Prop)
noncomputable abbrev Hp:=Xc->Option HO
noncomputable def upd(H:Hp)(a:Xc)(o:HO):Hp:=λb=>if b=a then Z o else H b
theorem aB{H:Hp}{o:HO}:upd H a o a=Z o:=by unfold upd;rw[if_pos rfl]
theorem ao{H:Hp}{o:HO}(h:b≠a):upd H a o b=H b:=by unfold upd;rw[if_neg h]
theorem Fb{H:Hp}{o u:HO}(h:H a=Z o)(h':H b=Z u)(d:o≠u):a≠b:=by intro e;subst e;rw[h]at h';exact d (NO.inj h')
theorem bb{H:Hp}{o:HO}(h:H a=Z o)(h':H b=Y):a≠b:=by intro e;subst e;rw[h]at h';cases h'
section
variable(P:Ml)(w:MQ)
noncomputable def ObjOk(H:Hp)(h:Heap)(a:Xc):HO->Prop
 |.lst xs=>xs.length<=LK/\∃(its:List i0) (n:Nat),Vals xs its/\h.get? a=Z {cls:=.type "list",data:=.seq its.toArray n}
 |.tup xs=>xs.length<=LK/\∃its:List i0,Vals xs its/\IsTup h a its.toArray
 |.dK kvs=>kvs.length<=LK/\(a==O0)=N2/\∃vs,KV kvs vs/\h.DictOf (aU P w) a vs
 |.dT kvs=>kvs.length<=LK/\(a==O0)=N2/\∃xs:List (List Key×Xc×i0),
  NA (λ(p:List Key×V) (q:List Key×Xc×i0)=>p.1=q.1/\H q.2.1=Z (.tup (p.1.map kV))/\RelV p.2 q.2.2) kvs xs /\
  ∃o es ep,h.get? a=Z o/\o.ExactDict/\o.data=.dict es ep/\es.toList=xs.map (entryOfKey (Se (aU P w)))/\(xs.map (·.1)).Nodup
 |.set S n=>h.SetOf (intKind P w) a S n
 |.ins C dx fs=>H dx=Z (.own a)/\fs.length<=1000/\dx≠a/\h.get? a=Z (TQ C dx) /\
  ∃mA,h.Ns1 dx mA/\(∀f,RelO (fs.lookup f) (mA f))/\PySem.Within mA (fs.map (·.1))
 |.own _=>∃o,h.get? a=Z o
 |.xd fs=>∃mA,h.Ns1 a mA/\∀f,RelO (fs.lookup f) (mA f)
 |.rng lo hi=>∃t u v,h.get? a=Z {cls:=.type "range",data:=.fields #[.int lo t,.int hi u,.int 1 v]}
 |.frz o u=>h.get? a=Z o/\ObjOk H h a u
 |.tbl ps=>h.get? a=Z {cls:=.none,data:=.fields ps}
 |.met f x=>h.get? a=Z (SD (.ref f) (.ref x))
 |.ext φ=>φ h/\(∃o,h.get? a=Z o)/\∀h1 h2:Heap,φ h1->(∀o,h1.get? a=Z o->h2.get? a=Z o)->φ h2
def HOk(H:Hp)(h:Heap):Prop:=∀a o,H a=Z o->ObjOk P w H h a o
end
section
variable{P:Ml}{w:MQ}{H H':Hp}{h h':Heap}{a:Xc}{o:HO}
theorem ObjOk.lt(x:ObjOk P w H h a o):a<h.objs.size:=by
 cases o with
 |lst xs=>obtain⟨_,_,_,_,e⟩:=x;exact LD e
 |tup xs=>obtain⟨_,_,_,p⟩:=x;exact p.lt
 |dK kvs=>obtain⟨_,_,_,_,o,_,_,e,_⟩:=x;exact LD e
 |dT kvs=>obtain⟨_,_,_,_,o,_,_,e,_⟩:=x;exact LD e
 |set S n=>obtain⟨o,_,_,_,e,_⟩:=x;exact LD e
 |ins C dx fs=>obtain⟨_,_,_,e,_⟩:=x;exact LD e
 |own y=>obtain⟨_,e⟩:=x;exact LD e
 |xd fs=>obtain⟨_,⟨_,_,_,e,_⟩,_⟩:=x;exact LD e
 |rng lo hi=>obtain⟨_,_,_,e⟩:=x;exact LD e
 |frz ob u=>obtain⟨e,_⟩:=x;exact LD e
 |tbl ps=>exact LD (show h.get? a=Z _ from x)
 |met f y=>exact LD (show h.get? a=Z _ from x)
 |ext φ=>obtain⟨_,⟨_,e⟩,_⟩:=x;exact LD e
theorem WU{α β:Type}{F G:α->β->Prop}:∀{l₁:List α} {l₂:List β},NA F l₁ l₂->(∀a b,F a b->G a b)->NA G l₁ l₂
 |_,_,.nil,_=>.nil
 |_,_,.cons r t,f=>.cons (f _ _ r) (WU t f)
theorem ObjOk.stay(x:ObjOk P w H h a o)(k:∀b u,(b=a∨H b=Z (.own a))->h.get? b=Z u->h'.get? b=Z u)(ho:∀b,H b=Z (.own a)->H' b=Z (.own a))(j:∀b xs,H b=Z (.tup xs)->H' b=Z (.tup xs)):ObjOk P w H' h' a o:=by
 induction o with
 |lst xs=>obtain⟨z,its,n,r,e⟩:=x;exact⟨z,its,n,r,k _ _ (.inl rfl) e⟩
 |tup xs=>obtain⟨z,its,r,ob,e,c⟩:=x;exact⟨z,its,r,ob,k _ _ (.inl rfl) e,c⟩
 |dK kvs=>obtain⟨z,y,vs,r,ob,es,ep,e,c⟩:=x;exact⟨z,y,vs,r,ob,es,ep,k _ _ (.inl rfl) e,c⟩
 |dT kvs=>obtain⟨z,y,xs,r,ob,es,ep,e,c⟩:=x;exact⟨z,y,xs,WU r λp q z=>⟨z.1,j _ _ z.2.1,z.2.2⟩,ob,es,ep,k _ _ (.inl rfl) e,c⟩
 |set S n=>obtain⟨ob,es,ep,t,e,c⟩:=x;exact⟨ob,es,ep,t,k _ _ (.inl rfl) e,c⟩
 |ins C dx fs=>obtain⟨d,z,ne,e,mA,⟨od,es,ep,e2,c⟩,r⟩:=x;exact⟨ho _ d,z,ne,k _ _ (.inl rfl) e,mA,⟨od,es,ep,k _ _ (.inr d) e2,c⟩,r⟩
 |own y=>obtain⟨ob,e⟩:=x;exact⟨ob,k _ _ (.inl rfl) e⟩
 |xd fs=>obtain⟨mA,⟨od,es,ep,e,c⟩,r⟩:=x;exact⟨mA,⟨od,es,ep,k _ _ (.inl rfl) e,c⟩,r⟩
 |rng lo hi=>obtain⟨t,u,v,e⟩:=x;exact⟨t,u,v,k _ _ (.inl rfl) e⟩
 |frz ob u ih=>obtain⟨e,q⟩:=x;exact⟨k _ _ (.inl rfl) e,ih q⟩
 |tbl ps=>have e:h.get? a=Z {cls:=.none,data:=.fields ps}:=x;show h'.get? a=Z {cls:=.none,data:=.fields ps};exact k a _ (.inl rfl) e
 |met f y=>have e:h.get? a=Z (SD (.ref f) (.ref y)):=x;show h'.get? a=Z (SD (.ref f) (.ref y));exact k a _ (.inl rfl) e
 |ext φ=>obtain⟨p,⟨o,e⟩,st⟩:=x;exact⟨st _ _ p λo q=>k _ _ (.inl rfl) q,⟨o,k _ _ (.inl rfl) e⟩,st⟩
theorem HOk.lt(x:HOk P w H h)(e:H a=Z o):a<h.objs.size:=(x a o e).lt
theorem HOk.fresh(x:HOk P w H h)(e:h.objs.size<=a):H a=Y:=by
 cases q:H a with
 |none=>rfl
 |some u=>exact absurd (Mz (x.lt q) e) (Nj _)
theorem HOk.kept(x:HOk P w H h)(k:∀b u,h.get? b=Z u->h'.get? b=Z u):HOk P w H h':=λa o e=>(x a o e).stay (λb u _ q=>k b u q) (λ_ q=>q) λ_ _ q=>q
theorem HOk.laid(x:HOk P w H h)(k:∀b u,h.get? b=Z u->h'.get? b=Z u)(z:h.objs.size<=a)(new:ObjOk P w (upd H a o) h' a o):HOk P w (upd H a o) h':=λb u e=>by
 have j:=x.fresh z
 by_cases hb:b=a
 ·subst hb;rw[aB]at e;cases e;exact new
 ·rw[ao hb]at e;exact(x b u e).stay (λc v _ q=>k c v q) (λc q=>by rw[ao (bb q j)];exact q) λc xs q=>by rw[ao (bb q j)];exact q
end
def Rd(H:Hp)(a:Xc)(u:HO):Prop:=H a=Z u∨∃o,H a=Z (.frz o u)
theorem Rd.of{H:Hp}{u:HO}(h:H a=Z u):Rd H a u:=.inl h
theorem Rd.ok{H:Hp}{u:HO}(r:Rd H a u)(x:HOk P w H h):ObjOk P w H h a u:=by
 rcases r with r|⟨o,r⟩
 ·exact x a u r
 ·obtain⟨_,q⟩:=x a _ r;exact q
noncomputable def Mut:Option HO->Prop
 |some (.lst _)=>True
 |some (.dK _)=>True
 |some (.dT _)=>True
 |some (.set _ _)=>True
 |some (.ins _ _ _)=>True
 |some (.ext _)=>True
 |_=>False
section
variable{P:Ml}{w:MQ}{H:Hp}{h h':Heap}{x e:Xc}{o':HO}
theorem HOk.write(ok:HOk P w H h)(mu:Mut (H x))(he:e=x∨H e=Z (.own x))(k:∀b u,b≠e->h.get? b=Z u->h'.get? b=Z u)(F:∃u,h'.get? e=Z u)(new:ObjOk P w (upd H x o') h' x o'):HOk P w (upd H x o') h':=λb u q=>by
 have nown:∀c y,H c=Z (.own y)->c≠x:=λc y r z=>by subst z;rw[r]at mu;exact mu
 have ntup:∀c xs,H c=Z (.tup xs)->c≠x:=λc xs r z=>by subst z;rw[r]at mu;exact mu
 by_cases hb:b=x
 ·subst hb;rw[aB]at q;cases q;exact new
 ·rw[ao hb]at q
  by_cases j:b=e
  ·have q':H b=Z (.own x):=by
    rcases he with z|z
    ·exact absurd (j.trans z) hb
    ·rw[j];exact z
   rw[q]at q';cases q';obtain⟨v,G⟩:=F;exact⟨v,by rw[j];exact G⟩
  ·refine(ok b u q).stay (λc v B r=>k c v ?_ r) (λc r=>by rw[ao (nown c b r)];exact r) λc xs r=>by rw[ao (ntup c xs r)];exact r
   rcases B with rfl|B
   ·exact j
   ·rintro rfl
    rcases he with z|z
    ·exact nown c b B z
    ·rw[B]at z;cases z;exact hb rfl
end
structure Un(fs ex:List Xc)(H H':Hp)(h h':Heap):Prop where
 keep:∀b o,h.get? b=Z o->H b=Y->b∉fs->b∉ex->h'.get? b=Z o
 slot:∀b o,h.get? b=Z o->H b=Y->b∈fs->b∉ex->∃sl,h'.get? b=Z {o with slots:=sl}
 free:∀b o,h.get? b=Z o->H b=Y->b∉ex->H' b=Y
 there:∀b o,h.get? b=Z o->b∉ex->∃o',h'.get? b=Z o'
 tups:∀b xs,H b=Z (.tup xs)->H' b=Z (.tup xs)
 frzs:∀b o u,H b=Z (.frz o u)->H' b=Z (.frz o u)
 tbls:∀b ps,H b=Z (.tbl ps)->∃more,H' b=Z (.tbl (ps++more))
section
variable{fs fs' ex ex':List Xc}{H H1 H2:Hp}{h h1 h2 h':Heap}{a x e:Xc}{o:HO}
theorem Un.any(u:Un fs ex H H1 h h1){ob:Obj}(q:h.get? b=Z ob)(n:H b=Y)(hx:b∉ex):∃sl,h1.get? b=Z {ob with slots:=sl}:=by
 by_cases j:b∈fs
 ·exact u.slot b ob q n j hx
 ·exact⟨ob.slots,u.keep b ob q n j hx⟩
theorem Un.kept(k:∀b u,h.get? b=Z u->h'.get? b=Z u):Un fs ex H H h h':=⟨λb ob q _ _ _=>k b ob q,λb ob q _ _ _=>⟨ob.slots,k b ob q⟩,λ_ _ _ n _=>n,λb ob q _=>⟨ob,k b ob q⟩,λ_ _ q=>q,λ_ _ _ q=>q,λ_ ps q=>⟨#[],by rw[q];simp⟩⟩
theorem Un.refl:Un fs ex H H h h:=Un.kept λ_ _ q=>q
theorem Un.laid(k:∀b u,h.get? b=Z u->h'.get? b=Z u)(z:h.objs.size<=a)(j:H a=Y):Un fs ex H (upd H a o) h h' where
 keep:=λb u q _ _ _=>k b u q
 slot:=λb u q _ _ _=>⟨u.slots,k b u q⟩
 free:=λb u q n _=>by rw[ao (Mt (Mz (LD q) z))];exact n
 there:=λb u q _=>⟨u,k b u q⟩
 tups:=λb xs q=>by rw[ao (bb q j)];exact q
 frzs:=λb u xs q=>by rw[ao (bb q j)];exact q
 tbls:=λb ps q=>⟨#[],by rw[ao (bb q j),q];simp⟩
theorem Un.write(mu:Mut (H x))(he:e=x∨H e=Z (.own x))(k:∀b u,b≠e->h.get? b=Z u->h'.get? b=Z u)(B:∃u,h'.get? e=Z u):Un fs ex H (upd H x o) h h':=by
 have hx:∀b,H b=Y->b≠x:=λb n z=>by subst z;rw[n]at mu;exact mu
 have F:∀b,H b=Y->b≠e:=λb n z=>by
  subst z
  rcases he with r|r
  ·exact hx b n r
  ·rw[n]at r;cases r
 have hm:∀b u,H b=Z u->¬Mut (Z u)->b≠x:=λb u q nm z=>by subst z;rw[q]at mu;exact nm mu
 refine⟨λb u q n _ _=>k b u (F b n) q,λb u q n _ _=>⟨u.slots,k b u (F b n) q⟩,λb u q n _=>by rw[ao (hx b n)];exact n,λb u q _=>?_,
  λb xs q=>by rw[ao (hm b _ q λz=>z)];exact q,λb u xs q=>by rw[ao (hm b _ q λz=>z)];exact q,λb ps q=>⟨#[],by rw[ao (hm b _ q λz=>z),q];simp⟩⟩
 by_cases j:b=e
 ·subst j;exact B
 ·exact⟨u,k b u j q⟩
end
noncomputable def trk(h:Heap)(H:Hp):List Xc:=(D0 h.objs.size).filter λa=>(H a).isSome
noncomputable def fS(h:Heap)(H:Hp):Heap:=PySem.W.hideAll h (trk h H)
theorem vh(h:Heap)(H:Hp):(fS h H).objs.size=h.objs.size:=PySem.W.hideAll_size _ _
theorem j3{H:Hp}{o:Obj}(e:h.get? b=Z o)(n:H b=Y):(fS h H).get? b=Z o:=
 PySem.W.hideAll_get _ e λhm=>by have q:(H b).isSome=F2:=(OP.mp hm).2;rw[n]at q;simp at q
theorem AW{H:Hp}{o:Obj}(e:(fS h H).get? b=Z o):h.get? b=Z o/\H b=Y:=by
 have e':h.get? b=Z o:=PySem.W.of_hideAll (trk h H) e;refine⟨e',?_⟩
 cases q:H b with
 |none=>rfl
 |some x=>
  have hm:b∈trk h H:=OP.mpr ⟨MY.mpr (LD e'),by simp[q]⟩
  have z:(fS h H).get? b=Y:=PySem.W.hideAll_none (trk h H) hm;rw[z]at e;cases e
noncomputable def AX(g h:Heap)(L:Xc):List (Xc×Obj):=(D0 h.objs.size).filterMap λa=>if a=L∨(g.get? a).isSome=F2 then Y else(h.get? a).map λo=>(a,o)
noncomputable def rest(g h:Heap)(L d:Xc):List (Xc×Obj):=(AX g h L).filter λp=>decide (p.1≠d)
end
variable{H:Hp}{o:HO}{u:i0}{t' i:Nat}{ch:List Xc}{x:Str}{e:Expr}{N:List Str}{M:R5}{A:MU}{v:V}{s:s9}
section
structure Mod(K:Frag)(mg:Str->Option i0)(base:Heap):Prop where
 kin:K.In base
 glob:base.Ns Nw mg
 blt:∃mb,base.Ns To mb/\∀x:Str,x≠"__name__"->mb x=PR x
 nolimit:base.NoLimit
structure Cx where
 prog:Ml
 w:MQ
 K:Frag
 mg:Str->Option i0
 base:Heap
 A:MU
 N:List Str
 s₀:s9
 H₀:Hp
 env:Env
 outer:List Env
 stack:List Env
 ex:List Xc
 fn:Str->Bool
 calm:Bool
 pn:List (Xc×Obj)
 xe:i0->s9->Prop
noncomputable def frs(l:List Env):List Xc:=l.filterMap (·.frame)
noncomputable abbrev Cx.fs(X:Cx):List Xc:=frs X.outer
def Vis(sc:Scope)(x:Str):Prop:=sc.names.lookup x=Z .local∨sc.names.lookup x=Z .cell∨sc.names.lookup x=Z .free
def Loc(sc:Scope)(x:Str):Prop:=sc.names.lookup x=Z .local∨sc.names.lookup x=Z .cell
def Gy(env:Env)(h:Heap)(m:Str->Option i0)(x:Str)(u:i0):Prop:=(env.kindOf x=Z .local/\m x=Z u)∨((env.kindOf x=Z .cell∨env.kindOf x=Z .free)/\∃c,env.cells.lookup x=Z c/\h.IsCell c (Z u))
structure Cx.Ok(X:Cx):Prop where
 mod:Mod X.K X.mg X.base
 kind:X.env.scope.kind=.function
 glob:X.env.globals=Nw
 blt:X.env.builtins=To
 above:X.s₀.heap.objs.size<=X.env.locals
 inj:∀x y c,X.env.cells.lookup x=Z c->X.env.cells.lookup y=Z c->x=y
 has:∀x,(X.env.kindOf x=Z .cell∨X.env.kindOf x=Z .free)->∃c,X.env.cells.lookup x=Z c
 cab:∀x c,X.fn x=F2->X.env.cells.lookup x=Z c->X.s₀.heap.objs.size<=c
 hd:X.calm=F2->X.A.handled=Y
 frames:X.A.frames=Z X.stack
 stk:X.stack=X.outer∨(X.stack=X.env::X.outer/\X.env.frame=Z X.env.locals)
 exf:∀b∈X.ex,b≠X.env.locals/\∀x c,X.env.cells.lookup x=Z c->c≠b
 bs:∀b o,X.base.get? b=Z o->X.s₀.heap.get? b=Z o/\X.H₀ b=Y
 bsz:X.base.objs.size<=X.s₀.heap.objs.size
 noex:∀b o,X.base.get? b=Z o->b∉X.ex
 exfs:∀b∈X.ex,b∉X.fs
 funs:X.s₀.heap.FunFrames X.base X.outer
 frf:∀b∈X.fs,X.H₀ b=Y
structure Inv(X:Cx)(pins:List (Xc×Obj))(σ:List (Option V))(H:Hp)(s:s9):Prop where
 ok:X.Ok
 os:s.os=X.s₀.os
 bare:SE s.gens
 base:Un X.fs X.ex X.H₀ H X.s₀.heap s.heap
 loc:∃m,s.heap.Ns X.env.locals m/\∀(i:Nat) (x:Str) (v:V),X.N[i]?=Z x->σ[i]?=Z (Z v)->Vis X.env.scope x->∃u,RelV v u/\Gy X.env s.heap m x u
 cell:∀x c,X.env.cells.lookup x=Z c->∃v,s.heap.IsCell c v
 free:H X.env.locals=Y
 freeC:∀x c,X.env.cells.lookup x=Z c->H c=Y
 pin:∀p∈X.pn++pins,s.heap.get? p.1=Z p.2/\H p.1=Y/\p.1≠X.env.locals/\p.1∉X.fs/\∀v,p.2.data≠.cell v
 hok:HOk X.prog X.w H s.heap
 len:σ.length=X.N.length
section
variable{X:Cx}{pins:List (Xc×Obj)}{σ:List (Option V)}{H H':Hp}{s:s9}{h':Heap}
theorem Cx.Ok.nofr(ok:X.Ok){o:Obj}(e:X.base.get? b=Z o):b∉X.fs:=λj=>by have:=(ok.funs.mem j).1;rw[e]at this;cases this
theorem Inv.bs(I:Inv X pins σ H s):∀b o,X.base.get? b=Z o->s.heap.get? b=Z o/\H b=Y:=λb o e=>⟨I.base.keep b o (I.ok.bs b o e).1 (I.ok.bs b o e).2 (I.ok.nofr e) (I.ok.noex b o e),I.base.free b o (I.ok.bs b o e).1 (I.ok.bs b o e).2 (I.ok.noex b o e)⟩
theorem Inv.bk(I:Inv X pins σ H s):∀b o,X.base.get? b=Z o->s.heap.get? b=Z o:=λb o e=>(I.bs b o e).1
theorem Inv.mod(I:Inv X pins σ H s):Mod X.K X.mg X.base:=I.ok.mod
theorem Inv.kIn(I:Inv X pins σ H s):X.K.In s.heap:=I.ok.mod.kin.keeps I.bk
theorem Inv.fr(I:Inv X pins σ H s):∃m,Fr X.base X.env.locals s.heap m:=
 let⟨m,j,_⟩:=I.loc
 ⟨m,j,I.bk,NG I.ok.bsz I.ok.above⟩
theorem Inv.lt(I:Inv X pins σ H s):X.env.locals<s.heap.objs.size:=let⟨_,j,_⟩:=I.loc;j.lt
theorem Inv.sz(I:Inv X pins σ H s):X.s₀.heap.objs.size<=s.heap.objs.size:=NG I.ok.above (PU I.lt)
theorem Inv.nofs(I:Inv X pins σ H s)(h:s.heap.objs.size<=a):a∉X.fs:=λj=>by obtain⟨_,o,ho,_⟩:=I.ok.funs.mem j;exact absurd (Mz (LD ho) (NG I.sz h)) (Nj _)
theorem Inv.cne(I:Inv X pins σ H s):∀x c,X.env.cells.lookup x=Z c->c≠X.env.locals:=λx c e z=>by obtain⟨v,o,ho,hd⟩:=I.cell x c e;obtain⟨m,⟨o',es,ep,j,B,_⟩,_⟩:=I.loc;rw[z,j]at ho;cases ho;rw[B]at hd;cases hd
theorem Inv.funs(I:Inv X pins σ H s):s.heap.FunFrames X.base X.outer:=by
 have all:∀(l:List Env),(∀b∈frs l,b∈X.fs)->X.s₀.heap.FunFrames X.base l->s.heap.FunFrames X.base l:=by
  intro l
  induction l with
  |nil=>intro _ _;trivial
  |cons env r ih=>
   intro hs F;obtain⟨G,⟨L,o,hf,J,ho,hd⟩,O⟩:=F;have j:L∈X.fs:=hs L (by unfold frs;rw[RX,hf];exact Mr)
   obtain⟨sl,e⟩:=I.base.slot L o ho (I.ok.frf L j) j λz=>I.ok.exfs L z j;exact⟨G,⟨L,_,hf,J,e,hd⟩,ih (λb B=>hs b (by unfold frs;rw[RX,hf];exact Mg _ B)) O⟩
 exact all X.outer (λ_ B=>B) I.ok.funs
theorem Inv.stack(I:Inv X pins σ H s):s.heap.FunFrames X.base X.stack:=by
 rcases I.ok.stk with e|⟨e,hf⟩
 ·rw[e];exact I.funs
 ·rw[e];obtain⟨m,j,_⟩:=I.loc;refine .cons (by rw[I.ok.kind];decide) hf j ?_ I.funs
  exact Heap.get?_none_of_le (NG I.ok.bsz I.ok.above)
theorem Inv.stkSub(I:Inv X pins σ H s):∀b∈frs X.stack,b∈X.env.locals::X.fs:=λb j=>by
 rcases I.ok.stk with e|⟨e,hf⟩
 ·rw[e]at j;exact Mg _ j
 ·rw[e]at j;unfold frs at j;rw[RX,hf]at j;exact j
theorem Inv.stkFree(I:Inv X pins σ H s):∀b∈frs X.stack,H b=Y:=λb j=>by
 rcases LI.mp (I.stkSub b j)with e|j
 ·rw[e];exact I.free
 ·obtain⟨_,o,ho,_⟩:=I.ok.funs.mem j;exact I.base.free b o ho (I.ok.frf b j) λz=>I.ok.exfs b z j
theorem Inv.step{g':Array GenState}{d':Drawn}(I:Inv X pins σ H s)(j:∀b∈ch,(b∈X.ex∨X.s₀.heap.objs.size<=b)/\b≠X.env.locals/\(∀x c,X.env.cells.lookup x=Z c->c≠b)/\∀p∈X.pn++pins,p.1≠b)(keep:∀b o,b≠X.env.locals->b∉X.fs->b∉ch->s.heap.get? b=Z o->H b=Y->h'.get? b=Z o)(slot:∀b o,b≠X.env.locals->b∈X.fs->b∉ch->s.heap.get? b=Z o->H b=Y->∃sl,h'.get? b=Z {o with slots:=sl})(free:∀b o,b∉ch->s.heap.get? b=Z o->H b=Y->H' b=Y)(there:∀b o,b∉ch->s.heap.get? b=Z o->∃o',h'.get? b=Z o')(tups:∀b xs,H b=Z (.tup xs)->H' b=Z (.tup xs))(frzs:∀b o u,H b=Z (.frz o u)->H' b=Z (.frz o u))(tbls:∀b ps,H b=Z (.tbl ps)->∃more,H' b=Z (.tbl (ps++more)))(ns:∀m,s.heap.Ns X.env.locals m->h'.Ns X.env.locals m)(hok:HOk X.prog X.w H' h')(J:SE g'):
 Inv X pins σ H' {s with heap:=h',gens:=g',drawn:=d',toks:=t'}:=by
 have neL:∀b o,X.s₀.heap.get? b=Z o->b≠X.env.locals:=λb o e=>Mt (Mz (LD e) I.ok.above);have neC:∀b o,X.s₀.heap.get? b=Z o->b∉X.ex->b∉ch:=λb o e hx B=>by
  rcases(j b B).1 with z|z
  ·exact hx z
  ·exact absurd (Mz (LD e) z) (Nj _)
 have cellK:∀x c,X.env.cells.lookup x=Z c->∀v,s.heap.IsCell c v->h'.IsCell c v:=λx c e v ⟨o,ho,hd⟩=>by
  have nch:c∉ch:=λz=>(j c z).2.2.1 x c e rfl
  by_cases F:c∈X.fs
  ·obtain⟨sl,q⟩:=slot c o (I.cne x c e) F nch ho (I.freeC x c e);exact⟨_,q,hd⟩
  ·exact⟨o,keep c o (I.cne x c e) F nch ho (I.freeC x c e),hd⟩
 refine⟨I.ok,I.os,J,⟨λb o e n B hx=>?_,λb o e n B hx=>?_,λb o e n hx=>?_,λb o e hx=>?_,λb xs e=>tups b xs (I.base.tups b xs e),λb o xs e=>frzs b o xs (I.base.frzs b o xs e),λb ps e=>?_⟩,?_,λx c e=>?_,?_,λx c e=>?_,λp G=>?_,hok,I.len⟩
 ·exact keep b o (neL b o e) B (neC b o e hx) (I.base.keep b o e n B hx) (I.base.free b o e n hx)
 ·obtain⟨sl,e1⟩:=I.base.slot b o e n B hx;obtain⟨sl',e2⟩:=slot b _ (neL b o e) B (neC b o e hx) e1 (I.base.free b o e n hx);exact⟨sl',e2⟩
 ·obtain⟨o',e1⟩:=I.base.there b o e hx;exact free b o' (neC b o e hx) e1 (I.base.free b o e n hx)
 ·obtain⟨o',e1⟩:=I.base.there b o e hx;exact there b o' (neC b o e hx) e1
 ·obtain⟨L,e1⟩:=I.base.tbls b ps e;obtain⟨O,e2⟩:=tbls b _ e1;exact⟨L++O,by rw[e2,Array.append_assoc]⟩
 ·obtain⟨m,U,Fn⟩:=I.loc;refine⟨m,ns m U,λi x v e1 e2 fv=>?_⟩;obtain⟨u,r,l⟩:=Fn i x v e1 e2 fv;refine⟨u,r,?_⟩
  rcases l with l|⟨k,c,e,z⟩
  ·exact .inl l
  ·exact .inr ⟨k,c,e,cellK x c e _ z⟩
 ·obtain⟨v,z⟩:=I.cell x c e;exact⟨v,cellK x c e v z⟩
 ·obtain⟨m,⟨o,_,_,ho,_⟩,_⟩:=I.loc;exact free _ o (λz=>(j _ z).2.1 rfl) ho I.free
 ·obtain⟨v,o,ho,hd⟩:=I.cell x c e;exact free c o (λz=>(j c z).2.2.1 x c e rfl) ho (I.freeC x c e)
 ·obtain⟨e,n,ne,nf,d⟩:=I.pin p G;have nch:p.1∉ch:=λz=>(j p.1 z).2.2.2 p G rfl;exact⟨keep p.1 p.2 ne nf nch e n,free p.1 p.2 nch e n,ne,nf,d⟩
theorem Inv.un(I:Inv X pins σ H s)(u:Un X.fs [] H H' s.heap h')(hok:HOk X.prog X.w H' h'):Inv X pins σ H' {s with heap:=h',toks:=t'}:=by
 obtain⟨m,⟨o,es,ep,ho,r⟩,_⟩:=id I.loc;obtain⟨sl,F⟩:=u.any ho I.free (by simp)
 exact I.step (g':=s.gens) (d':=s.drawn) (ch:=[]) (λ_ z=>nomatch z) (λb o _ B _ e n=>u.keep b o e n B (by simp)) (λb o _ B _ e n=>u.slot b o e n B (by simp)) (λb o _ e n=>u.free b o e n (by simp)) (λb o _ e=>u.there b o e (by simp)) u.tups u.frzs u.tbls (λm' hm=>by obtain⟨o',es',ep',j,r'⟩:=hm;rw[ho]at j;cases j;exact⟨_,es',ep',F,r'⟩) hok I.bare
theorem Inv.call{g':Array GenState}{d':Drawn}(I:Inv X pins σ H s)(u:Un (frs X.stack) ch H H' s.heap h')(hok:HOk X.prog X.w H' h')(J:SE g')(B:∀b∈ch,(b∈X.ex∨X.s₀.heap.objs.size<=b)/\b≠X.env.locals/\(∀x c,X.env.cells.lookup x=Z c->c≠b)/\∀p∈X.pn++pins,p.1≠b):
 Inv X pins σ H' {s with heap:=h',gens:=g',drawn:=d',toks:=t'}:=by
 obtain⟨m,⟨o,es,ep,ho,r⟩,_⟩:=id I.loc;obtain⟨sl,G⟩:=u.any ho I.free λz=>(B _ z).2.1 rfl;exact I.step (ch:=ch) B (λb o G L j e n=>u.keep b o e n (λz=>(LI.mp (I.stkSub b z)).elim G L) j) (λb o _ _ j e n=>u.any e n j) (λb o j e n=>u.free b o e n j) (λb o j e=>u.there b o e j) u.tups u.frzs u.tbls (λm' hm=>by obtain⟨o',es',ep',F,r'⟩:=hm;rw[ho]at F;cases F;exact⟨_,es',ep',G,r'⟩) hok J
theorem Inv.turned{it:Xc}(I:Inv X pins σ H s)(k:∀b o,b≠it->s.heap.get? b=Z o->h'.get? b=Z o)(F:H it=Y)(B:it≠X.env.locals)(h1:it∈X.ex∨X.s₀.heap.objs.size<=it)(h2:∀x c,X.env.cells.lookup x=Z c->c≠it)(G:∀p∈X.pn++pins,p.1≠it):Inv X pins σ H {s with heap:=h',toks:=t'}:=by
 have nit:∀b u,H b=Z u->b≠it:=λb u e z=>by rw[z,F]at e;cases e
 refine I.step (g':=s.gens) (d':=s.drawn) (ch:=[it]) (λb J=>?_) (λb o _ _ j e _=>k b o (λz=>j (by simp[z])) e) (λb o _ _ j e _=>⟨o.slots,k b o (λz=>j (by simp[z])) e⟩) (λ_ _ _ _ n=>n)
  (λb o j e=>⟨o,k b o (λz=>j (by simp[z])) e⟩) (λ_ _ e=>e) (λ_ _ _ e=>e) (λb ps e=>⟨#[],by rw[e];simp⟩) (λm hm=>?_) (λb u e=>?_) I.bare
 ·have e:b=it:=by simpa using J
  subst e;exact⟨h1,B,h2,G⟩
 ·obtain⟨o,es,ep,ho,r⟩:=hm;exact⟨o,es,ep,k _ o (Ne.symm B) ho,r⟩
 ·refine(I.hok b u e).stay (λc v j q=>k c v ?_ q) (λ_ q=>q) λ_ _ q=>q
  rcases j with z|z
  ·rw[z];exact nit b u e
  ·exact nit c _ z
theorem Inv.tok(I:Inv X pins σ H s)(t:Nat):Inv X pins σ H {s with toks:=t}:=I.un (h':=s.heap) (t':=t) Un.refl I.hok
theorem Inv.kept(I:Inv X pins σ H s)(k:∀b u,s.heap.get? b=Z u->h'.get? b=Z u):Inv X pins σ H {s with heap:=h',toks:=t'}:=I.un (Un.kept k) (I.hok.kept k)
theorem Inv.laid(I:Inv X pins σ H s)(k:∀b u,s.heap.get? b=Z u->h'.get? b=Z u)(j:s.heap.objs.size<=a)(new:ObjOk X.prog X.w (upd H a o) h' a o):Inv X pins σ (upd H a o) {s with heap:=h',toks:=t'}:=I.un (Un.laid k j (I.hok.fresh j)) (I.hok.laid k j new)
theorem Inv.write{x e:Xc}(I:Inv X pins σ H s)(mu:Mut (H x))(he:e=x∨H e=Z (.own x))(k:∀b u,b≠e->s.heap.get? b=Z u->h'.get? b=Z u)(j:∃u,h'.get? e=Z u)(new:ObjOk X.prog X.w (upd H x o) h' x o):Inv X pins σ (upd H x o) {s with heap:=h',toks:=t'}:=I.un (Un.write mu he k j) (I.hok.write mu he k j new)
theorem Inv.pins_of{pins':List (Xc×Obj)}(I:Inv X pins σ H s)(h:∀p∈pins',s.heap.get? p.1=Z p.2/\H p.1=Y/\p.1≠X.env.locals/\p.1∉X.fs/\∀v,p.2.data≠.cell v):Inv X pins' σ H s:=⟨I.ok,I.os,I.bare,I.base,I.loc,I.cell,I.free,I.freeC,λp j=>(LV.mp j).elim (λz=>I.pin p (MJ _ z)) (h p),I.hok,I.len⟩
theorem oQ(z:N.Nodup){j:Nat}(a:N[i]?=Z x)(b:N[j]?=Z x):i=j:=by obtain⟨h1,e1⟩:=LP.mp a;obtain⟨h2,e2⟩:=LP.mp b;exact(List.getElem_inj z).mp (e1.trans e2.symm)
theorem vj{E:i0->s9->Prop}{Q:Unit->s9->Prop}(I:Inv X pins σ H s)(hN:X.N.Nodup)(hi:X.N[i]?=Z x)(hx:Loc X.env.scope x)(r:RelV v u)(h:∀s',Inv X pins (σ.set i (Z v)) H s'->(∃a,NH a s.heap s'.heap/\(a=X.env.locals∨X.env.cells.lookup x=Z a))->Q () s')(hf:X.fn x=F2∨X.env.scope.names.lookup x=Z .local:=by first|exact .inl rfl|exact .inr rfl|assumption):LR M A (storeName X.env x u) Q E s:=by
 obtain⟨m,hn,hl⟩:=id I.loc;have U:(X.env.scope.kind==.class || (X.env.scope.kind==.module&&X.env.locals != X.env.globals))=N2:=by rw[I.ok.kind];rfl
 have Fn:i<σ.length:=by rw[I.len];exact(LP.mp hi).1
 have cne:=I.cne;have tracked:∀{a:Xc} {h':Heap},(∃o,s.heap.get? a=Z o/\H a=Y)->NH a s.heap h'->HOk X.prog X.w H h':=λ{a h'} ha hs b ob e=>by
  obtain⟨_,_,F⟩:=ha;refine(I.hok b ob e).stay (λc w' B q=>(hs.2 c ?_).trans q) (λ_ q=>q) λ_ _ q=>q;rintro rfl
  rcases B with rfl|B
  ·rw[F]at e;cases e
  ·rw[F]at B;cases B
 rcases hx with G|G
 ·refine wpAny_storeName_local G hn (λh' Jp hs=>?_) U;obtain⟨oL,_,_,Jq,_⟩:=id hn;refine h _ ⟨I.ok,I.os,I.bare,⟨λb o e n J hx=>?_,λb o e n J hx=>?_,I.base.free,λb o e hx=>?_,I.base.tups,I.base.frzs,I.base.tbls⟩,⟨_,Jp,λj y v' e1 e2 e3=>?_⟩,λy c e=>?_,I.free,I.freeC,λp hp=>?_,tracked ⟨oL,Jq,I.free⟩ hs,by simpa using I.len⟩ ⟨_,hs,.inl rfl⟩
  ·exact(hs.2 b (Mt (Mz (LD e) I.ok.above))).trans (I.base.keep b o e n J hx)
  ·obtain⟨sl,e1⟩:=I.base.slot b o e n J hx;exact⟨sl,(hs.2 b (Mt (Mz (LD e) I.ok.above))).trans e1⟩
  ·obtain⟨o',e1⟩:=I.base.there b o e hx;exact⟨o',(hs.2 b (Mt (Mz (LD e) I.ok.above))).trans e1⟩
  ·by_cases L:j=i
   ·subst L;rw[hi]at e1;cases e1;rw[OU Fn]at e2
    cases e2
    exact⟨u,r,.inl ⟨G,by simp⟩⟩
   ·rw[Qr (Ne.symm L)]at e2;obtain⟨u',r',q⟩:=hl j y v' e1 e2 e3;refine⟨u',r',?_⟩
    rcases q with⟨k,e⟩|⟨k,c,e,z⟩
    ·refine .inl ⟨k,?_⟩;have:y≠x:=λe=>L (oQ hN e1 (e▸hi));simp[this,e]
    ·exact .inr ⟨k,c,e,z.sameBut hs (cne y c e)⟩
  ·obtain⟨w',z⟩:=I.cell y c e;exact⟨w',z.sameBut hs (cne y c e)⟩
  ·obtain⟨e,n,ne,nf,d⟩:=I.pin p hp;exact⟨(hs.2 p.1 ne).trans e,n,ne,nf,d⟩
 ·have O:X.fn x=F2:=by
   rcases hf with z|z
   ·exact z
   ·rw[z]at G;cases G
  obtain⟨c,B⟩:=I.ok.has x (.inl G);obtain⟨w',z⟩:=I.cell x c B;refine wpAny_storeName_cell I.ok.kind G B z (λh' fv hs=>?_);obtain⟨oc,Jm,Jn⟩:=id z;refine h {s with heap:=h'} ⟨I.ok,I.os,I.bare,⟨λb o e n J hx=>?_,λb o e n J hx=>?_,I.base.free,λb o e hx=>?_,I.base.tups,I.base.frzs,I.base.tbls⟩,⟨m,hn.sameBut hs (Ne.symm (cne x c B)),λj y v' e1 e2 e3=>?_⟩,λy c' e=>?_,I.free,I.freeC,λp hp=>?_,tracked ⟨oc,Jm,I.freeC x c B⟩ hs,by simpa using I.len⟩ ⟨c,hs,.inr B⟩
  ·exact(hs.2 b (Mt (Mz (LD e) (I.ok.cab x c O B)))).trans (I.base.keep b o e n J hx)
  ·obtain⟨sl,e1⟩:=I.base.slot b o e n J hx;exact⟨sl,(hs.2 b (Mt (Mz (LD e) (I.ok.cab x c O B)))).trans e1⟩
  ·obtain⟨o',e1⟩:=I.base.there b o e hx;exact⟨o',(hs.2 b (Mt (Mz (LD e) (I.ok.cab x c O B)))).trans e1⟩
  ·by_cases L:j=i
   ·subst L;rw[hi]at e1;cases e1;rw[OU Fn]at e2
    cases e2
    exact⟨u,r,.inr ⟨.inl G,c,B,fv⟩⟩
   ·rw[Qr (Ne.symm L)]at e2;obtain⟨u',r',q⟩:=hl j y v' e1 e2 e3;refine⟨u',r',?_⟩
    rcases q with q|⟨k,c',e,z'⟩
    ·exact .inl q
    ·refine .inr ⟨k,c',e,z'.sameBut hs ?_⟩;rintro rfl;exact L (oQ hN e1 (I.ok.inj _ _ _ e B▸hi))
  ·by_cases Jo:c'=c
   ·subst Jo;exact⟨_,fv⟩
   ·obtain⟨w2,z2⟩:=I.cell y c' e;exact⟨w2,z2.sameBut hs Jo⟩
  ·obtain⟨e,n,ne,nf,d⟩:=I.pin p hp;refine⟨(hs.2 p.1 ?_).trans e,n,ne,nf,d⟩;intro q;rw[q,Jm]at e;have q':oc=p.2:=NO.inj e;exact d w' (by rw[<-q'];exact Jn)
theorem fT{E:i0->s9->Prop}{Q:Unit->s9->Prop}(I:Inv X pins σ H s)(j:X.N.Nodup)(hi:X.N[i]?=Z x)(hx:Loc X.env.scope x)(r:RelV v u)(h:∀s',Inv X pins (σ.set i (Z v)) H s'->Q () s')(hf:X.fn x=F2∨X.env.scope.names.lookup x=Z .local:=by first|exact .inl rfl|exact .inr rfl|assumption):LR M A (storeName X.env x u) Q E s:=vj I j hi hx r (λs' I' _=>h s' I') hf
theorem Inv.call'{s':s9}(I:Inv X pins σ H s)(ho:s'.os=s.os)(u:Un (frs X.stack) ch H H' s.heap s'.heap)(hok:HOk X.prog X.w H' s'.heap)(z:SE s'.gens)(j:∀b∈ch,(b∈X.ex∨X.s₀.heap.objs.size<=b)/\b≠X.env.locals/\(∀x c,X.env.cells.lookup x=Z c->c≠b)/\∀p∈X.pn++pins,p.1≠b):Inv X pins σ H' s':=by obtain⟨h',g',d',t',o'⟩:=s';have e:o'=s.os:=ho;subst e;exact I.call (g':=g') (t':=t') (d':=d') u hok z j
end
noncomputable abbrev XK:=i0->Option Xc->Hp->Prop
noncomputable abbrev St:=List (Option V)
noncomputable abbrev VK:=V->Hp->Prop
noncomputable abbrev TE:=St->Hp->VK->Prop
noncomputable abbrev TT:=St->Hp->(Bool->Hp->Prop)->Prop
noncomputable abbrev TA:=St->Hp->(List V->Hp->Prop)->Prop
structure bP where
 nx:St->Hp->Prop
 rt:VK
 bk:St->Hp->Prop:=λ_ _=>False
 ct:St->Hp->Prop:=λ_ _=>False
noncomputable abbrev TS:=bP->St->Hp->Prop
def EP(X:Cx)(pins:List (Xc×Obj))(σ:St)(Q:VK)(u:i0)(s':s9):Prop:=∃v H',Inv X pins σ H' s'/\RelV v u/\Q v H'
def TP(X:Cx)(pins:List (Xc×Obj))(σ:St)(Q:Bool->Hp->Prop)(b:Bool)(s':s9):Prop:=∃H',Inv X pins σ H' s'/\Q b H'
def AP(X:Cx)(pins:List (Xc×Obj))(σ:St)(Q:List V->Hp->Prop)(us:List i0)(s':s9):Prop:=∃vs H',Inv X pins σ H' s'/\Vals vs us/\Q vs H'
def SP(X:Cx)(pins:List (Xc×Obj))(D:bP)(f:Flow)(s':s9):Prop:=
 match f with
 |.next=>∃σ' H',Inv X pins σ' H' s'/\D.nx σ' H'
 |.brk=>∃σ' H',Inv X pins σ' H' s'/\D.bk σ' H'
 |.cont=>∃σ' H',Inv X pins σ' H' s'/\D.ct σ' H'
 |.ret u=>∃v σ' H',Inv X pins σ' H' s'/\RelV v u/\D.rt v H'
def PE(X:Cx)(e:Expr)(t:TE):Prop:=∀(pins:List (Xc×Obj)) (s:s9) (σ:St) (H:Hp) (Q:VK),Inv X pins σ H s->t σ H Q->LR (model X.prog X.w) X.A (eval e X.env) (EP X pins σ Q) X.xe s
def PT(X:Cx)(e:Expr)(t:TT):Prop:=∀(pins:List (Xc×Obj)) (s:s9) (σ:St) (H:Hp) (Q:Bool->Hp->Prop),Inv X pins σ H s->t σ H Q->LR (model X.prog X.w) X.A (isTrue e X.env (eval e X.env)) (TP X pins σ Q) X.xe s
def PW(X:Cx)(e:Expr)(t:TT):Prop:=∀(whole:Sem i0) (pins:List (Xc×Obj)) (s:s9) (σ:St) (H:Hp) (Q:Bool->Hp->Prop),Inv X pins σ H s->t σ H Q->LR (model X.prog X.w) X.A (isTrue e X.env whole) (TP X pins σ Q) X.xe s
theorem PW.pt{X:Cx}{t:TT}(h:PW X e t):PT X e t:=h _
def PA(X:Cx)(es:List Expr)(t:TA):Prop:=∀(pos:Pos) (pins:List (Xc×Obj)) (s:s9) (σ:St) (H:Hp) (Q:List V->Hp->Prop),Inv X pins σ H s->t σ H Q->LR (model X.prog X.w) X.A (spliced (PV pos (Mk es X.env))) (AP X pins σ Q) X.xe s
def PS(X:Cx)(st:Stmt)(t:TS):Prop:=∀(pins:List (Xc×Obj)) (s:s9) (σ:St) (H:Hp) (D:bP),Inv X pins σ H s->t D σ H->LR (model X.prog X.w) X.A (exec st X.env) (SP X pins D) X.xe s
def PSs(X:Cx)(st:List Stmt)(t:TS):Prop:=∀(pins:List (Xc×Obj)) (s:s9) (σ:St) (H:Hp) (D:bP),Inv X pins σ H s->t D σ H->LR (model X.prog X.w) X.A (execs st X.env) (SP X pins D) X.xe s
theorem thn{α:Type}{t:Sem α}{Q Q':α->s9->Prop}{E:i0->s9->Prop}(h:LR M A t Q E s)(j:∀a s,Q a s->Q' a s):LR M A t Q' E s:=Nv h j λ_ _ x=>x
end
variable{X:Cx}{pos:Pos}{pins:List (Xc×Obj)}{σ:St}{c:Expr}
section
section
variable{X:Cx}
noncomputable def D5(i:Nat):TE:=λσ H Q=>∃v,σ[i]?=Z (Z v)/\Q v H
noncomputable def tC(v:V):TE:=λ_ H Q=>Q v H
theorem oR(G:X.N[i]?=Z x)(J:Vis X.env.scope x)(hd:(x==("__debug__":Str))=N2:=by decide)(B:(x==("__classdict__":Str))=N2:=by decide):PE X (.Name x pos) (D5 i):=by
 intro pins s σ H Q I h;obtain⟨v,e,h⟩:=h;obtain⟨m,L,O⟩:=I.loc;obtain⟨u,r,l⟩:=O i x v G e J;have fin:EP X pins σ Q u s:=⟨v,H,I,r,h⟩
 rcases l with⟨z,hm⟩|⟨z,c,F,j⟩
 ·exact Wn (U9 I.ok.kind z L hm fin) hd
 ·rcases z with z|z
  ·exact Wn (Uz I.ok.kind z F j fin) hd
  ·exact Wn (wpAny_loadName_free I.ok.kind z F j fin B) hd
theorem D6{i j pos}:PE X (.Constant (.int i) j pos) (tC (.int i)):=λ_ _ _ H _ I h=>wpAny_Constant_int ⟨.int i,H,I.tok _,⟨_,rfl⟩,h⟩
theorem Fc{b j pos}:PE X (.Constant (.bool b) j pos) (tC (.bl b)):=λ_ _ _ H _ I h=>Constant_bool ⟨.bl b,H,I,rfl,h⟩
theorem D7{j pos}:PE X (.Constant .none j pos) (tC .non):=λ_ _ _ H _ I h=>Constant_none ⟨.non,H,I,rfl,h⟩
def Gl(X:Cx)(x:Str):Prop:=X.env.kindOf x=Z .globalImplicit
theorem kL{E Q:i0->s9->Prop}(I:Inv X pins σ H s)(j:Gl X x)(hm:X.mg x=Z u)(h:Q u s)(hd:(x==("__debug__":Str))=N2:=by decide):LR (model X.prog X.w) X.A (eval (.Name x pos) X.env) Q E s:=Sg I.ok.kind j (Calls.loadGlobal_global (by rw[I.ok.glob];exact I.mod.glob.keeps I.bk) hm h) hd
theorem bZ{E Q:i0->s9->Prop}(I:Inv X pins σ H s)(j:Gl X x)(hm:X.mg x=Y)(z:PR x=Z u)(h:Q u s)(B:x≠"__name__":=by decide)(hd:(x==("__debug__":Str))=N2:=by decide):LR (model X.prog X.w) X.A (eval (.Name x pos) X.env) Q E s:=by obtain⟨mb,h1,h2⟩:=I.mod.blt;exact Sg I.ok.kind j (Calls.loadGlobal_builtin (by rw[I.ok.glob];exact I.mod.glob.keeps I.bk) hm (by rw[I.ok.blt];exact h1.keeps I.bk) ((h2 x B).trans z) h) hd
theorem AY(j:Gl X x)(hm:X.mg x=Y)(z:PR x=Z u)(r:RelV v u)(B:x≠"__name__":=by decide)(hd:(x==("__debug__":Str))=N2:=by decide):PE X (.Name x pos) (tC v):=λ_ _ _ H _ I h=>bZ I j hm z ⟨v,H,I,r,h⟩ B hd
variable{a b:Expr}{ta tb:TE}{pos:Pos}
variable{tA tB':TT}{rest:List Expr}
noncomputable def Gz(t u:TT):TT:=λσ H Q=>t σ H λc H1=>if c=F2 then u σ H1 Q else Q N2 H1
noncomputable def tOr(t u:TT):TT:=λσ H Q=>t σ H λc H1=>if c=F2 then Q F2 H1 else u σ H1 Q
noncomputable def GA(t:TT):TT:=λσ H Q=>t σ H λc H1=>Q (!c) H1
theorem AZ(j:PT X a tA):PW X (.BoolOp .And [a] pos) tA:=by
 intro wh pins s σ H Q I h;refine isTrue_and (thn (j pins s σ H Q I h) λc s1 e=>?_)
 cases c with
 |true=>exact isTrue_and_nil e
 |false=>exact e
theorem D8(j:PT X a tA):PW X (.BoolOp .Or [a] pos) tA:=by
 intro wh pins s σ H Q I h;refine isTrue_or (thn (j pins s σ H Q I h) λc s1 e=>?_)
 cases c with
 |false=>exact isTrue_or_nil e
 |true=>exact e
theorem D9(B:PT X a tA)(F:PW X (.BoolOp .And (b::rest) pos) tB'):PW X (.BoolOp .And (a::b::rest) pos) (Gz tA tB'):=by
 intro wh pins s σ H Q I h;refine isTrue_and (thn (B pins s σ H _ I h) λc s1 G=>?_);obtain⟨H1,j,z⟩:=G
 cases c with
 |true=>exact F wh pins s1 σ H1 Q j z
 |false=>exact⟨H1,j,z⟩
theorem Fd(B:PT X a tA)(F:PW X (.BoolOp .Or (b::rest) pos) tB'):PW X (.BoolOp .Or (a::b::rest) pos) (tOr tA tB'):=by
 intro wh pins s σ H Q I h;refine isTrue_or (thn (B pins s σ H _ I h) λc s1 G=>?_);obtain⟨H1,j,z⟩:=G
 cases c with
 |true=>exact⟨H1,j,z⟩
 |false=>exact F wh pins s1 σ H1 Q j z
theorem Da(j:PT X a tA):PT X (.UnaryOp .Not a pos) (GA tA):=by intro pins s σ H Q I h;exact isTrue_not (j pins s σ H (λc H1=>Q (!c) H1) I h)
noncomputable def Fe(ta tb:TE):TE:=λσ H Q=>ta σ H λx H1=>∃c,x=.bl c/\if c=F2 then tb σ H1 Q else Q (.bl N2) H1
noncomputable def GB(ta tb:TE):TE:=λσ H Q=>ta σ H λx H1=>∃c,x=.bl c/\if c=F2 then Q (.bl F2) H1 else tb σ H1 Q
noncomputable def Ff(ta:TE):TE:=λσ H Q=>ta σ H λx H1=>∃c,x=.bl c/\Q (.bl (!c)) H1
theorem Db{op}{t:TE}(h:PE X a t):PE X (.BoolOp op [a] pos) t:=λpins s σ H Q I hw=>BoolOp_one (h pins s σ H Q I hw)
theorem Dc(B:PE X a ta)(F:PE X (.BoolOp .And (b::rest) pos) tb):PE X (.BoolOp .And (a::b::rest) pos) (Fe ta tb):=by
 intro pins s σ H Q I h;refine BoolOp_and (thn (B pins s σ H _ I h) λv s1 G=>?_);obtain⟨x,H1,z,J,j⟩:=G;obtain⟨c,rfl,j⟩:=j
 cases J
 refine Pn ?_
 cases c with
 |true=>exact F pins s1 σ H1 Q z j
 |false=>exact⟨.bl N2,H1,z,rfl,j⟩
theorem Fh(B:PE X a ta)(F:PE X (.BoolOp .Or (b::rest) pos) tb):PE X (.BoolOp .Or (a::b::rest) pos) (GB ta tb):=by
 intro pins s σ H Q I h;refine BoolOp_or (thn (B pins s σ H _ I h) λv s1 G=>?_);obtain⟨x,H1,z,J,j⟩:=G;obtain⟨c,rfl,j⟩:=j
 cases J
 refine Pn ?_
 cases c with
 |false=>exact F pins s1 σ H1 Q z j
 |true=>exact⟨.bl F2,H1,z,rfl,j⟩
theorem Dd(z:PE X a ta):PE X (.UnaryOp .Not a pos) (Ff ta):=by
 intro pins s σ H Q I h;refine UnaryOp_ (thn (z pins s σ H _ I h) λv s1 B=>?_);obtain⟨x,H1,F,G,j⟩:=B;obtain⟨c,rfl,j⟩:=j
 cases G
 exact not_of (Pn ⟨.bl (!c),H1,F,rfl,j⟩)
noncomputable def tIf(t:TT)(ta tb:TE):TE:=λσ H Q=>t σ H λc H1=>if c=F2 then ta σ H1 Q else tb σ H1 Q
theorem y9(B:PT X c tA)(F:PE X a ta)(G:PE X b tb):PE X (.IfExp c a b pos) (tIf tA ta tb):=by
 intro pins s σ H Q I h;refine wpAny_IfExp (thn (B pins s σ H _ I h) λd s1 J=>?_);obtain⟨H1,j,z⟩:=J
 cases d with
 |true=>exact F pins s1 σ H1 Q j z
 |false=>exact G pins s1 σ H1 Q j z
end
end
variable{K:Frag}{tg:Expr}{te:TE}{ta:TA}{op:Qs}{body:List Stmt}
section
def SqL(K:Frag)(H:Hp)(a:Xc)(xs:List V):Prop:=
 Rd H a (.lst xs) ∨
  ∃(o:Obj) (its:Array i0) (n:Nat),K.lookup a=Z o/\o.cls=.type "list"/\o.dict=Y/\o.data=.seq its n/\its.size<=LK/\Vals xs its.toList
def SqT(K:Frag)(H:Hp)(a:Xc)(xs:List V):Prop:=
 Rd H a (.tup xs) ∨
  ∃(o:Obj) (its:Array i0) (n:Nat),K.lookup a=Z o/\o.cls=.type "tuple"/\o.data=.seq its n/\its.size<=LK/\Vals xs its.toList
noncomputable def GC:i0->Option V
 |.none=>Z .non
 |.bool b=>Z (.bl b)
 |.int i _=>Z (.int i)
 |.str x _=>Z (.str x)
 |.bytes b _=>Z (.byt b)
 |.float b _=>Z (.flt b)
 |.ref a=>Z (.ref a)
 |.type n=>Z (.ty n)
 |_=>Y
theorem RelV.abs{x:V}(r:RelV x u):GC u=Z x:=by
 cases x with
 |non=>cases r;rfl
 |bl _=>cases r;rfl
 |int _=>obtain⟨t,rfl⟩:=r;rfl
 |str _=>obtain⟨t,rfl⟩:=r;rfl
 |byt _=>obtain⟨t,rfl⟩:=r;rfl
 |flt _=>obtain⟨t,rfl⟩:=r;rfl
 |ref _=>cases r;rfl
 |ty _=>cases r;rfl
theorem RelV.inj{x y:V}(r:RelV x u)(q:RelV y u):x=y:=NO.inj (r.abs.symm.trans q.abs)
theorem Vals.inj:∀{xs ys:List V} {us:List i0},Vals xs us->Vals ys us->xs=ys
 |_,_,_,.nil,.nil=>rfl
 |_,_,_,.cons r t,.cons r' t'=>by rw[r.inj r',Vals.inj t t']
section
variable{X:Cx}{pins:List (Xc×Obj)}{σ:St}{H:Hp}{s:s9}{a:Xc}{xs ys:List V}
theorem SqL.of(h:H a=Z (.lst xs)):SqL K H a xs:=.inl (.inl h)
theorem SqT.of(h:H a=Z (.tup xs)):SqT K H a xs:=.inl (.inl h)
theorem Inv.list(I:Inv X pins σ H s)(h:SqL X.K H a xs):∃its:List i0,Vals xs its/\PlainL s.heap a its.toArray/\xs.length<=LK:=by
 rcases h with h|⟨o,its,n,j,B,hd,hs,F,r⟩
 ·obtain⟨z,its,n,r,e⟩:=h.ok I.hok;exact⟨its,r,⟨_,n,e,rfl,rfl,rfl⟩,z⟩
 ·refine⟨its.toList,r,⟨o,n,I.kIn a o j,B,hd,by simpa using hs⟩,?_⟩
  have e:=r.length;simp only[My]at e;lia
theorem Inv.tuple(I:Inv X pins σ H s)(h:SqT X.K H a xs):∃its:List i0,Vals xs its/\IsTup s.heap a its.toArray/\xs.length<=LK:=by
 rcases h with h|⟨o,its,n,j,B,hs,F,r⟩
 ·obtain⟨z,its,r,p⟩:=h.ok I.hok;exact⟨its,r,p,z⟩
 ·refine⟨its.toList,r,⟨o,I.kIn a o j,B,n,by simpa using hs⟩,?_⟩
  have e:=r.length;simp only[My]at e;lia
theorem Inv.list_inj(I:Inv X pins σ H s)(h:SqL X.K H a xs)(h':SqL X.K H a ys):xs=ys:=by
 obtain⟨its,r,⟨o,n,e,_,_,d⟩,_⟩:=I.list h;obtain⟨its',r',⟨o',n',e',_,_,d'⟩,_⟩:=I.list h';rw[e]at e';cases e';rw[d]at d'
 injection d' with d1 _
 have:its=its':=by simpa using congrArg Tp d1
 subst this;exact r.inj r'
theorem Inv.tuple_inj(I:Inv X pins σ H s)(h:SqT X.K H a xs)(h':SqT X.K H a ys):xs=ys:=by
 obtain⟨its,r,⟨o,e,_,n,d⟩,_⟩:=I.tuple h;obtain⟨its',r',⟨o',e',_,n',d'⟩,_⟩:=I.tuple h';rw[e]at e';cases e';rw[d]at d'
 injection d' with d1 _
 have:its=its':=by simpa using congrArg Tp d1
 subst this;exact r.inj r'
end
noncomputable abbrev Cx.wish(X:Cx)(E:i0->s9->Prop):Cx:={X with xe:=E}
noncomputable abbrev Cx.nox(X:Cx):Cx:=X.wish λ_ _=>False
theorem Cx.Ok.wish(ok:X.Ok)(E:i0->s9->Prop):(X.wish E).Ok:=⟨ok.mod,ok.kind,ok.glob,ok.blt,ok.above,ok.inj,ok.has,ok.cab,ok.hd,ok.frames,ok.stk,ok.exf,ok.bs,ok.bsz,ok.noex,ok.exfs,ok.funs,ok.frf⟩
theorem Cx.Ok.unwish{E:i0->s9->Prop}(ok:(X.wish E).Ok):X.Ok:=⟨ok.mod,ok.kind,ok.glob,ok.blt,ok.above,ok.inj,ok.has,ok.cab,ok.hd,ok.frames,ok.stk,ok.exf,ok.bs,ok.bsz,ok.noex,ok.exfs,ok.funs,ok.frf⟩
section
variable{X:Cx}{pins:List (Xc×Obj)}{σ:St}{H:Hp}{s:s9}{E:i0->s9->Prop}
theorem Inv.wish(I:Inv X pins σ H s)(E:i0->s9->Prop):Inv (X.wish E) pins σ H s:=⟨I.ok.wish E,I.os,I.bare,I.base,I.loc,I.cell,I.free,I.freeC,I.pin,I.hok,I.len⟩
theorem Inv.unwish(I:Inv (X.wish E) pins σ H s):Inv X pins σ H s:=⟨I.ok.unwish,I.os,I.bare,I.base,I.loc,I.cell,I.free,I.freeC,I.pin,I.hok,I.len⟩
theorem SP.unwish{D:bP}{f:Flow}{s':s9}(h:SP (X.wish E) pins D f s'):SP X pins D f s':=by
 cases f with
 |next=>obtain⟨σ',H',I,q⟩:=h;exact⟨σ',H',I.unwish,q⟩
 |brk=>obtain⟨σ',H',I,q⟩:=h;exact⟨σ',H',I.unwish,q⟩
 |cont=>obtain⟨σ',H',I,q⟩:=h;exact⟨σ',H',I.unwish,q⟩
 |ret u=>obtain⟨v,σ',H',I,r,q⟩:=h;exact⟨v,σ',H',I.unwish,r,q⟩
theorem PSs.nox{st:List Stmt}{t:TS}(h:PSs X.nox st t):PSs X st t:=λpins s σ H D I hw=>Nv (h pins s σ H D (I.wish _) hw) (λ_ _ q=>q.unwish) λ_ _ z=>False.elim z
end
section
variable{X:Cx}{st:Stmt}{rest:List Stmt}{t u:TS}{e:Expr}{te:TE}{pos:Pos}
noncomputable def tH:TS:=λD σ H=>D.nx σ H
noncomputable def De(t u:TS):TS:=λD σ H=>t {D with nx:=u D} σ H
theorem B0:PSs X [] tH:=λ_ _ σ H _ I h=>TR ⟨σ,H,I,h⟩
theorem ya(h1:PS X st t)(h2:PSs X rest u):PSs X (st::rest) (De t u):=by
 intro pins s σ H D I h;refine wpAny_execs_cons (thn (h1 pins s σ H {D with nx:=u D} I h) λf s1 q=>?_)
 cases f with
 |next=>obtain⟨σ',H',I',q⟩:=q;exact h2 pins s1 σ' H' D I' q
 |ret v=>exact q
 |brk=>exact q
 |cont=>exact q
noncomputable def vm:TS:=λD σ H=>D.bk σ H
noncomputable def Ao:TS:=λD σ H=>D.ct σ H
theorem B1:PS X (.Pass pos) tH:=λ_ _ σ H _ I h=>wpAny_Pass ⟨σ,H,I,h⟩
theorem yb:PS X (.Break pos) vm:=λ_ _ σ H _ I h=>wpAny_Break ⟨σ,H,I,h⟩
theorem rp:PS X (.Continue pos) Ao:=λ_ _ σ H _ I h=>wpAny_Continue ⟨σ,H,I,h⟩
theorem Inv.quiet(I:Inv X pins σ H s):interactive X.env=N2:=by simp[interactive,I.ok.kind]
noncomputable def Ap(te:TE):TS:=λD σ H=>te σ H λ_ H1=>D.nx σ H1
theorem B2(he:PE X e te)(hs:Qy e Y pos.line X.env=pure N2:=by rfl):PS X (.Expr e pos) (Ap te):=by intro pins s σ H D I h;exact wpAny_Expr_any (thn (he pins s σ H _ I h) λv s1 j=>(by obtain⟨x,H1,z,F,B⟩:=j;exact⟨σ,H1,z,B⟩)) I.quiet hs
noncomputable def Df(te:TE):TS:=λD σ H=>te σ H D.rt
theorem Dh(he:PE X e te):PS X (.Return (Z e) pos) (Df te):=by intro pins s σ H D I h;exact wpAny_Return_some (thn (he pins s σ H _ I h) λv s1 j=>(by obtain⟨x,H1,z,B,F⟩:=j;exact⟨x,σ,H1,z,B,F⟩))
noncomputable def Di(c:TT)(t u:TS):TS:=λD σ H=>c σ H λb H1=>if b=F2 then t D σ H1 else u D σ H1
theorem Fi{a b:List Stmt}{tc:TT}(B:PT X c tc)(F:PSs X a t)(G:PSs X b u):PS X (.If c a b pos) (Di tc t u):=by
 intro pins s σ H D I h;refine wpAny_If (thn (B pins s σ H _ I h) λd s1 J=>?_);obtain⟨H1,j,z⟩:=J
 cases d with
 |true=>exact F pins s1 σ H1 D j z
 |false=>exact G pins s1 σ H1 D j z
end
noncomputable abbrev TG:=V->St->Hp->(St->Hp->Prop)->Prop
noncomputable abbrev TGs:=List V->St->Hp->(St->Hp->Prop)->Prop
def PG(X:Cx)(target:Expr)(t:TG):Prop:=
 ∀(pins:List (Xc×Obj)) (s:s9) (σ:St) (H:Hp) (v:V) (u:i0) (Q:St->Hp->Prop),Inv X pins σ H s->RelV v u->t v σ H Q->
  LR (model X.prog X.w) X.A (assign target X.env u) (λ_ s'=>∃σ' H',Inv X pins σ' H' s'/\Q σ' H') X.xe s
def PGs(X:Cx)(ts:List Expr)(t:TGs):Prop:=
 ∀(pins:List (Xc×Obj)) (s:s9) (σ:St) (H:Hp) (vs:List V) (us:List i0) (Q:St->Hp->Prop),Inv X pins σ H s->Vals vs us->t vs σ H Q->
  LR (model X.prog X.w) X.A (SO ((NB ts X.env).map (·.2)) us) (λ_ s'=>∃σ' H',Inv X pins σ' H' s'/\Q σ' H') X.xe s
noncomputable abbrev kM:=V->V->V->Hp->(Hp->Prop)->Prop
def PSet(X:Cx)(t:kM):Prop:=
 ∀(pins:List (Xc×Obj)) (s:s9) (σ:St) (H:Hp) (o i v:V) (ov iv u:i0) (Q:Hp->Prop),Inv X pins σ H s->RelV o ov->RelV i iv->RelV v u->t o i v H Q->
  LR (model X.prog X.w) X.A (Uv ov iv u) (λ_ s'=>∃H',Inv X pins σ H' s'/\Q H') X.xe s
noncomputable abbrev TIp:=V->V->Hp->VK->Prop
def PIp(X:Cx)(op:Qs)(t:TIp):Prop:=
 ∀(pins:List (Xc×Obj)) (s:s9) (σ:St) (H:Hp) (x y:V) (v u:i0) (Q:VK),Inv X pins σ H s->RelV x v->RelV y u->t x y H Q->
  LR (model X.prog X.w) X.A (OY op v u) (EP X pins σ Q) X.xe s
section
variable{X:Cx}{pos:Pos}
noncomputable def jn(i:Nat):TG:=λv σ H Q=>Q (σ.set i (Z v)) H
theorem rM(j:X.N.Nodup)(hi:X.N[i]?=Z x)(hx:Loc X.env.scope x)(hf:X.fn x=F2∨X.env.scope.names.lookup x=Z .local:=by first|exact .inl rfl|exact .inr rfl|assumption):PG X (.Name x pos) (jn i):=by intro pins s σ H v u Q I r h;exact wpAny_assign_Name (fT I j hi hx r (λs' I'=>⟨_,H,I',h⟩) hf)
noncomputable def GD:TGs:=λvs σ H Q=>vs=[]/\Q σ H
noncomputable def Fj(t:TG)(u:TGs):TGs:=λvs σ H Q=>∃v r,vs=v::r/\t v σ H λσ' H'=>u r σ' H' Q
theorem B3:PGs X [] GD:=by
 intro pins s σ H vs us Q I r h;obtain⟨e,h⟩:=h;subst e
 cases r
 exact Vd ⟨σ,H,I,h⟩
theorem yc{es:List Expr}{t:TG}{u:TGs}(h1:PG X e t)(h2:PGs X es u)(hs:(NB (e::es) X.env).map (·.2)=assign e X.env::(NB es X.env).map (·.2):=by rfl):PGs X (e::es) (Fj t u):=by
 intro pins s σ H vs us Q I r h;obtain⟨v,vr,e1,h⟩:=h;subst e1
 cases r with
 |cons r rr=>rw[hs];refine Si (thn (h1 pins s σ H _ _ _ I r h) λ_ s1 j=>?_);obtain⟨σ1,H1,z,B⟩:=j;exact h2 pins s1 σ1 H1 _ _ Q z rr B
noncomputable def GE(K:Frag)(n:Nat)(t:TGs):TG:=λv σ H Q=>∃a xs,v=.ref a/\SqT K H a xs/\xs.length=n/\t xs σ H Q
theorem Dj{es:List Expr}{k:Nat}{t:TGs}{n:Nat}(z:X.calm=F2)(h:PGs X es t)(B:(NB es X.env).length=n:=by rfl)(j:(NB es X.env).findIdx? (·.1)=Y:=by rfl):PG X (.Tuple es k pos) (GE X.K n t):=by
 intro pins s σ H v u Q I r hw;obtain⟨a,xs,e1,F,G,hw⟩:=hw;subst e1
 cases r
 obtain⟨its,rv,J,O⟩:=I.tuple F;refine assign_Tuple_tuple (I.ok.hd z) J (by simp[B,<-G,rv.length]) j λh' hx=>?_
 have L:Inv X pins σ H {s with heap:=h'}:=I.kept (t':=s.toks) λb o e=>hx b o (Mt (LD e)) e
 exact h pins _ σ H xs _ Q L (by simpa using rv) hw
noncomputable def GF(to ti:TE)(t:kM):TG:=λv σ H Q=>to σ H λo H1=>ti σ H1 λi H2=>t o i v H2 λH3=>Q σ H3
theorem Dl {o i:Expr}{to ti:TE}{t:kM}(ho:PE X o to)(hi:PE X i ti)(hs:PSet X t)(z:∀v,assign (.Subscript o i pos) X.env v=(do
   let ov <-holding [v] (eval o X.env)
   let iv <-holding [v,ov] (eval i X.env)
   SF pos
   holding [v,ov,iv] (Uv ov iv v)
   release [v,ov,iv] []):=by intro _;rfl):PG X (.Subscript o i pos) (GF to ti t):=by
 intro pins s σ H v u Q I r h;rw[z];refine gV (Na (thn (ho pins s σ H _ I h) λov s1 j=>?_));obtain⟨x,H1,B,F,G⟩:=j;refine gV (Na (thn (hi pins s1 σ H1 _ B G) λiv s2 j=>?_));obtain⟨y,H2,J,L,O⟩:=j;refine gV (Pt (gV (Na (thn (hs pins s2 σ H2 x y v ov iv u _ J F L r O) λ_ s3 j=>?_))));obtain⟨U,Fn,fv⟩:=j;exact wpAny_release ⟨σ,U,Fn,fv⟩
noncomputable def oS(te:TE)(g:TG):TS:=λD σ H=>te σ H λx H1=>g x σ H1 D.nx
theorem oT{g:TG}(he:PE X e te)(j:PG X tg g)(hs:QH [tg] e pos.line X.env=pure N2:=by rfl)(hw:Pu [tg] e X.env=pure Y:=by rfl)(h1:(NB [tg] X.env).map (·.2)=[assign tg X.env]:=by rfl):PS X (.Assign [tg] e pos) (oS te g):=by intro pins s σ H D I h;refine wpAny_Assign_stores (thn (he pins s σ H _ I h) λv s1 g9=>?_) hs hw;obtain⟨x,H1,z,B,F⟩:=g9;rw[h1];exact thn (j pins s1 σ H1 x v _ z B F) λ_ s2 q=>q
noncomputable def Dm(i j:Nat)(ta:TA):TS:=λD σ H=>ta σ H λvs H1=>∃v w,vs=[v,w]/\D.nx ((σ.set i (Z v)).set j (Z w)) H1
theorem Dn{j:Nat}{y:Str}{a b:Expr}{px py pt:Pos}{kt B z}(Fn:X.calm=F2)(L:X.N.Nodup)(hi:X.N[i]?=Z x)(fv:X.N[j]?=Z y)(F:i≠j)(hx:X.env.scope.names.lookup x=Z .local)(O:X.env.scope.names.lookup y=Z .local)(ha:PA X [a,b] ta)(hw:Pu [.Tuple [.Name x px,.Name y py] kt pt] (.Tuple [a,b] B z) X.env=pure (Z [x,y]))(hs:QH [.Tuple [.Name x px,.Name y py] kt pt] (.Tuple [a,b] B z) pos.line X.env=pure N2:=by rfl):
 PS X (.Assign [.Tuple [.Name x px,.Name y py] kt pt] (.Tuple [a,b] B z) pos) (Dm i j ta):=by
 intro pins s σ H D I h;rw[exec_Assign_arm];refine gV (Pt ?_);rw[hs];refine gV (z4 ?_);rw[if_neg (by decide)]
 refine gV (Tuple_ (thn (ha _ pins s σ H _ I h) λus s1 g9=>?_));obtain⟨vs,H1,I1,r1,G⟩:=g9;obtain⟨v,w,e1,G⟩:=G;subst e1;obtain⟨u1,u2,rfl,rv,rw'⟩:∃u1 u2,us=[u1,u2]/\RelV v u1/\RelV w u2:=by
  cases r1 with
  |cons p q=>
   cases q with
   |cons p' q'=>
    cases q'
    exact⟨_,_,rfl,p,p'⟩
 refine Nf ?_ (by show 2<=LK;decide)
 have I2:Inv X pins σ H1 {s1 with heap:=s1.heap.push {cls:=.type "tuple",data:=.seq [u1,u2].toArray}}:=I1.kept (t':=s1.toks) λb o e=>q7 _ e
 rw[hw];refine gV (z4 ?_);show LR (model X.prog X.w) X.A (do rule "assign.swapped-stores";let items <-W5 (.ref s1.heap.objs.size) 2 Y;SO [λv=>Wo X.env y v,λv=>Wo X.env x v] items.reverse;pure Flow.next) _ _ _
 refine gV (Oc (gV (unpackItems_tuple (items:=#[u1,u2]) (I.ok.hd Fn) (Sf s1.heap _) λh' J=>?_)));have I3:=I2.kept (h':=h') (t':=s1.toks) λb o e=>J b o (Mt (LD e)) e;show LR _ _ (SO [λv=>Wo X.env y v,λv=>Wo X.env x v] [u2,u1]>>=λ_=>pure Flow.next) _ _ _;refine gV (Si (wpAny_bindName (fT I3 L fv (.inl O) rw' (λs2 I4=>?_) (.inr O))));refine Si (wpAny_bindName (fT I4 L hi (.inl hx) rv (λs3 U=>Vd (z4 ?_)) (.inr hx)));rw[List.set_comm _ _ (Ne.symm F)]at U;exact⟨_,H1,U,G⟩
noncomputable def GG(i:Nat)(te:TE)(ti:TIp):TS:=λD σ H=>∃x,σ[i]?=Z (Z x)/\te σ H λy H1=>ti x y H1 λz H2=>D.nx (σ.set i (Z z)) H2
theorem Do{ti:TIp}{pos':Pos}(G:X.N.Nodup)(hi:X.N[i]?=Z x)(hx:Loc X.env.scope x)(he:PE X e te)(ho:PIp X op ti)(hf:X.fn x=F2∨X.env.scope.names.lookup x=Z .local:=by first|exact .inl rfl|exact .inr rfl|assumption):
 PS X (.AugAssign (.Name x pos') op e pos) (GG i te ti):=by
 intro pins s σ H D I h;obtain⟨v,e1,h⟩:=h;obtain⟨m,J,L⟩:=I.loc;have vis:Vis X.env.scope x:=by rcases hx with k|k;exact .inl k;exact .inr (.inl k)
 obtain⟨u,r,l⟩:=L i x v hi e1 vis;refine wpAny_AugAssign_Name ?_;have go:LR (model X.prog X.w) X.A (eval e X.env) (λw s₂=>LR (model X.prog X.w) X.A (OY op u w) (λr s₃=>LR (model X.prog X.w) X.A (storeName X.env x r) (λ_=>SP X pins D .next) X.xe s₃) X.xe s₂) X.xe s:=by refine thn (he pins s σ H _ I h) λw s1 F=>?_;obtain⟨y,H1,O,U,Fn⟩:=F;refine thn (ho pins s1 σ H1 v y u w _ O r U Fn) λz s2 F=>?_;obtain⟨zv,H2,fv,r2,q2⟩:=F;exact fT fv G hi hx r2 (λs3 I3=>⟨_,H2,I3,q2⟩) hf
 rcases l with⟨j,hm⟩|⟨j,c,hc,B⟩
 ·exact U9 I.ok.kind j J hm go
 ·rcases j with j|j
  ·exact Uz I.ok.kind j hc B go
  ·rcases hx with k|k
   ·have:X.env.scope.names.lookup x=Z .free:=j;rw[k]at this;cases this
   ·have:X.env.scope.names.lookup x=Z .free:=j;rw[k]at this;cases this
noncomputable def Fk(to ti te:TE)(tget:V->V->Hp->VK->Prop)(tip:TIp)(tset:kM):TS:=λD σ H=>to σ H λo H1=>ti σ H1 λi H2=>tget o i H2 λx H3=>te σ H3 λy H4=>tip x y H4 λz H5=>tset o i z H5 λH6=>D.nx σ H6
def Dp(X:Cx)(t:V->V->Hp->VK->Prop):Prop:=
 ∀(pins:List (Xc×Obj)) (s:s9) (σ:St) (H:Hp) (o i:V) (ov iv:i0) (Q:VK),Inv X pins σ H s->RelV o ov->RelV i iv->t o i H Q->
  LR (model X.prog X.w) X.A (SG ov iv) (EP X pins σ Q) X.xe s
theorem B4{o i:Expr}{to ti:TE}{tget:V->V->Hp->VK->Prop}{tip:TIp}{tset:kM}{tpos:Pos}(ho:PE X o to)(hi:PE X i ti)(J:Dp X tget)(he:PE X e te)(L:PIp X op tip)(hs:PSet X tset)(O:∀ov iv new,augStore i ov iv new=(do holding [new,ov,iv] (Uv ov iv new);release [new,ov,iv] [];pure .next):=by intros;rfl):PS X (.AugAssign (.Subscript o i tpos) op e pos) (Fk to ti te tget tip tset):=by intro pins s σ H D I h;refine wpAny_AugAssign_SubscriptAny (thn (ho pins s σ H _ I h) λov s1 g9=>?_) O;obtain⟨z,H1,U,B,Fn⟩:=g9;refine thn (hi pins s1 σ H1 _ U Fn) λiv s2 j=>?_;obtain⟨F,H2,fv,G,q2⟩:=j;refine thn (J pins s2 σ H2 z F ov iv _ fv B G q2) λold s3 j=>?_;obtain⟨x3,H3,I3,r3,q3⟩:=j;refine thn (he pins s3 σ H3 _ I3 q3) λv s4 j=>?_;obtain⟨x4,H4,I4,r4,q4⟩:=j;refine thn (L pins s4 σ H4 x3 x4 old v _ I4 r3 r4 q4) λnew s5 j=>?_;obtain⟨x5,H5,I5,r5,q5⟩:=j;exact thn (hs pins s5 σ H5 z F x5 ov iv new _ I5 B G r5 q5) λ_ s6 j=>(by obtain⟨H6,I6,q6⟩:=j;exact⟨σ,H6,I6,q6⟩)
end
section
variable{X:Cx}{pos:Pos}
noncomputable def vp(c:TT)(tb:TS):TS:=λD σ H=>∃W:Nat->St->Hp->Prop,(∃m,W m σ H)/\∀m σ H,W m σ H->
 c σ H λb H1=>if b=F2 then ∃N:St->Hp->Prop,(∀σ' H',N σ' H'->∃m',m'<m/\W m' σ' H')/\tb {D with nx:=N,ct:=N,bk:=D.nx} σ H1 else D.nx σ H1
theorem yd{tc:TT}{tb:TS}(L:PassesOwn (model X.prog X.w) X.A X.env X.xe)(Fn:PT X c tc)(fv:PSs X body tb):PS X (.While c body [] pos) (vp tc tb):=by
 intro pins s σ H D I h;obtain⟨W,⟨m0,w0⟩,turn⟩:=h;refine wpAny_While (codeAny_whileLoop (λn s'=>∃σ' H',Inv X pins σ' H' s'/\W n σ' H') ?_ m0 ⟨σ,H,I,w0⟩);rintro n s1 ⟨σ1,H1,I1,w1⟩;refine Ph L (thn (Fn pins s1 σ1 H1 _ I1 (turn n σ1 H1 w1)) λb s2 g9=>?_);obtain⟨H2,O,z⟩:=g9
 cases b with
 |true=>
  obtain⟨N,U,z⟩:=z;rw[if_pos rfl];refine Ph L (thn (fv pins s2 σ1 H2 _ O z) λf s3 B=>?_)
  cases f with
  |next=>obtain⟨σ3,j,F,G⟩:=B;obtain⟨m',hm,J⟩:=U σ3 j G;exact⟨m',hm,σ3,j,F,J⟩
  |cont=>obtain⟨σ3,j,F,G⟩:=B;obtain⟨m',hm,J⟩:=U σ3 j G;exact⟨m',hm,σ3,j,F,J⟩
  |brk=>exact B
  |ret v=>exact B
 |false=>rw[if_neg LJ];exact TR ⟨σ1,H2,O,z⟩
end
structure It where
 go:Nat->Hp->Prop
 yld:Nat->Hp->V->Hp->Prop
 stop:Nat->Hp->Prop
def cM(X:Cx)(pins:List (Xc×Obj))(H:Hp)(b:Xc):Prop:=H b=Y/\b≠X.env.locals/\b∉X.fs/\(b∈X.ex∨X.s₀.heap.objs.size<=b)/\(∀x c,X.env.cells.lookup x=Z c->c≠b)/\∀p∈X.pn++pins,p.1≠b
theorem Inv.fpOk{H':Hp}(I:Inv X pins σ H s)(j:s.heap.objs.size<=b)(B:H' b=Y):cM X pins H' b:=by
 refine⟨B,Ny (Mz I.lt j),I.nofs j,.inr (NG I.sz j),λx c e z=>?_,λp F z=>?_⟩
 ·obtain⟨v,q⟩:=I.cell x c e;exact absurd (Mz q.lt (by rw[z];exact j)) (Nj _)
 ·exact absurd (Mz (LD (I.pin p F).1) (by rw[z];exact j)) (Nj _)
structure gF(P:Ml)(w:MQ)(K:Frag)(tg:Expr)(J:It)(fp:List Xc)(it:Xc)(tn:Nat->Heap->Prop):Prop where
 mem:it∈fp
 obj:∀i h,tn i h->∀b∈fp,∃o,h.get? b=Z o/\∀v,o.data≠.cell v
 keep:∀i h h',tn i h->(∀b∈fp,∀o,h.get? b=Z o->h'.get? b=Z o)->tn i h'
 item:∀(X:Cx),X.prog=P->X.w=w->X.K=K->X.calm=F2->∀(i:Nat) (pins:List (Xc×Obj)) (s:s9) (σ:St) (H:Hp) (E:i0->s9->Prop),Inv X pins σ H s->(∀b∈fp,cM X pins H b)->tn i s.heap->J.go i H->
  LR (model P w) X.A (OB (.ref it)) (λr s1=>∃u,r=Z u /\
   LR (model P w) X.A (RJ tg (.ref it) u) (λ_ s2=>∃x H',Inv X pins σ H' s2/\RelV x u/\J.yld i H x H'/\tn (i+1) s2.heap/\∀b∈fp,H' b=Y) E s1) E s
 done:∀(X:Cx),X.prog=P->X.w=w->X.K=K->X.calm=F2->∀(i:Nat) (pins:List (Xc×Obj)) (s:s9) (σ:St) (H:Hp) (E:i0->s9->Prop),Inv X pins σ H s->(∀b∈fp,cM X pins H b)->tn i s.heap->J.stop i H->
  LR (model P w) X.A (OB (.ref it)) (λr s1=>r=Y/\Inv X pins σ H s1) E s
 self:∀(A:MU) (i:Nat) (s:s9) (Q:i0->s9->Prop) (E:i0->s9->Prop),tn i s.heap->Q (.ref it) s->LR (model P w) A (Tq (.ref it)) Q E s
noncomputable abbrev TI:=St->Hp->(It->Hp->Prop)->Prop
def PIE(X:Cx)(pins:List (Xc×Obj))(σ:St)(tg:Expr)(R:It->Hp->Prop)(itv:i0)(s2:s9):Prop:=∃(it:Xc) (fp:List Xc) (tn:Nat->Heap->Prop) (J:It) (H':Hp),itv=.ref it/\Inv X pins σ H' s2/\gF X.prog X.w X.K tg J fp it tn/\tn 0 s2.heap/\(∀b∈fp,cM X pins H' b)/\R J H'
def PI(X:Cx)(tg iter:Expr)(wi:TI):Prop:=
 ∀(pins:List (Xc×Obj)) (s:s9) (σ:St) (H:Hp) (R:It->Hp->Prop),Inv X pins σ H s->wi σ H R->
  LR (model X.prog X.w) X.A (eval iter X.env) (λv s1=>LR (model X.prog X.w) X.A (Tq v) (PIE X pins σ tg R) X.xe s1) X.xe s
theorem nU{E:i0->s9->Prop}{it:Xc}{o:Obj}{n:String}{vs:Array i0}{Q:Unit->s9->Prop}(ho:s.heap.get? it=Z o)(z:o.cls=.type n)(hd:o.data=.fields vs)(B:["enumerate","zip","dict_itemiterator","dict_reverseitemiterator","odict_iterator","itertools.zip_longest","itertools.pairwise"].contains n=N2)(j:Q () s):LR M A (RJ tg (.ref it) u) Q E s:=by
 unfold RJ
 cases tg<;>first
  |exact z4 j
  | (cases u<;>first
      |exact z4 j
      | (refine gV (Wp ho ?_)
         rw[z,hd];show LR M A (if(["enumerate","zip","dict_itemiterator","dict_reverseitemiterator","odict_iterator","itertools.zip_longest","itertools.pairwise"].contains n&&vs[0]?==Z (Oz _))=F2 then _ else _) Q E s
         rw[if_neg (by intro h;rw[B,Bool.false_and]at h;cases h)]
         exact z4 j))
noncomputable def Itl(K:Frag)(a:Xc):It:=⟨λi H=>∃xs x,SqL K H a xs/\xs[i]?=Z x,λi H x H'=>H'=H/\∀xs,SqL K H a xs->xs[i]?=Z x,λi H=>∃xs,SqL K H a xs/\xs.length<=i⟩
noncomputable def Itt(K:Frag)(a:Xc):It:=⟨λi H=>∃xs x,SqT K H a xs/\xs[i]?=Z x,λi H x H'=>H'=H/\∀xs,SqT K H a xs->xs[i]?=Z x,λi H=>∃xs,SqT K H a xs/\xs.length<=i⟩
noncomputable def Itr(lo:Int)(n:Nat):It:=⟨λi _=>i<n,λi H x H'=>H'=H/\x=.int (lo+i),λi _=>n<=i⟩
theorem vq(a it:Xc):gF P w K tg (Itl K a) [it] it (λi h=>h.IsListIter it a i) where
 mem:=by simp
 obj:=λi h st b j=>by
  have e:b=it:=by simpa using j
  subst e;obtain⟨o,e,c,d⟩:=st;exact⟨o,e,λv z=>by rw[d]at z;cases z⟩
 keep:=λi h h' st k=>st.at λo e=>k it (by simp) o e
 item:=by
  intro X F hw G O i pins s σ H E I hf st hg;subst F hw G;obtain⟨xs,x,B,hx⟩:=hg;obtain⟨its,rv,p,U⟩:=I.list B;obtain⟨u,Fn,ru⟩:=rv.get hx;obtain⟨f0,f1,f2,J,f4,L⟩:=hf it (by simp)
  refine Tr st p.isList (x:=u) (by simpa using Fn) λh' st' sb=>?_
  have fv:Inv X pins σ H {s with heap:=h'}:=I.turned (t':=s.toks) (λb o j e=>(sb.2 b j).trans e) f0 f1 J f4 L
  obtain⟨o,e,c,d⟩:=id st';exact⟨u,rfl,nU (s:={s with heap:=h'}) e c d (by decide) ⟨x,H,fv,ru,⟨rfl,λys hy=>by rw[I.list_inj hy B];exact hx⟩,st',λb j=>(hf b j).1⟩⟩
 done:=by
  intro X F hw G O i pins s σ H E I hf st hg;subst F hw G;obtain⟨xs,B,hx⟩:=hg;obtain⟨its,rv,p,U⟩:=I.list B;obtain⟨f0,f1,f2,J,f4,L⟩:=hf it (by simp)
  have hl:=rv.length;exact U2 (I.ok.hd O) st p.isList (by simp;lia) λh' eb=>⟨rfl,I.turned (t':=s.toks) (λb o j e=>eb b o j e) f0 f1 J f4 L⟩
 self:=λ_ _ _ _ _ st h=>wpAny_pyIter_listiter st h
theorem tI(a it:Xc):gF P w K tg (Itt K a) [it] it (λi h=>h.IsTupleIter it a i) where
 mem:=by simp
 obj:=λi h st b j=>by
  have e:b=it:=by simpa using j
  subst e;obtain⟨o,e,c,d⟩:=st;exact⟨o,e,λv z=>by rw[d]at z;cases z⟩
 keep:=λi h h' st k=>st.at λo e=>k it (by simp) o e
 item:=by
  intro X F hw G O i pins s σ H E I hf st hg;subst F hw G;obtain⟨xs,x,B,hx⟩:=hg;obtain⟨its,rv,p,U⟩:=I.tuple B;obtain⟨u,Fn,ru⟩:=rv.get hx;obtain⟨f0,f1,f2,J,f4,L⟩:=hf it (by simp)
  refine wpAny_pyNext_tuple_item st (show s.heap.IsTuple a its.toArray from p) (x:=u) (by simpa using Fn) λh' st' sb=>?_
  have fv:Inv X pins σ H {s with heap:=h'}:=I.turned (t':=s.toks) (λb o j e=>(sb.2 b j).trans e) f0 f1 J f4 L
  obtain⟨o,e,c,d⟩:=id st';exact⟨u,rfl,nU (s:={s with heap:=h'}) e c d (by decide) ⟨x,H,fv,ru,⟨rfl,λys hy=>by rw[I.tuple_inj hy B];exact hx⟩,st',λb j=>(hf b j).1⟩⟩
 done:=by
  intro X F hw G O i pins s σ H E I hf st hg;subst F hw G;obtain⟨xs,B,hx⟩:=hg;obtain⟨its,rv,p,U⟩:=I.tuple B;obtain⟨f0,f1,f2,J,f4,L⟩:=hf it (by simp)
  have hl:=rv.length;exact wpAny_pyNext_tuple_end (I.ok.hd O) st (show s.heap.IsTuple a its.toArray from p) (by simp;lia) λh' eb=>⟨rfl,I.turned (t':=s.toks) (λb o j e=>eb b o j e) f0 f1 J f4 L⟩
 self:=λ_ _ _ _ _ st h=>wpAny_pyIter_tupleiter st h
theorem tJ(it:Xc)(lo:Int)(n:Nat):gF P w K tg (Itr lo n) [it] it (λi h=>IsRangeIter h it (lo+(i:Nat)*1) ((n:Int)-(i:Nat)) 1) where
 mem:=by simp
 obj:=λi h st b j=>by
  have e:b=it:=by simpa using j
  subst e;exact⟨_,st,λv z=>by
   have z':W6 _=Data.cell v:=z
   cases z'⟩
 keep:=λi h h' st k=>k it (by simp) _ st
 item:=by
  intro X B hw F G i pins s σ H E I hf st hg;subst B hw F;obtain⟨f0,f1,f2,J,f4,L⟩:=hf it (by simp)
  have W:=Walks.range (prog:=X.prog) (w:=X.w) (I.ok.hd G) it lo 1 n;refine W.item i s _ _ hg st λv h' tk O st' kk=>?_;obtain⟨t,rfl⟩:=O;have U:Inv X pins σ H {s with heap:=h',toks:=tk}:=I.turned (λb o j e=>kk b o (by simpa using j) e) f0 f1 J f4 L
  refine⟨_,rfl,nU (s:={s with heap:=h',toks:=tk}) (n:="range_iterator") st' rfl rfl (by decide) ⟨.int (lo+i),H,U,⟨t,?_⟩,⟨rfl,rfl⟩,st',λb j=>(hf b j).1⟩⟩
  rw[Int.mul_one]
 done:=by
  intro X B hw F G i pins s σ H E I hf st hg;subst B hw F;obtain⟨f0,f1,f2,J,f4,L⟩:=hf it (by simp)
  exact wpAny_pyNext_range_end (I.ok.hd G) st (by have:n<=i:=hg;lia) λh' eb=>⟨rfl,I.turned (t':=s.toks) (λb o j e=>eb b o j e) f0 f1 J f4 L⟩
 self:=λ_ _ _ _ _ st h=>wpAny_pyIter_rangeiter st h
end
variable{fp:List Xc}
section
section
variable{X:Cx}{tg:Expr}
theorem oU{R:It->Hp->Prop}{E:i0->s9->Prop}{lo hi:Int}{t u v:Tok}{tk:Nat}(I:Inv X pins σ H s)(h1:-(2^62)<=lo)(h2:lo<2^62)(z:-(2^62)<=hi)(B:hi<2^62)(q:R (Itr lo (hi-lo).toNat) H):LR (model X.prog X.w) X.A (Tq (.ref s.heap.objs.size)) (PIE X pins σ tg R) E {s with heap:=s.heap.push {cls:=.type "range",data:=.fields #[.int lo t,.int hi u,.int 1 v]},toks:=tk}:=by
 refine wpAny_pyIter_range (IsRange.new ..) (small_one h1 h2 z B) ?_;have j:Inv X pins σ H {s with heap:=s.heap.push {cls:=.type "range",data:=.fields #[.int lo t,.int hi u,.int 1 v]},toks:=tk}:=I.kept λb o e=>q7 _ e
 refine⟨(s.heap.push {cls:=.type "range",data:=.fields #[.int lo t,.int hi u,.int 1 v]}).objs.size,[(s.heap.push {cls:=.type "range",data:=.fields #[.int lo t,.int hi u,.int 1 v]}).objs.size],_,_,H,rfl,
  j.kept (t':=tk) λb o e=>q7 _ e,tJ _ lo (hi-lo).toNat,?_,λb F=>?_,q⟩
 ·have e1:lo+((0:Nat):Int)*1=lo:=by simp
  have e2:(((hi-lo).toNat:Nat):Int)-((0:Nat):Int)=QX lo hi 1:=by rw[rangeSize_one];split<;>lia
  show IsRangeIter _ _ (lo+((0:Nat):Int)*1) ((((hi-lo).toNat:Nat):Int)-((0:Nat):Int)) 1;rw[e1,e2];exact LF _ rfl
 ·have e:b=(s.heap.push {cls:=.type "range",data:=.fields #[.int lo t,.int hi u,.int 1 v]}).objs.size:=by simpa using F
  subst e;exact j.fpOk (LW _) (j.hok.fresh (LW _))
noncomputable def Fl(ta:TA):TI:=λσ H R=>ta σ H λvs H1=>∃j:Int,vs=[.int j] /\ -(2^62)<=j/\j<2^62/\R (Itr 0 j.toNat) H1
noncomputable def Fm(ta:TA):TI:=λσ H R=>ta σ H λvs H1=>∃i j:Int,vs=[.int i,.int j]/\(-(2^62)<=i/\i<2^62 /\ -(2^62)<=j/\j<2^62)/\R (Itr i (j-i).toNat) H1
theorem vt{a:Expr}{p:Pos}(B:Gl X "range")(hm:X.mg "range"=Y)(F:PA X [a] ta)(hs:Mk [a] X.env=[(N2,eval a X.env)]:=by rfl):PI X tg (.Call (.Name "range" p) [a] [] pos) (Fl ta):=by
 intro pins s σ H R I h;refine Call_ (bZ I B hm Wq (Nc (thn (F pos pins s σ H _ I h) λus s1 g9=>?_) hs rfl));obtain⟨vs,H1,G,J,z⟩:=g9;obtain⟨j,e,z,L,q⟩:=z;subst e
 cases J with
 |cons r rr=>
  cases rr
  obtain⟨t,rfl⟩:=r;exact call_range_1 (oU G ∅ ∅ z L (by simpa using q))
theorem vw{a b:Expr}{p:Pos}(F:Gl X "range")(hm:X.mg "range"=Y)(G:PA X [a,b] ta)(hs:Mk [a,b] X.env=[(N2,eval a X.env),(N2,eval b X.env)]:=by rfl)(z:Mk [b] X.env=[(N2,eval b X.env)]:=by rfl):
 PI X tg (.Call (.Name "range" p) [a,b] [] pos) (Fm ta):=by
 intro pins s σ H R I h;refine Call_ (bZ I F hm Wq (Nc (thn (G pos pins s σ H _ I h) λus s1 g9=>?_) (by rw[hs,z]) (by rw[z];rfl)));obtain⟨vs,H1,J,L,B⟩:=g9
 obtain⟨i,j,e,⟨B,O,U,Fn⟩,q⟩:=B;subst e
 cases L with
 |cons r rr=>
  cases rr with
  |cons r' rr=>
   cases rr
   obtain⟨t,rfl⟩:=r;obtain⟨t',rfl⟩:=r';exact call_range_2 (oU J B O U Fn q)
noncomputable def Dq(wi:TI)(g:TG)(tb:TS):TS:=λD σ H=>wi σ H λJ H1=>∃W:Nat->Nat->St->Hp->Prop,(∃m,W 0 m σ H1)/\∀i m σ H,W i m σ H->
 (J.stop i H/\D.nx σ H)∨(J.go i H/\∃N:St->Hp->Prop,(∀σ' H',N σ' H'->∃m',m'<m/\W (i+1) m' σ' H')/\∀x H',J.yld i H x H'->g x σ H' λσ2 H2=>tb {D with nx:=N,ct:=N,bk:=D.nx} σ2 H2)
noncomputable def jo(fp:List Xc)(h:Heap):List (Xc×Obj):=fp.filterMap λb=>(h.get? b).map λo=>(b,o)
theorem dF{o:Obj}(j:b∈fp)(e:h.get? b=Z o):(b,o)∈jo fp h:=UU.mpr ⟨b,j,by rw[e];rfl⟩
theorem vx{p:Xc×Obj}(j:p∈jo fp h):p.1∈fp/\h.get? p.1=Z p.2:=by
 obtain⟨b,z,e⟩:=UU.mp j
 cases q:h.get? b with
 |none=>rw[q]at e;cases e
 |some o=>rw[q]at e;have e':(b,o)=p:=NO.inj e;subst e';exact⟨z,q⟩
theorem Inv.pinned(I:Inv X pins σ H s)(hf:∀b∈fp,cM X pins H b)(ho:∀b∈fp,∃o,s.heap.get? b=Z o/\∀v,o.data≠.cell v):Inv X (pins++jo fp s.heap) σ H s:=
 I.pins_of λp B=>(LV.mp B).elim (λz=>I.pin p (Mp _ z)) λz=>by obtain⟨j,e⟩:=vx z;obtain⟨f0,f1,f2,_⟩:=hf p.1 j;obtain⟨o,e',d⟩:=ho p.1 j;rw[e]at e';cases e';exact⟨e,f0,f1,f2,d⟩
theorem Inv.unpinned{pl:List (Xc×Obj)}(I:Inv X (pins++pl) σ H s):Inv X pins σ H s:=I.pins_of λp j=>I.pin p (Mp _ (MJ _ j))
theorem Ds{iter:Expr}{wi:TI}{g:TG}{tb:TS}(O:PassesOwn (model X.prog X.w) X.A X.env X.xe)(hc:X.calm=F2)(hi:PI X tg iter wi)(hg:PG X tg g)(j:PSs X body tb)(hs:∀x,ON iter X.env x=pure x:=by intro _;rfl):PS X (.For tg iter body [] pos) (Dq wi g tb):=by
 intro pins s σ H D I h;refine wpAny_For (thn (hi pins s σ H _ I h) λv s1 h1=>thn h1 λitv s2 h2=>?_) hs;obtain⟨it,fp,tn,J,H2,e,I2,T,Jm,f2,W,⟨m0,w0⟩,turn⟩:=h2;subst e;have stat:∀{H':Hp},(∀b∈fp,H' b=Y)->∀b∈fp,cM X pins H' b:=λhn b j=>⟨hn b j,(f2 b j).2⟩;refine codeAny_forLoop_any (λn s'=>∃i σ' H',Inv X pins σ' H' s'/\tn i s'.heap/\(∀b∈fp,H' b=Y)/\W i n σ' H') ?_ m0 ⟨0,σ,H2,I2,Jm,λb j=>(f2 b j).1,w0⟩;rintro n s3 ⟨i,σ3,H3,I3,U,Fn,w3⟩
 rcases turn i n σ3 H3 w3 with⟨stop,qn⟩|⟨go,N,hN,step⟩
 ·refine Ph O (thn (T.done X rfl rfl rfl hc i pins s3 σ3 H3 X.xe I3 (stat Fn) U stop) λr s4 G=>?_);obtain⟨hr,I4⟩:=G;subst hr;exact TR ⟨σ3,H3,I4,qn⟩
 ·refine Ph O (thn (T.item X rfl rfl rfl hc i pins s3 σ3 H3 X.xe I3 (stat Fn) U go) fun r s4 G=>?_);obtain⟨u,hr,h4⟩:=G;subst hr;refine Ph O (thn h4 fun _ s5 G=>?_);obtain⟨x,H5,I5,r5,y5,L,Jn⟩:=G;have Jo:=I5.pinned (stat Jn) (T.obj _ _ L);refine Ph O (thn (hg _ s5 σ3 H5 x u _ Jo r5 (step x H5 y5)) fun _ s6 G=>?_);obtain⟨σ6,H6,I6,q6⟩:=G;refine Ph O (thn (j _ s6 σ6 H6 _ I6 q6) fun f s7 F=>?_);have again:∀{σ7:St} {z:Hp},Inv X (pins++jo fp s5.heap) σ7 z s7->N σ7 z->∃m,m<n/\∃i σ' H',Inv X pins σ' H' s7/\tn i s7.heap/\(∀b∈fp,H' b=Y)/\W i m σ' H':=fun {σ7 z} B fv=>by
   obtain⟨m',hm,w7⟩:=hN σ7 z fv;refine⟨m',hm,i+1,σ7,z,B.unpinned,T.keep _ _ _ L λb j o e=>(B.pin (b,o) (Mp _ (Mp _ (dF j e)))).1,λb j=>?_,w7⟩;obtain⟨o,e,d⟩:=T.obj _ _ L b j;exact(B.pin (b,o) (Mp _ (Mp _ (dF j e)))).2.1
  cases f with
  |next=>obtain⟨σ7,z,B,fv⟩:=F;exact again B fv
  |cont=>obtain⟨σ7,z,B,fv⟩:=F;exact again B fv
  |brk=>obtain⟨σ7,z,B,F⟩:=F;exact⟨σ7,z,B.unpinned,F⟩
  |ret v=>obtain⟨x7,σ7,z,B,r7,F⟩:=F;exact⟨x7,σ7,z,B.unpinned,r7,F⟩
end
end
variable{f:i0->i0->Sem i0}
section
noncomputable abbrev R2:=V->V->Hp->VK->Prop
def OpR(X:Cx)(f:i0->i0->Sem i0)(r:R2):Prop:=
 ∀(pins:List (Xc×Obj)) (s:s9) (σ:St) (H:Hp) (x y:V) (v u:i0) (Q:VK),Inv X pins σ H s->RelV x v->RelV y u->r x y H Q->
  LR (model X.prog X.w) X.A (f v u) (EP X pins σ Q) X.xe s
def UnR(X:Cx)(f:i0->Sem i0)(r:V->Hp->VK->Prop):Prop:=
 ∀(pins:List (Xc×Obj)) (s:s9) (σ:St) (H:Hp) (x:V) (v:i0) (Q:VK),Inv X pins σ H s->RelV x v->r x H Q->
  LR (model X.prog X.w) X.A (f v) (EP X pins σ Q) X.xe s
def CallR(X:Cx)(f:i0)(r:List V->Hp->VK->Prop):Prop:=
 ∀(pins:List (Xc×Obj)) (s:s9) (σ:St) (H:Hp) (xs:List V) (us:List i0) (Q:VK),Inv X pins σ H s->Vals xs us->r xs H Q->
  LR (model X.prog X.w) X.A (call f us) (EP X pins σ Q) X.xe s
def GH(X:Cx)(r:V->Hp->(Bool->Hp->Prop)->Prop):Prop:=
 ∀(pins:List (Xc×Obj)) (s:s9) (σ:St) (H:Hp) (x:V) (v:i0) (Q:Bool->Hp->Prop),Inv X pins σ H s->RelV x v->r x H Q->
  LR (model X.prog X.w) X.A (truthy v) (TP X pins σ Q) X.xe s
noncomputable def tOp(r:R2)(ta tb:TE):TE:=λσ H Q=>ta σ H λx H1=>tb σ H1 λy H2=>r x y H2 Q
noncomputable def tUn(r:V->Hp->VK->Prop)(ta:TE):TE:=λσ H Q=>ta σ H λx H1=>r x H1 Q
noncomputable def rI(C:Int->Int->Prop)(g:Int->Int->V):R2:=λx y H Q=>∃i j,x=.int i/\y=.int j/\C i j/\Q (g i j) H
noncomputable def rI0(g:Int->Int->V):R2:=λx y H Q=>∃i j,x=.int i/\y=.int j/\Q (g i j) H
noncomputable def rU(g:Int->V):V->Hp->VK->Prop:=λx H Q=>∃i,x=.int i/\Q (g i) H
section
variable{X:Cx}{a b c:Expr}{ta tb tc:TE}{pos:Pos}
theorem ye(z:PE X a ta)(B:PE X b tb){R:V->V->Hp->Prop}(I:Inv X pins σ H s)(h:ta σ H λx H1=>tb σ H1 λy H2=>R x y H2){Q:i0->s9->Prop}(hf:∀v u s2 x y H2,Inv X pins σ H2 s2->RelV x v->RelV y u->R x y H2->LR (model X.prog X.w) X.A (f v u) Q X.xe s2):
 LR (model X.prog X.w) X.A (eval a X.env) (λv s₁=>LR (model X.prog X.w) X.A (eval b X.env) (λu s₂=>LR (model X.prog X.w) X.A (f v u) Q X.xe s₂) X.xe s₁) X.xe s:=by
 refine thn (z pins s σ H _ I h) λv s1 j=>?_;obtain⟨x,H1,F,G,J⟩:=j;refine thn (B pins s1 σ H1 _ F J) λu s2 j=>?_;obtain⟨y,H2,L,O,U⟩:=j;exact hf v u s2 x y H2 L G O U
theorem Fo{r:R2}(ho:OpR X (O7 op) r)(j:PE X a ta)(z:PE X b tb):PE X (.BinOp a op b pos) (tOp r ta tb):=by intro pins s σ H Q I h;exact wpAny_BinOp (ye j z I h λv u s2 x y H2 B rx ry q=>ho pins s2 σ H2 x y v u Q B rx ry q)
theorem Fp{op:UnaryOp}{r:V->Hp->VK->Prop}(ho:UnR X (unaryOp op) r)(j:PE X a ta):PE X (.UnaryOp op a pos) (tUn r ta):=by intro pins s σ H Q I h;exact UnaryOp_ (thn (j pins s σ H _ I h) λv s1 z=>(by obtain⟨x,H1,B,F,G⟩:=z;exact ho pins s1 σ H1 x v Q B F G))
theorem opI{C:Int->Int->Prop}{g:Int->Int->Int}(rule:∀(i j:Int) (t u:Tok) (s:s9) (Q:i0->s9->Prop) (E:i0->s9->Prop),C i j->Q (.int (g i j) s.toks) {s with toks:=s.toks+1}->LR (model X.prog X.w) X.A (f (.int i t) (.int j u)) Q E s):
 OpR X f (rI C λi j=>.int (g i j)):=by
 intro pins s σ H x y v u Q I rx ry h;obtain⟨i,j,rfl,rfl,z,q⟩:=h;obtain⟨t,rfl⟩:=rx;obtain⟨t',rfl⟩:=ry;exact rule i j t t' s _ _ z ⟨.int (g i j),H,I.tok _,⟨_,rfl⟩,q⟩
theorem tK{g:Int->Int->Int}(rule:∀(i j:Int) (t u:Tok) (s:s9) (Q:i0->s9->Prop) (E:i0->s9->Prop),Q (.int (g i j) s.toks) {s with toks:=s.toks+1}->LR (model X.prog X.w) X.A (f (.int i t) (.int j u)) Q E s):
 OpR X f (rI0 λi j=>.int (g i j)):=by
 intro pins s σ H x y v u Q I rx ry h;obtain⟨i,j,rfl,rfl,q⟩:=h;obtain⟨t,rfl⟩:=rx;obtain⟨t',rfl⟩:=ry;exact rule i j t t' s _ _ ⟨.int (g i j),H,I.tok _,⟨_,rfl⟩,q⟩
theorem yf{g:Int->Int->Bool}(rule:∀(i j:Int) (t u:Tok) (s:s9) (Q:i0->s9->Prop) (E:i0->s9->Prop),Q (.bool (g i j)) s->LR (model X.prog X.w) X.A (f (.int i t) (.int j u)) Q E s):
 OpR X f (rI0 λi j=>.bl (g i j)):=by
 intro pins s σ H x y v u Q I rx ry h;obtain⟨i,j,rfl,rfl,q⟩:=h;obtain⟨t,rfl⟩:=rx;obtain⟨t',rfl⟩:=ry;exact rule i j t t' s _ _ ⟨.bl (g i j),H,I,rfl,q⟩
def GI(i j:Int):Prop:=0<=j/\j<=1000000/\i.natAbs<2^64
theorem op_add:OpR X (O7 .Add) (rI0 λi j=>.int (i+j)):=tK λ_ _ _ _ _ _ _ q=>add_int q
theorem Dt:OpR X (O7 .Sub) (rI0 λi j=>.int (i-j)):=tK λ_ _ _ _ _ _ _ q=>sub_int q
theorem Du:OpR X (O7 .Mod) (rI (λ_ j=>0<j) λi j=>.int (i%j)):=opI λi j _ _ _ _ _ z q=>by have h1:(0:Int)<j:=z;exact mod_int' ∅ (by rw[Int.fmod_eq_emod_of_nonneg i ∅];exact q)
theorem Dv:OpR X (O7 .Pow) (rI GI λi j=>.int (i^j.toNat)):=opI λ_ _ _ _ _ _ _ z q=>pow_int_small z.1 z.2.1 z.2.2 q
theorem B5:OpR X (OY .Add) (rI0 λi j=>.int (i+j)):=tK λ_ _ _ _ _ _ _ q=>iadd_int q
theorem B6:OpR X (OY .Sub) (rI0 λi j=>.int (i-j)):=tK λ_ _ _ _ _ _ _ q=>isub_int q
theorem unI{f:i0->Sem i0}{g:Int->Int}(rule:∀(i:Int) (t:Tok) (s:s9) (Q:i0->s9->Prop) (E:i0->s9->Prop),Q (.int (g i) s.toks) {s with toks:=s.toks+1}->LR (model X.prog X.w) X.A (f (.int i t)) Q E s):
 UnR X f (rU λi=>.int (g i)):=by
 intro pins s σ H x v Q I rx h;obtain⟨i,rfl,q⟩:=h;obtain⟨t,rfl⟩:=rx;exact rule i t s _ _ ⟨.int (g i),H,I.tok _,⟨_,rfl⟩,q⟩
theorem Dw:UnR X (unaryOp .USub) (rU λi=>.int (-i)):=unI λ_ _ _ _ _ q=>neg_int q
end
section
variable{X:Cx}{a b c:Expr}{ta tb tc:TE}{pos:Pos}
theorem Fq:OpR X (Oy .Lt) (rI0 λi j=>.bl (decide (i<j))):=yf λ_ _ _ _ _ _ _ q=>lt_int q
theorem Fs:OpR X (Oy .Gt) (rI0 λi j=>.bl (decide (j<i))):=yf λ_ _ _ _ _ _ _ q=>gt_int q
theorem Ft:OpR X (Oy .GtE) (rI0 λi j=>.bl (decide (j<=i))):=yf λ_ _ _ _ _ _ _ q=>ge_int q
theorem OpR.or{r r':R2}(h:OpR X f r)(h':OpR X f r'):OpR X f (λx y H Q=>r x y H Q∨r' x y H Q):=by
 intro pins s σ H x y v u Q I rx ry q
 rcases q with q|q
 ·exact h pins s σ H x y v u Q I rx ry q
 ·exact h' pins s σ H x y v u Q I rx ry q
theorem B7{op:CmpOp}{r:R2}(ho:OpR X (Oy op) r)(j:PE X a ta)(z:PE X b tb)(hm:QI op b=N2):PE X (.Compare a [op] [b] pos) (tOp r ta tb):=by intro pins s σ H Q I h;exact wpAny_Compare1 (ye j z I h λv u s2 x y H2 B rx ry q=>ho pins s2 σ H2 x y v u Q B rx ry q) hm
noncomputable def Aq(t:TE):TT:=λσ H Q=>t σ H λx H'=>∃k,x=.bl k/\Q k H'
theorem B8{op:CmpOp}{r:R2}(ho:OpR X (Oy op) r)(j:PE X a ta)(B:PE X b tb)(hm:QI op b=N2):PT X (.Compare a [op] [b] pos) (Aq (tOp r ta tb)):=by
 intro pins s σ H Q I h;refine wpAny_isTrue_Compare1 (thn (j pins s σ H _ I h) λv s1 ⟨x,H1,F,G,J⟩=>thn (B pins s1 σ H1 _ F J) λu s2 ⟨y,H2,L,O,U⟩=>thn (ho pins s2 σ H2 x y v u _ L G O U) λc s3 ⟨z,Fn,fv,r3,k,e,q3⟩=>?_) hm
 subst e
 cases r3
 exact Pn ⟨Fn,fv,q3⟩
def yg(K:Frag)(x:V)(H:Hp)(k:Bool):Prop:=
 match x with
 |.non=>k=N2
 |.bl b=>k=b
 |.int i=>k=(i != 0)
 |.str y=>y.length<=LK/\k=((y.length:Int) != 0)
 |.byt y=>y.size<=LK/\k=((y.size:Int) != 0)
 |.ref p=>(∃xs,SqL K H p xs/\k = !xs.isEmpty)∨(∃xs,SqT K H p xs/\k = !xs.isEmpty)∨∃kvs,H p=Z (.dK kvs)/\k = !kvs.isEmpty
 |_=>False
theorem tL{κ:Type}{kvs:List (κ×V)}{vs:List (κ×i0)}(r:KV kvs vs):(!vs.isEmpty) = !kvs.isEmpty:=by cases r<;>rfl
theorem jq{xs:List V}{its:List i0}(r:Vals xs its):(!its.toArray.isEmpty) = !xs.isEmpty:=by cases r<;>simp
theorem fD:(LK:Nat)<2^63:=by rw[I7];decide
theorem Dx:GH X (λx H Q=>∃k,yg X.K x H k/\Q k H):=by
 intro pins s σ H x v Q I rx h;obtain⟨k,e,q⟩:=h;have F:=fD;have hs:LK=16777216:=I7
 cases x with
 |non=>
  cases rx
  have e':k=N2:=e;subst e';exact truthy_none ⟨H,I,q⟩
 |bl b=>
  cases rx
  have e':k=b:=e;subst e';exact Pn ⟨H,I,q⟩
 |int i=>obtain⟨t,rfl⟩:=rx;have e':k=(i != 0):=e;subst e';exact PySem.P.truthy_int ⟨H,I,q⟩
 |str y=>obtain⟨t,rfl⟩:=rx;obtain⟨z,e'⟩:y.length<=LK/\k=((y.length:Int) != 0):=e;subst e';exact PySem.P.truthy_str ∅ ⟨H,I.tok _,q⟩
 |byt y=>obtain⟨t,rfl⟩:=rx;obtain⟨z,e'⟩:y.size<=LK/\k=((y.size:Int) != 0):=e;subst e';exact PySem.W.truthy_bytes ∅ ⟨H,I.tok _,q⟩
 |ref p=>
  cases rx
  have e':(∃xs,SqL X.K H p xs/\k = !xs.isEmpty)∨(∃xs,SqT X.K H p xs/\k = !xs.isEmpty)∨∃kvs,H p=Z (.dK kvs)/\k = !kvs.isEmpty:=e
  rcases e' with⟨xs,hx,e'⟩|⟨xs,hx,e'⟩|⟨kvs,hx,e'⟩
  ·subst e';obtain⟨its,r,pl,j⟩:=I.list hx;have hlen:=r.length;exact wpAny_truthy_list pl.isList (by simp only[LN];lia) ⟨H,I.tok _,by rw[jq r];exact q⟩
  ·subst e';obtain⟨its,r,pl,j⟩:=I.tuple hx;have hlen:=r.length;exact truthy_tuple pl (by simp only[LN];lia) ⟨H,I.tok _,by rw[jq r];exact q⟩
  ·subst e';obtain⟨j,B,vs,r,m⟩:kvs.length<=LK/\(p==O0)=N2/\∃vs,KV kvs vs/\s.heap.DictOf (aU X.prog X.w) p vs:=I.hok p _ hx;have hlen:kvs.length=vs.length:=QG r;exact wpAny_truthy_dict B m ∅ ⟨H,I.tok _,by rw[tL r];exact q⟩
 |_=>exact(show False from e).elim
theorem yh(j:PE X a ta)(he:∀whole,isTrue a X.env whole=(do let v <-whole;SF a.pos;holding [v] (truthy v))):
 PT X a (λσ H Q=>ta σ H λx H'=>∃k,yg X.K x H' k/\Q k H'):=by
 intro pins s σ H Q I h;exact isTrue_plain (thn (j pins s σ H _ I h) λv s1 z=>(by obtain⟨x,H1,B,F,G⟩:=z;exact Dx pins s1 σ H1 x v Q B F G)) (he _)
theorem tM:OpR X (O7 .Add) (λx y H Q=>∃i j,x=.str i/\y=.str j/\i.length+j.length<=LK/\Q (.str (i++j)) H):=by intro pins s σ H x y v u Q I rx ry h;obtain⟨i,j,rfl,rfl,z,q⟩:=h;obtain⟨t,rfl⟩:=rx;obtain⟨t',rfl⟩:=ry;exact add_str (λt' tk=>⟨.str (i++j),H,I.tok _,⟨_,rfl⟩,q⟩) z
theorem dG{x:V}(r:Vals [x] us):∃u,us=[u]/\RelV x u:=by
 cases r with
 |cons j z=>cases z;exact⟨_,rfl,j⟩
theorem nV{x y:V}(r:Vals [x,y] us):∃u w',us=[u,w']/\RelV x u/\RelV y w':=by
 cases r with
 |cons j z=>
  cases z with
  |cons B F=>cases F;exact⟨_,_,rfl,j,B⟩
theorem yi:CallR X (.builtin "abs") (λxs H Q=>∃i,xs=[.int i]/\Q (.int (if i<0 then -i else i)) H):=by intro pins s σ H xs us Q I r h;obtain⟨i,rfl,q⟩:=h;obtain⟨u,rfl,t,rfl⟩:=dG r;exact call_abs_int λu tk=>⟨.int (if i<0 then -i else i),H,I.tok _,⟨_,rfl⟩,q⟩
theorem vy(B:X.calm=F2):CallR X (.builtin "max") (λxs H Q=>∃i j,xs=[.int i,.int j]/\Q (.int (if j > i then j else i)) H):=by
 intro pins s σ H xs us Q I r h;obtain⟨i,j,rfl,q⟩:=h;obtain⟨u,w',rfl,⟨t,rfl⟩,⟨t',rfl⟩⟩:=nV r;refine max_two_ints (I.ok.hd B) λh' tk k=>⟨_,H,I.kept k,?_,q⟩
 by_cases z:j > i
 ·rw[if_pos z,if_pos z];exact⟨_,rfl⟩
 ·rw[if_neg z,if_neg z];exact⟨_,rfl⟩
theorem vz(B:X.calm=F2):CallR X (.builtin "min") (λxs H Q=>∃i j,xs=[.int i,.int j]/\Q (.int (if j<i then j else i)) H):=by
 intro pins s σ H xs us Q I r h;obtain⟨i,j,rfl,q⟩:=h;obtain⟨u,w',rfl,⟨t,rfl⟩,⟨t',rfl⟩⟩:=nV r;refine min_two_ints (I.ok.hd B) λh' tk k=>⟨_,H,I.kept k,?_,q⟩
 by_cases z:j<i
 ·rw[if_pos z,if_pos z];exact⟨_,rfl⟩
 ·rw[if_neg z,if_neg z];exact⟨_,rfl⟩
theorem vA:CallR X (.type "int") (λxs H Q=>(∃i,xs=[.int i]/\Q (.int i) H)∨∃k,xs=[.bl k]/\Q (.int (if k then 1 else 0)) H):=by
 intro pins s σ H xs us Q I r h
 rcases h with⟨i,rfl,q⟩|⟨k,rfl,q⟩
 ·obtain⟨u,rfl,t,rfl⟩:=dG r;exact call_int_int ⟨.int i,H,I,⟨_,rfl⟩,q⟩
 ·obtain⟨u,rfl,j⟩:=dG r
  cases j
  exact call_int_bool ⟨.int (if k then 1 else 0),H,I.tok _,⟨_,rfl⟩,q⟩
def GJ(K:Frag)(x:V)(H:Hp)(n:Nat):Prop:=
 match x with
 |.str y=>y.length<=LK/\n=y.length
 |.byt y=>y.size<=LK/\n=y.size
 |.ref p=>(∃xs,SqL K H p xs/\n=xs.length)∨∃xs,SqT K H p xs/\n=xs.length
 |_=>False
theorem yj:CallR X (.builtin "len") (λxs H Q=>∃x n,xs=[x]/\GJ X.K x H n/\Q (.int n) H):=by
 intro pins s σ H xs us Q I r h;obtain⟨x,n,rfl,e,q⟩:=h;obtain⟨u,rfl,rx⟩:=dG r;have B:=fD;have hs:LK=16777216:=I7
 cases x with
 |str y=>obtain⟨t,rfl⟩:=rx;obtain⟨j,e'⟩:y.length<=LK/\n=y.length:=e;subst e';exact len_str ∅ ⟨.int _,H,I.tok _,⟨_,rfl⟩,q⟩
 |byt y=>obtain⟨t,rfl⟩:=rx;obtain⟨j,e'⟩:y.size<=LK/\n=y.size:=e;subst e';exact PySem.W.len_bytes ∅ ⟨.int _,H,I.tok _,⟨_,rfl⟩,q⟩
 |ref p=>
  cases rx
  have e':(∃xs,SqL X.K H p xs/\n=xs.length)∨∃xs,SqT X.K H p xs/\n=xs.length:=e
  rcases e' with⟨xs,hx,e'⟩|⟨xs,hx,e'⟩
  ·subst e';obtain⟨its,r',pl,z⟩:=I.list hx;have hlen:=r'.length;exact Calls.call_len_list pl.isList (by simp only[LN];lia) ⟨.int xs.length,H,I.tok _,⟨_,by simp only[LN];rw[hlen]⟩,q⟩
  ·subst e';obtain⟨its,r',pl,z⟩:=I.tuple hx;have hlen:=r'.length;exact len_tuple pl (by simp only[LN];lia) ⟨.int xs.length,H,I.tok _,⟨_,by simp only[LN];rw[hlen]⟩,q⟩
 |_=>exact(show False from e).elim
end
end
section
structure ObjM(h:Heap)(x dx C:Xc)(mA:Str->Option i0):Prop where
 obj:h.get? x=Z (TQ C dx)
 ns:h.Ns1 dx mA
 ne:dx≠x
theorem vB{dx:Xc}{mA:Str->Option i0}(n:h.Ns1 dx mA):∃od,h.get? dx=Z od/\∀name,Ua name od=Z (mA name):=by
 obtain⟨o,es,ep,ho,hd,B,_,hm⟩:=n;refine⟨o,ho,λname=>?_⟩;have e:=hm name;unfold nsFind findBy at e;rw[<-Array.find?_toList]at e;unfold Ua;rw[hd];dsimp only
 split
 ·rename_i y q;rw[q]at e;exact congrArg Z e
 ·rename_i q;rw[q]at e;have a:es.toList.any (·.refKey)=N2:=by
   rw[List.any_eq_false];intro y F;obtain⟨z,t,j⟩:=B y (Array.mem_toList_iff.mp F);simp[DictEntry.refKey,j]
  have a':¬es.toList.any (·.refKey)=F2:=by rw[a];exact LJ
  rw[if_neg a'];exact congrArg Z e
theorem ObjM.look{x dx C:Xc}{mA:Str->Option i0}(I:ObjM h x dx C mA):∃od,PySem.W.InstAt h x (TQ C dx) C (Z od)/\∀name,Ua name od=Z (mA name):=
 let⟨od,ho,j⟩:=vB I.ns
 ⟨od,⟨I.obj,rfl,rfl,ho⟩,j⟩
theorem X5{o:Option i0}(r:RelO (Z v) o):∃u,o=Z u/\RelV v u:=by
 cases o with
 |none=>exact(show False from r).elim
 |some u=>exact⟨u,rfl,r⟩
section
variable{P:Ml}{w:MQ}{H H':Hp}{h h':Heap}{a C dx:Xc}{fs fs':List (Str×V)}
theorem B9(hok:HOk P w H h)(e:H a=Z (.ins C dx fs)):∃mA,ObjM h a dx C mA/\(∀f,RelO (fs.lookup f) (mA f))/\PySem.Within mA (fs.map (·.1))/\fs.length<=1000/\H dx=Z (.own a):=by obtain⟨d,z,ne,ob,mA,n,r,q⟩:=(show ObjOk P w H h a (.ins C dx fs)from hok a _ e);exact⟨mA,⟨ob,n,ne⟩,r,q,z,d⟩
end
structure Cls(K:Frag)(C:Xc):Prop where
 pg:VE K C Str.empty=F2
 hd:PySem.W.hasDictIn K C=F2
 po:PySem.W.plainOver K C=F2
 sa:PySem.W.findIn K (.ref C) "__setattr__"=Z (Z (.builtin "object.__setattr__"))
theorem Cls.get{C:Xc}(c:Cls K C)(f:Str):VE K C f=F2:=c.pg
section
variable{X:Cx}{pins:List (Xc×Obj)}{σ:St}{H:Hp}{s:s9}{A:MU}{E:i0->s9->Prop}{Q:i0->s9->Prop}{c:i0}{b:Bool}
inductive cN(K:Frag)(H:Hp):V->i0->Prop where
 |non:cN K H .non (.type "NoneType")
 |bl (x:Bool):cN K H (.bl x) (.type "bool")
 |int (i:Int):cN K H (.int i) (.type "int")
 |str (x:Str):cN K H (.str x) (.type "str")
 |flt (x:UInt64):cN K H (.flt x) (.type "float")
 |lst {a:Xc} {xs:List V} (e:H a=Z (.lst xs)):cN K H (.ref a) (.type "list")
 |frz {a:Xc} {o:Obj} {xs:List V} (e:H a=Z (.frz o (.lst xs))):cN K H (.ref a) (.type "list")
 |tup {a:Xc} {xs:List V} (e:SqT K H a xs):cN K H (.ref a) (.type "tuple")
 |dK {a:Xc} {kvs:List (Key×V)} (e:H a=Z (.dK kvs)):cN K H (.ref a) (.type "dict")
 |dT {a:Xc} {kvs:List (List Key×V)} (e:H a=Z (.dT kvs)):cN K H (.ref a) (.type "dict")
 | ins {a C dx:Xc} {fs:List (Str×V)} (e:H a=Z (.ins C dx fs)) (cl:Cls K C) (ha:PySem.W.findIn K (.ref C) "__class__"=Z (Z (.builtin "object.__class__")))
    (hn:PySem.W.specialIn K (.builtin "object.__class__") "__get__"=Z (Z (.builtin "getset_descriptor.__get__"))) (htk:PySem.W.takesIn K (.builtin "object.__class__")=Z F2)
    (hm:PySem.W.mroIn K C (.type "object")=Z F2):cN K H (.ref a) (.ref C)
theorem vC{x:V}{t:i0}(I:Inv X pins σ H s)(rx:RelV x u)(ty:cN X.K H x t)(e:PySem.W.kitOne X.K t c=Z b)(h:∀tk,Q (.bool b) {s with toks:=tk}):
 LR (model X.prog X.w) A (call (.builtin "isinstance") [u,c]) Q E s:=by
 cases ty with
 |non=>cases(show u=NZ from rx);exact NV PySem.W.kitx_none I.kIn Qt e (λz=>nomatch z) h
 |bl y=>cases(show u=UT y from rx);exact NV PySem.W.kitx_bool I.kIn Qt e (λz=>nomatch z) h
 |int i=>obtain⟨t,q⟩:=(show ∃t,u=VC i t from rx);cases q;exact NV PySem.W.kitx_int I.kIn Qt e (λz=>nomatch z) h
 |str y=>obtain⟨t,q⟩:=(show ∃t,u=VD y t from rx);cases q;exact NV PySem.W.kitx_str I.kIn Qt e (λz=>nomatch z) h
 |flt y=>obtain⟨t,q⟩:=(show ∃t,u=Value.float y t from rx);cases q;exact NV PySem.W.kitx_float I.kIn Qt e (λz=>nomatch z) h
 |@lst a xs ea=>
  cases(show u=MA a from rx)
  obtain⟨_,_,n,_,h1⟩:=(show ObjOk X.prog X.w H s.heap a (.lst xs)from I.hok a _ ea);exact NV Ve I.kIn ⟨_,h1,rfl⟩ e (λz=>nomatch z) h
 |@frz a ob xs ea=>
  cases(show u=MA a from rx)
  obtain⟨_,_,_,n,_,h1⟩:=(show ObjOk X.prog X.w H s.heap a (.frz ob (.lst xs))from I.hok a _ ea);exact NV Ve I.kIn ⟨_,h1,rfl⟩ e (λz=>nomatch z) h
 |@tup a xs ea=>
  cases(show u=MA a from rx)
  obtain⟨_,_,p,_⟩:=I.tuple ea;obtain⟨o,h1,h2,_⟩:=p;exact NV PySem.W.kitx_tuple I.kIn ⟨o,h1,h2⟩ e (λz=>nomatch z) h
 |@dK a kvs ea=>
  cases(show u=MA a from rx)
  obtain⟨_,_,vs,_,p⟩:=(show ObjOk X.prog X.w H s.heap a (.dK kvs)from I.hok a _ ea);obtain⟨o,es,ep,h1,h2,_⟩:=p;exact NV Vf I.kIn ⟨o,h1,h2.1⟩ e (λz=>nomatch z) h
 |@dT a kvs ea=>
  cases(show u=MA a from rx)
  obtain⟨_,_,xs,_,o,es,ep,h1,h2,_⟩:=(show ObjOk X.prog X.w H s.heap a (.dT kvs)from I.hok a _ ea);exact NV Vf I.kIn ⟨o,h1,h2.1⟩ e (λz=>nomatch z) h
 |@ins a C dx fs ea cl ha hn htk hm=>
  cases(show u=MA a from rx)
  obtain⟨mA,O,_⟩:=B9 I.hok ea;obtain⟨od,J,_⟩:=O.look;exact NV (PySem.W.kitx_own (cl.get _) cl.hd ha hn htk hm) I.kIn J e (λz=>nomatch z) h
end
end
variable{mg:Str->Option i0}{base:Heap}{ps:List Str}
section
structure Room(k:Nat)(A:MU):Prop where
 hd:A.handled=Y
 dp:A.depth+3*k+5<recursionLimit
 un:A.units+16*k+200<Po
theorem Room.deeper{k:Nat}(r:Room (k+1) A)(env:Env):Room k (A.deeper env):=⟨r.hd,by have:=r.dp;show A.depth+1+3*k+5<_;lia,by have:=r.un;show A.units+3+16*k+200<_;lia⟩
theorem Room.depth{k:Nat}(r:Room k A):A.depth<recursionLimit:=by have:=r.dp;lia
theorem Room.units{k:Nat}(r:Room k A):A.units+64<Po:=by have:=r.un;lia
noncomputable def yk:TA:=λ_ H Q=>Q [] H
noncomputable def tN(ta:TE)(tr:TA):TA:=λσ H Q=>ta σ H λx H1=>tr σ H1 λxs H2=>Q (x::xs) H2
section
variable{X:Cx}{e:Expr}{es:List Expr}{te:TE}{t:TA}{pos:Pos}
theorem jr:PA X [] yk:=λ_ _ _ _ H Q I h=>Qn ⟨[],H,I,.nil,h⟩
theorem dQ(z:PE X e te)(B:PA X es t)(hs:Mk (e::es) X.env=(N2,eval e X.env)::Mk es X.env:=by rfl):PA X (e::es) (tN te t):=by intro pos pins s σ H Q I h;rw[hs];show LR _ _ (spliced ((N2,eval e X.env)::PV pos (Mk es X.env))) _ _ s;refine P4 (thn (z pins s σ H _ I h) λu s1 j=>?_);obtain⟨x,H1,F,G,J⟩:=j;exact thn (B pos pins s1 σ H1 _ F J) λus s2 j=>(by obtain⟨xs,H2,L,O,U⟩:=j;exact⟨x::xs,H2,L,.cons G O,U⟩)
noncomputable def GK(t:TA):TE:=λσ H Q=>t σ H λxs H1=>xs.length<=LK/\∀p,H1 p=Y->Q (.ref p) (upd H1 p (.tup xs))
noncomputable def GM(t:TA):TE:=λσ H Q=>t σ H λxs H1=>xs.length<=LK/\∀p,H1 p=Y->Q (.ref p) (upd H1 p (.lst xs))
theorem Dy{B}(h:PA X es t):PE X (.Tuple es B pos) (GK t):=by
 intro pins s σ H Q I hq;refine wpAny_Tuple_spliced (thn (h pos pins s σ H _ I hq) λus s1 ⟨xs,H1,j,r,z,q⟩=>⟨by rw[<-r.length];exact z,?_⟩)
 have hf:H1 s1.heap.objs.size=Y:=j.hok.fresh (LW _);refine⟨.ref s1.heap.objs.size,upd H1 s1.heap.objs.size (.tup xs),j.laid (t':=s1.toks) (λb u e=>q7 _ e) (LW _) ?_,rfl,q _ hf⟩;exact⟨z,us,r,⟨_,LF _ rfl,rfl,_,rfl⟩⟩
theorem Dz(h:PA X es t):PE X (.List es pos) (GM t):=by
 intro pins s σ H Q I hq;refine wpAny_List_spliced (thn (h pos pins s σ H _ I hq) λus s1 ⟨xs,H1,j,r,z,q⟩=>⟨by rw[<-r.length];exact z,?_⟩)
 have hf:H1 s1.heap.objs.size=Y:=j.hok.fresh (LW _);refine⟨.ref s1.heap.objs.size,upd H1 s1.heap.objs.size (.lst xs),j.laid (t':=s1.toks) (λb u e=>q7 _ e) (LW _) ?_,rfl,q _ hf⟩;exact⟨z,us,0,r,LF _ rfl⟩
end
noncomputable abbrev Sp:=List V->Hp->VK->XK->Prop
noncomputable abbrev CXT:=List Env->Hp->s9->XK->i0->s9->Prop
structure gG(P:Ml)(w:MQ)(K:Frag)(mg:Str->Option i0)(base:Heap)(A:MU)(outer:List Env)(s:s9)(H:Hp):Prop where
 frames:A.frames=Z outer
 mod:Mod K mg base
 bs:∀b o,base.get? b=Z o->s.heap.get? b=Z o/\H b=Y
 bsz:base.objs.size<=s.heap.objs.size
 funs:s.heap.FunFrames base outer
 frf:∀b∈frs outer,H b=Y
 hok:HOk P w H s.heap
 bare:SE s.gens
def CE(outer:List Env)(P:Ml)(w:MQ)(H:Hp)(s:s9)(Q:VK)(u:i0)(s':s9):Prop:=∃v H',s'.os=s.os/\SE s'.gens/\Un (frs outer) [] H H' s.heap s'.heap/\HOk P w H' s'.heap/\RelV v u/\Q v H'
def CR(CX:CXT)(outer:List Env)(P:Ml)(w:MQ)(H:Hp)(s:s9)(Q:VK)(E:XK)(r:VF)(s':s9):Prop:=
 match r with
 |.ok (.ret u)=>CE outer P w H s Q u s'
 |.ok _=>False
 |.error e=>CX outer H s E e s'
structure FnOk(P:Ml)(w:MQ)(K:Frag)(mg:Str->Option i0)(base:Heap)(CX:CXT)(k:Nat)(f:Xc)(fd:Oe)(ps:List Str)(sp:Sp):Prop where
 len:∀vs H Q E,sp vs H Q E->vs.length=ps.length
 run:∀(A:MU) (outer:List Env) (s:s9) (H:Hp) (args:Args) (us:List i0) (vs:List V) (Q:VK) (E:XK),Room k A->gG P w K mg base A outer s H->Uw s fd args (ps.zip us)->Vals vs us->sp vs H Q E->
  Pb (model P w) A (.call (.ref f) args) (CR CX outer P w H s Q E) s
theorem FnOk.imp{CX:CXT}{k:Nat}{f:Xc}{fd:Oe}{sp sp':Sp}(F:FnOk P w K mg base CX k f fd ps sp)(h:∀vs H Q E,sp' vs H Q E->sp vs H Q E):FnOk P w K mg base CX k f fd ps sp':=⟨λvs H Q E q=>F.len vs H Q E (h _ _ _ _ q),λA outer s H args us vs Q E j he z B hs=>F.run A outer s H args us vs Q E j he z B (h _ _ _ _ hs)⟩
section
variable{X:Cx}{pins:List (Xc×Obj)}{σ:St}{H:Hp}{s s':s9}
theorem Inv.env0(I:Inv X pins σ H s):gG X.prog X.w X.K X.mg X.base X.A X.stack s H:=⟨I.ok.frames,I.ok.mod,I.bs,NG I.ok.bsz I.sz,I.stack,I.stkFree,I.hok,I.bare⟩
theorem Inv.after{Q:VK}(I:Inv X pins σ H s)(h:CE X.stack X.prog X.w H s Q u s'):EP X pins σ Q u s':=by obtain⟨v,H',os,bare,un,hok,r,q⟩:=h;obtain⟨j,g,d,t,os'⟩:=s';obtain rfl:os'=s.os:=os;exact⟨v,H',I.call (h':=j) (g':=g) (d':=d) (t':=t) (ch:=[]) un hok bare (λb z=>absurd z (by simp)),r,q⟩
end
noncomputable def Ar(sp:Sp)(dvs:List V)(E:XK)(t:TA):TE:=λσ H Q=>t σ H λvs H1=>sp (vs++dvs) H1 Q E
def Binds(K:Frag)(fd:Oe)(ps:List Str)(ds:List i0):Prop:=∀(s:s9) (us:List i0),K.In s.heap->(us++ds).length=ps.length->Uw s fd ⟨us,[]⟩ (ps.zip (us++ds))
theorem Binds.all{fd:Oe}(h:∀us:List i0,us.length=ps.length->Ub fd ⟨us,[]⟩=pure (ps.zip us)):Binds K fd ps []:=λs us _ j=>by rw[Np]at j⊢;exact .of_eq (h us j)
def jt(CX:CXT)(X:Cx)(E:XK):Prop:=∀(pins:List (Xc×Obj)) (σ:St) (H:Hp) (s:s9) (e:i0) (s':s9),Inv X pins σ H s->CX X.stack H s E e s'->X.xe e s'
section
variable{X:Cx}{CX:CXT}{k:Nat}{f C:Xc}{fd:Oe}{ps:List Str}{sp:Sp}{dvs:List V}{ds:List i0}{E:XK}{x m:Str}{p pos apos:Pos}{e o:Expr}{es:List Expr}{ta:TE}{t:TA}
theorem vD{Q:VK}{vs:List V}(F:FnOk X.prog X.w X.K X.mg X.base CX k f fd ps sp)(B:Room k X.A)(G:Binds X.K fd ps ds)(hd:Vals dvs ds)(hx:jt CX X E)(I:Inv X pins σ H s)(r:Vals vs us)(h:sp (vs++dvs) H Q E):LR (model X.prog X.w) X.A (call (.ref f) us) (EP X pins σ Q) X.xe s:=by
 have z:Vals (vs++dvs) (us++ds):=r.append hd;have J:(us++ds).length=ps.length:=by rw[<-z.length];exact F.len _ _ _ _ h
 refine Ts (OE (F.run X.A X.stack s H ⟨us,[]⟩ (us++ds) (vs++dvs) Q E B I.env0 (G s us I.kIn J) z h) λr s' j=>?_)
 cases r with
 |error e=>exact hx pins σ H s e s' I j
 |ok fl=>
  cases fl with
  |ret u=>exact I.after j
  |next=>exact False.elim j
  |brk=>exact False.elim j
  |cont=>exact False.elim j
theorem rN(F:FnOk X.prog X.w X.K X.mg X.base CX k f fd ps sp)(G:Room k X.A)(J:Gl X x)(hm:X.mg x=Z (.ref f))(L:P5 X.K (.ref f)=F2)(O:Binds X.K fd ps ds)(hd:Vals dvs ds)(hx:jt CX X E)(U:PA X (e::es) t)(j:(x==("__debug__":Str))=N2:=by decide)(he:Mk (e::es) X.env=(N2,eval e X.env)::Mk es X.env:=by rfl)(z:(PV pos (Mk es X.env)).any (·.1)=N2:=by rfl):
 PE X (.Call (.Name x p) (e::es) [] pos) (Ar sp dvs E t):=by
 intro pins s σ H Q I h;refine NI (kL I J hm ?_ j);refine UW (h₀:=X.base) I.ok.mod.kin L (thn (U pos pins s σ H _ I h) λus s1 ⟨vs,H1,B,r,q⟩=>⟨B.kIn,?_⟩) he z;exact vD F G O hd hx B r q
theorem ym(F:FnOk X.prog X.w X.K X.mg X.base CX k f fd ps sp)(z:Room k X.A)(B:Gl X x)(hm:X.mg x=Z (.ref f))(G:P5 X.K (.ref f)=F2)(J:Binds X.K fd ps ds)(hd:Vals dvs ds)(hx:jt CX X E)(j:(x==("__debug__":Str))=N2:=by decide):PE X (.Call (.Name x p) [] [] pos) (Ar sp dvs E yk):=by intro pins s σ H Q I h;refine NI (kL I B hm ?_ j);exact PySem.W.callWith_K0 I.kIn G (vD (us:=[]) F z J hd hx I .nil h)
end
structure cL(N P:List Str)(sc:Scope):Prop where
 kind:sc.kind=.function
 co:sc.isCoroutine=N2
 gen:sc.isGenerator=N2
 nd:N.Nodup
 pre:N.take P.length=P
 par:∀x∈P,sc.names.lookup x=Z .local∨sc.names.lookup x=Z .cell
 nofree:∀y∈sc.names,y.2≠.free
theorem m8{O1:Str->Option P6}{x:Str}:∀{binds:List (Str×i0)} {m:Str->Option i0},(∀v,(x,v)∉binds)->Wr O1 binds m x=m x
 |[],_,_=>rfl
 |(n,v)::r,m,h=>by
  unfold Wr;rw[m8 λw hw=>h w (Mg _ hw)]
  split
  ·have:x≠n:=by rintro rfl;exact h v Mr
   simp[this]
  ·rfl
theorem m9{O1:Str->Option P6}{x:Str}:∀{binds:List (Str×i0)} {m:Str->Option i0},(∀v,(x,v)∉binds)->Ws O1 binds m x=m x
 |[],_,_=>rfl
 |(n,v)::r,m,h=>by
  unfold Ws;rw[m9 λw hw=>h w (Mg _ hw)]
  split
  ·rfl
  ·have:x≠n:=by rintro rfl;exact h v Mr
   simp[this]
theorem md{O1:Str->Option P6}{x:Str}{v:i0}:∀{P:List Str} {vs:List i0} {i:Nat} {m:Str->Option i0},P.Nodup->P[i]?=Z x->vs[i]?=Z v->O1 x=Z .local->
 Wr O1 (P.zip vs) m x=Z v
 |[],_,_,_,_,h,_,_=>by simp at h
 |_::_,[],_,_,_,_,h,_=>by simp at h
 |p::P,w::vs,0,m,nd,h1,h2,j=>by simp at h1 h2;subst h1;subst h2;show Wr O1 ((p,w)::P.zip vs) m p=_;unfold Wr;rw[m8 λv z=>(NL.mp nd).1 (Q8 z).1,if_pos j];simp
 |p::P,w::vs,i+1,m,nd,h1,h2,j=>by show Wr O1 ((p,w)::P.zip vs) m x=_;unfold Wr;exact md (i:=i) (NL.mp nd).2 (by simpa using h1) (by simpa using h2) j
theorem mf{O1:Str->Option P6}{x:Str}{v:i0}:∀{P:List Str} {vs:List i0} {i:Nat} {m:Str->Option i0},P.Nodup->P[i]?=Z x->vs[i]?=Z v->O1 x≠Z .local->
 Ws O1 (P.zip vs) m x=Z v
 |[],_,_,_,_,h,_,_=>by simp at h
 |_::_,[],_,_,_,_,h,_=>by simp at h
 |p::P,w::vs,0,m,nd,h1,h2,j=>by simp at h1 h2;subst h1;subst h2;show Ws O1 ((p,w)::P.zip vs) m p=_;unfold Ws;rw[m9 λv z=>(NL.mp nd).1 (Q8 z).1,if_neg j];simp
 |p::P,w::vs,i+1,m,nd,h1,h2,j=>by show Ws O1 ((p,w)::P.zip vs) m x=_;unfold Ws;exact mf (i:=i) (NL.mp nd).2 (by simpa using h1) (by simpa using h2) j
noncomputable def bH(N:List Str)(vs:List V):St:=vs.map Z++D1 (N.length-vs.length) Y
noncomputable def cG(CX:CXT)(P:Ml)(w:MQ)(K:Frag)(mg:Str->Option i0)(base:Heap)(N:List Str)(qual:Str)(scope:Scope)(f:Xc)(cd:i0)(A:MU)(outer:List Env)(s:s9)(H:Hp)(E:XK):Cx where
 prog:=P
 w:=w
 K:=K
 mg:=mg
 base:=base
 A:=A.deeper (Rm qual scope s.heap.objs.size f cd)
 N:=N
 s₀:=s
 H₀:=H
 env:=Rm qual scope s.heap.objs.size f cd
 outer:=outer
 stack:=Rm qual scope s.heap.objs.size f cd::outer
 ex:=[]
 calm:=F2
 fn:=λ_=>F2
 pn:=[]
 xe:=λe s'=>LR (model P w) (A.deeper (Rm qual scope s.heap.objs.size f cd)) (leaving (Rm qual scope s.heap.objs.size f cd) e) (λ_ s''=>CX outer H s E e s'') (λe' s''=>CX outer H s E e' s'') s'
theorem oV{sc:Scope}{n:Nat}(h:sc.names.lookup x=Z .cell):∃c,(OC n sc.names []).lookup x=Z c:=by have q:=PX sc.names n [] (.inl h);exact Pw.mp q
theorem mj{CX:CXT}{qual:Str}{scope:Scope}{f:Xc}{cd:i0}{outer:List Env}{s1:s9}{E:XK}{vs:List V}(S:cL N ps scope)(hd:A.handled=Y)(e0:gG P w K mg base A outer s H)(O:vs.length=ps.length)(r:Vals vs us)(x:InCallC s s.heap.objs.size (Wr (Rm qual scope s.heap.objs.size f cd).kindOf (ps.zip us) λ_=>Y) (OC (s.heap.objs.size+1) scope.names []) (Ws (Rm qual scope s.heap.objs.size f cd).kindOf (ps.zip us) λ_=>Y) s1):
 Inv (cG CX P w K mg base N qual scope f cd A outer s H E) [] (bH N vs) H s1:=by
 have J:ps.length<=N.length:=by have:=congrArg O6 S.pre;rw[Mm]at this;lia
 obtain⟨h1,tk,rfl,F⟩:=x.done;have noA:∀b:Xc,b∉(cG CX P w K mg base N qual scope f cd A outer s H E).ex:=λb z=>absurd (show b∈([]:List Xc)from z) (by simp)
 refine⟨⟨e0.mod,S.kind,rfl,rfl,LW _,λy z c h1 h2=>?_,λy j=>?_,λy c _ h=>?_,λ_=>hd,Uc e0.frames,.inr ⟨rfl,rfl⟩,λb z=>absurd z (noA b),e0.bs,e0.bsz,λb _ _=>noA b,λb z=>absurd z (noA b),e0.funs,e0.frf⟩,
  rfl,e0.bare,Un.kept F,⟨_,x.toInCall.ns,λi y v h1 h2 U=>?_⟩,λy c h=>⟨_,x.cell y c h⟩,e0.hok.fresh (LW _),λy c h=>?_,λp B=>absurd (show p∈([]:List (Xc×Obj))from B) (by simp),e0.hok.kept F,?_⟩
 ·exact name_of_addr x.apart (N5 h1) (N5 h2)
 ·have j:scope.names.lookup y=Z .cell∨scope.names.lookup y=Z .free:=j
  rcases j with j|j
  ·exact oV j
  ·exact absurd rfl (S.nofree _ (N5 j))
 ·exact PU (x.above y c (N5 h))
 ·have hi:i<vs.length:=by
   unfold bH at h2
   by_cases hi:i<vs.length
   ·exact hi
   ·rw[D2 (by simpa using hi)]at h2
    rw[T6]at h2
    split at h2<;>cases h2
  have L:vs[i]?=Z v:=by
   unfold bH at h2;rw[LY (by simpa using hi),LQ]at h2
   cases e:vs[i]? with
   |none=>rw[e]at h2;cases h2
   |some a=>rw[e]at h2;cases h2;rfl
  obtain⟨u,G,rv⟩:=r.get L;have B:ps[i]?=Z y:=by rw[<-S.pre,O8 ∅];exact h1
  have ndP:ps.Nodup:=by rw[<-S.pre];exact S.nd.sublist (List.take_sublist _ _)
  refine⟨u,rv,?_⟩
  rcases S.par y (Mh B)with k|k
  ·exact .inl ⟨k,md ndP B G k⟩
  ·obtain⟨c,e⟩:=oV (n:=s.heap.objs.size+1) k;refine .inr ⟨.inl k,c,e,?_⟩;have q:=x.cell y c e;rw[mf ndP B G (by show scope.names.lookup y≠_;rw[k];decide)]at q
   exact q
 ·exact e0.hok.fresh (PU (x.above y c (N5 h)))
 ·unfold bH;show _=N.length;rw[J4,tv,Nx];lia
theorem As {CX:CXT}{k:Nat}{f:Xc}{name qual:Str}{params:Qj}{scope:Scope}{dV kV doc pm cdv ct oc:i0}{an od:Option Xc}{osl:Array (Option i0)}{sp:Sp}(lk:K.lookup f=Z ⟨oc,od,.func (OF name qual params body scope dV kV doc pm an cdv ct),osl⟩)(F:Qu K cdv qual=F2)(S:cL N ps scope)(len:∀vs H Q E,sp vs H Q E->vs.length=ps.length)(j:∀(A:MU) (outer:List Env) (s:s9) (H:Hp) (vs:List V) (Q:VK) (E:XK),Room k (A.deeper (Rm qual scope s.heap.objs.size f cdv))->sp vs H Q E->
   ∃t,PSs (cG CX P w K mg base N qual scope f cdv A outer s H E) body t/\t {nx:=λ_ H'=>Q .non H',rt:=Q} (bH N vs) H):
 FnOk P w K mg base CX (k+1) f (OF name qual params body scope dV kV doc pm an cdv ct) ps sp:=by
 refine⟨len,λA outer s H args us vs Q E G e0 L r B=>?_⟩;have O:=len _ _ _ _ B;have KX:K.In s.heap:=e0.mod.kin.keeps λb o e=>(e0.bs b o e).1;have lim:s.heap.NoLimit:=e0.mod.nolimit.keeps λb o e=>(e0.bs b o e).1;have z:∀y∈ps.zip us,scope.names.lookup y.1=Z .local∨(scope.names.lookup y.1=Z .cell/\((OC (s.heap.objs.size+1) scope.names []).lookup y.1).isSome=F2):=λ⟨n,v⟩ hy=>by
  rcases S.par n (Q8 hy).1 with q|q
  ·exact .inl q
  ·exact .inr ⟨q,PX _ _ _ (.inl q)⟩
 refine U3 G.depth (KX _ _ lk) rfl S.co S.gen rfl (UX KX F) (L _ _ _ _ ?_);refine Sj S.kind z λenv he s1 x=>?_;subst he;refine⟨lim.keeps x.toInCall.keep,codeAny_func ?_⟩;obtain⟨t,U,Fn⟩:=j A outer s H vs Q E (G.deeper _) B;have I:Inv (cG CX P w K mg base N qual scope f cdv A outer s H E) [] (bH N vs) H s1:=mj S G.hd e0 O r x;refine Nv (U [] s1 (bH N vs) H _ I Fn) (λfl s' hs=>?_) λe s' hs=>hs;have fin:∀{σ':St} {H':Hp} {v:V} {u:i0},Inv (cG CX P w K mg base N qual scope f cdv A outer s H E) [] σ' H' s'->RelV v u->Q v H'->CE outer P w H s Q u s':=λ{σ' H' v u} J rv q=>⟨v,H',J.os,J.bare,J.base,J.hok,rv,q⟩
 cases fl with
 |ret u=>obtain⟨v,σ',H',J,rv,q⟩:=hs;exact fin J rv q
 |next=>obtain⟨σ',H',J,q⟩:=hs;exact fin (v:=V.non) (u:=NZ) J rfl q
 |brk=>obtain⟨_,_,_,q⟩:=hs;exact False.elim q
 |cont=>obtain⟨_,_,_,q⟩:=hs;exact False.elim q
end
section
section
variable{X:Cx}{x:Str}{p pos:Pos}{e:Expr}{es:List Expr}{t:TA}{id T:String}{r:List V->Hp->VK->Prop}
noncomputable def tCB(r:List V->Hp->VK->Prop)(t:TA):TE:=λσ H Q=>t σ H λvs H1=>r vs H1 Q
theorem ca(B:CallR X (.builtin id) r)(F:Gl X x)(hm:X.mg x=Y)(G:PR x=Z (.builtin id))(J:PA X (e::es) t)(L:x≠"__name__":=by decide)(j:(x==("__debug__":Str))=N2:=by decide)(he:Mk (e::es) X.env=(N2,eval e X.env)::Mk es X.env:=by rfl)(z:(PV pos (Mk es X.env)).any (·.1)=N2:=by rfl):PE X (.Call (.Name x p) (e::es) [] pos) (tCB r t):=by intro pins s σ H Q I h;refine NI (bZ I F hm G ?_ L j);exact Ro (thn (J pos pins s σ H _ I h) λus s1 O=>(by obtain⟨vs,H1,U,Fn,fv⟩:=O;exact B pins s1 σ H1 vs us Q U Fn fv)) he z
theorem gH(B:CallR X (.type T) r)(F:Gl X x)(hm:X.mg x=Y)(G:PR x=Z (.type T))(J:PA X (e::es) t)(L:x≠"__name__":=by decide)(j:(x==("__debug__":Str))=N2:=by decide)(he:Mk (e::es) X.env=(N2,eval e X.env)::Mk es X.env:=by rfl)(z:(PV pos (Mk es X.env)).any (·.1)=N2:=by rfl):PE X (.Call (.Name x p) (e::es) [] pos) (tCB r t):=by intro pins s σ H Q I h;refine NI (bZ I F hm G ?_ L j);exact Nc (thn (J pos pins s σ H _ I h) λus s1 O=>(by obtain⟨vs,H1,U,Fn,fv⟩:=O;exact B pins s1 σ H1 vs us Q U Fn fv)) he z
end
end
end L2
namespace HT
open PySem PyProof.Rows
section
variable{prog:Ml}{w:MQ}{A:MU}{E:i0->s9->Prop}{s:s9}
theorem cat_tup{t b:Xc}{vs ws:List i0}{Q:i0->s9->Prop}(Fn:IsTup s.heap t vs.toArray)(fv:IsTup s.heap b ws.toArray)(J:vs≠[])(h1:ws=[]->Q (.ref t) s)(h2:ws≠[]->Q (.ref s.heap.objs.size) {s with heap:=s.heap.push {cls:=.type "tuple",data:=.seq (vs++ws).toArray}})(hsz:vs.length+ws.length<=LK):LR (model prog w) A (O7 .Add (.ref t) (.ref b)) Q E s:=by
 obtain⟨⟨cls,dd,data,sl⟩,ho,L,n,hd⟩:=id Fn;obtain⟨⟨O,z,data2,B⟩,j,G,U,hd2⟩:=id fv;simp only at L hd G hd2;subst L hd G hd2;have e:vs.toArray++ws.toArray=(vs++ws).toArray:=by simp
 by_cases hw:ws=[]
 ·exact Vg ⟨_,ho,rfl⟩ ⟨_,j,rfl⟩ T7 UG R6 QY (QJ _ _)
   (tuple_addW1 t b vs.toArray ws.toArray n U dd z sl B (by simpa using J) (by simp[hw])) ⟨ho,j,h1 hw⟩
 ·refine Vg ⟨_,ho,rfl⟩ ⟨_,j,rfl⟩ T7 UG R6 QY (QJ _ _)
   (tuple_addW2 t b vs.toArray ws.toArray n U dd z sl B (by simpa using J) (by simpa using hw) (by rw[LN,LN];exact hsz)) ⟨ho,j,?_⟩
  rw[e];exact h2 hw
noncomputable def sIx(n d:Nat):Option Int->Nat
 |none=>d
 |some v=>if v<0 then(v+(n:Int)).toNat else min v.toNat n
theorem sIx_none(n d:Nat):sIx n d Y=d:=rfl
theorem sIx_nat(n d k:Nat):sIx n d (Z (k:Int))=min k n:=by
 show(if(k:Int)<0 then((k:Int)+(n:Int)).toNat else min (k:Int).toNat n)=min k n
 rw[if_neg ∅,LO]
theorem DA(n d:Nat)(hd:d<=n)(o:Option Int):sIx n d o<=n:=by
 cases o with
 |none=>exact hd
 |some v=>
  show(if v<0 then(v+(n:Int)).toNat else min v.toNat n)<=n
  by_cases hv:v<0
  ·rw[if_pos hv];lia
  ·rw[if_neg hv];exact Nat.min_le_right _ _
theorem rP(v:Int)(n d:Nat):(if v<0 then max (v+(n:Int)) 0 else min v (n:Int))=((sIx n d (Z v):Nat):Int):=by
 show(if v<0 then max (v+(n:Int)) 0 else min v (n:Int))=(((if v<0 then(v+(n:Int)).toNat else min v.toNat n):Nat):Int)
 by_cases hv:v<0
 ·simp only[if_pos hv];lia
 ·simp only[if_neg hv];lia
theorem tO(lo hi:Option Int)(n:Nat):QB lo hi 1 (n:Int)=(((sIx n 0 lo:Nat):Int),((sIx n n hi:Nat):Int)):=by
 have h1:¬((1:Int)<0):=∅
 unfold QB;simp only[h1,if_false];refine Vh ?_ ?_
 ·cases lo with
  |none=>rfl
  |some v=>exact rP v n 0
 ·cases hi with
  |none=>rfl
  |some v=>exact rP v n n
theorem tP(i j:Nat):Pf (i:Int) (j:Int) 1=j-i:=by
 unfold Pf;have h1:(1:Int) > 0:=∅
 simp only[h1,if_true,Int.ediv_one]
 split<;>lia
theorem ju{v:i0}{o:Option Int}{Q:Option Int->s9->Prop}(p:Tt v o)(h:Q o s):LR (model prog w) A (Builtin.Slice.slicePartIndex v) Q E s:=by
 cases p with
 |none=>exact slicePart_none h
 |int i t=>exact slicePart_int h
theorem dZ{sl:Xc}{vl vu:i0}{lo hi:Option Int}{n:Nat}{Q:Int×Int×Nat->s9->Prop}(hs:s.heap.IsSliceOf sl vl vu .none)(pl:Tt vl lo)(pu:Tt vu hi)(h:Q (((sIx n 0 lo:Nat):Int),1,sIx n n hi-sIx n 0 lo) s):LR (model prog w) A (Sk (.ref sl) (pure (n:Int))) Q E s:=by
 obtain⟨os,j,B,z⟩:=id hs;unfold Sk Builtin.Slice.sliceFields;refine gV (gV (MR j z (x:=vl) rfl (gV (MR j z (x:=vu) rfl (gV (MR j z (x:=.none) rfl (z4 ?_)))))));refine gV (slicePart_none ?_);show LR _ _ (if((1:Int)==0)=F2 then _ else _) _ _ s
 rw[if_neg (by decide)]
 refine gV (ju pl (gV (ju pu (gV (z4 ?_)))));show LR _ _ (match QB lo hi 1 (n:Int)with|(lo,hi)=>pure (lo,(1:Int),Pf lo hi 1)) _ _ s
 rw[tO lo hi n];show LR _ _ (pure (((sIx n 0 lo:Nat):Int),(1:Int),Pf ((sIx n 0 lo:Nat):Int) ((sIx n n hi:Nat):Int) 1)) _ _ s;rw[tP];exact z4 h
theorem yn(xs:Array i0)(i k:Nat):((D0 k).filterMap λ(m:Nat)=>xs[((i:Int)+(m:Int)*1).toNat]?).toArray=((xs.toList.drop i).take k).toArray:=by
 have e:(λ(m:Nat)=>xs[((i:Int)+(m:Int)*1).toNat]?)=λm=>xs[i+m]?:=by
  funext m
  have:((i:Int)+(m:Int)*1).toNat=i+m:=∅
  rw[this]
 rw[e];have:=pick_run xs i k;rw[List.filterMap_map]at this;have e2:((λx=>xs[x]?)∘λx=>i+x)=λm=>xs[i+m]?:=rfl;rw[e2]at this;rw[this]
theorem getItem_tuple_cut{t sl:Xc}{items:Array i0}{vl vu:i0}{lo hi:Option Int}{Q:i0->s9->Prop}(z:IsTup s.heap t items)(hs:s.heap.IsSliceOf sl vl vu .none)(pl:Tt vl lo)(pu:Tt vu hi)(hw:¬(sIx items.size 0 lo=0/\sIx items.size items.size hi=items.size))(h:Q (.ref s.heap.objs.size) {s with heap:=s.heap.push {cls:=.type "tuple",data:=.seq ((items.toList.drop (sIx items.size 0 lo)).take (sIx items.size items.size hi-sIx items.size 0 lo)).toArray}})(hsz:items.size<=LK):LR (model prog w) A (SG (.ref t) (.ref sl)) Q E s:=by
 have j:sizeOk (.seq ((items.toList.drop (sIx items.size 0 lo)).take (sIx items.size items.size hi-sIx items.size 0 lo)).toArray):=by show((items.toList.drop (sIx items.size 0 lo)).take (sIx items.size items.size hi-sIx items.size 0 lo)).toArray.size<=LK;rw[LN,Mm,Of,My];lia
 have O:sIx items.size items.size hi<=items.size:=DA _ _ (LW _) hi;obtain⟨os,B,F,L⟩:=id hs;have G:s.TypeIs (.ref sl) "slice":=⟨os,B,F⟩;unfold SG
 try with_reducible refine Na ?_
 first|refine gV (z4 ?_)|skip
 refine gV (Vi z.typeIs (by decide) ?_)
 refine gV (Mw (name:=Mu "__getitem__") z.typeIs OA
  (MB OA z.typeIs UA ?_ (UY _ _)))
 show LR _ _ (Sl (.ref t)>>=_) _ _ s;refine gV (tupleItemsOf_ z ?_);refine gV (PY G ?_);rw[if_pos (by decide)]
 refine gV (dZ hs pl pu ?_);have J:¬((((sIx items.size 0 lo:Nat):Int)==0&&(1:Int)==1&&(sIx items.size items.size hi-sIx items.size 0 lo)==items.size)=F2):=by intro q;rw[r0,r0]at q;have U:((sIx items.size 0 lo:Nat):Int)=0:=Pj q.1.1;have Fn:sIx items.size items.size hi-sIx items.size 0 lo=items.size:=Pj q.2;exact hw ⟨∅,∅⟩
 show LR _ _ (if(((sIx items.size 0 lo:Nat):Int)==0&&(1:Int)==1&&(sIx items.size items.size hi-sIx items.size 0 lo)==items.size)=F2 then _ else _) _ _ s
 rw[if_neg J,yn]
 first
  |exact gV (m:=Px _) (Nf (z4 ⟨_,rfl,z4 h⟩) j)
  |exact gV (m:=Px _) (Nf (gV (z4 (z4 ⟨_,rfl,z4 h⟩))) j)
  |exact gV (gV (m:=Px _) (Nf (z4 (z4 ⟨_,rfl,z4 h⟩)) j))
  |exact gV (gV (m:=Px _) (Nf (z4 ⟨_,rfl,z4 h⟩) j))
end
end HT
namespace L2
open PySem PySem.Spec PyProof.Rows
variable{xs:List V}
section
noncomputable abbrev TO:=St->Hp->(Option Int->Hp->Prop)->Prop
def PO(X:Cx)(e:Option Expr)(t:TO):Prop:=
 ∀(pins:List (Xc×Obj)) (s:s9) (σ:St) (H:Hp) (Q:Option Int->Hp->Prop),Inv X pins σ H s->t σ H Q->
  LR (model X.prog X.w) X.A (evalPart e X.env) (λu s'=>∃o H',Inv X pins σ H' s'/\Tt u o/\Q o H') X.xe s
noncomputable def Ba:TO:=λ_ H Q=>Q Y H
noncomputable def Fu(t:TE):TO:=λσ H Q=>t σ H λx H1=>∃i,x=.int i/\Q (Z i) H1
section
variable{X:Cx}{e:Expr}{te:TE}{lo hi:Option Expr}{tl th:TO}{pos p2:Pos}
theorem Bb:PO X Y Ba:=by intro pins s σ H Q I h;rw[UH];exact z4 ⟨Y,H,I,.none,h⟩
theorem Bc(h:PE X e te):PO X (Z e) (Fu te):=by intro pins s σ H Q I hw;rw[evalPart_some];refine thn (h pins s σ H _ I hw) λu s1 j=>?_;obtain⟨x,H1,z,B,F⟩:=j;obtain⟨i,rfl,q⟩:=F;obtain⟨t,rfl⟩:=B;exact⟨Z i,H1,z,.int i t,q⟩
def SlR(X:Cx)(r:V->Option Int->Option Int->Hp->VK->Prop):Prop:=
 ∀(pins:List (Xc×Obj)) (s:s9) (σ:St) (H:Hp) (x:V) (v vl vu:i0) (lo hi:Option Int) (sl:Xc) (Q:VK),Inv X pins σ H s->RelV x v->s.heap.IsSliceOf sl vl vu .none->Tt vl lo->Tt vu hi->r x lo hi H Q->
  ∃T id,UZ (.type T) "__getitem__"=pure (Z (.builtin id))/\s.TypeIs v T/\LR (model X.prog X.w) X.A (SG v (.ref sl)) (EP X pins σ Q) X.xe s
theorem SlR.or{r r':V->Option Int->Option Int->Hp->VK->Prop}(h:SlR X r)(h':SlR X r'):SlR X (λx lo hi H Q=>r x lo hi H Q∨r' x lo hi H Q):=by
 intro pins s σ H x v vl vu lo hi sl Q I rx hs pl pu q
 rcases q with q|q
 ·exact h pins s σ H x v vl vu lo hi sl Q I rx hs pl pu q
 ·exact h' pins s σ H x v vl vu lo hi sl Q I rx hs pl pu q
noncomputable def tSl(r:V->Option Int->Option Int->Hp->VK->Prop)(te:TE)(tl th:TO):TE:=λσ H Q=>te σ H λx H1=>tl σ H1 λl H2=>th σ H2 λu H3=>r x l u H3 Q
theorem yo{r:V->Option Int->Option Int->Hp->VK->Prop}(B:SlR X r)(he:PE X e te)(F:PO X lo tl)(G:PO X hi th):PE X (.Subscript e (.Slice lo hi Y p2) pos) (tSl r te tl th):=by
 intro pins s σ H Q I h;refine Wt (thn (he pins s σ H _ I h) λv s1 j=>?_);obtain⟨x,H1,J,L,O⟩:=j;refine wpAny_Slice (thn (F pins s1 σ H1 _ J O) λvl s2 ⟨l,H2,U,pl,Fn⟩=>thn (G pins s2 σ H2 _ U Fn) λvu s3 j=>?_);obtain⟨u,z,fv,pu,q3⟩:=j;rw[UH];refine z4 ?_;have I4:Inv X pins σ z {s3 with heap:=s3.heap.push {cls:=.type "slice",data:=.fields #[vl,vu,.none]}}:=fv.kept (t':=s3.toks) λb ob q=>q7 _ q
 obtain⟨T,id,hT,ht,hg⟩:=B pins {s3 with heap:=s3.heap.push {cls:=.type "slice",data:=.fields #[vl,vu,.none]}} σ z x v vl vu l u s3.heap.objs.size Q I4 L (V0 ..) pl pu q3
 show LR (model X.prog X.w) X.A (UI e (.Slice lo hi Y p2) v (.ref s3.heap.objs.size)) (EP X pins σ Q) X.xe {s3 with heap:=s3.heap.push {cls:=.type "slice",data:=.fields #[vl,vu,.none]}}
 exact tail_any (ops:=[.ref s3.heap.objs.size,v]) ht hT hg (by with_unfolding_all rfl)
noncomputable def gI(xs:List V)(lo hi:Option Int):List V:=(xs.drop (HT.sIx xs.length 0 lo)).take (HT.sIx xs.length xs.length hi-HT.sIx xs.length 0 lo)
theorem iR(xs:List V)(lo hi:Option Int):(gI xs lo hi).length<=xs.length:=by unfold gI;rw[Mm,Of];lia
noncomputable def GN(K:Frag):V->Option Int->Option Int->Hp->VK->Prop:=λx lo hi H Q=>∃a xs,x=.ref a/\SqT K H a xs /\
 ¬(HT.sIx xs.length 0 lo=0/\HT.sIx xs.length xs.length hi=xs.length)/\∀p,H p=Y->Q (.ref p) (upd H p (.tup (gI xs lo hi)))
theorem sl_tup:SlR X (GN X.K):=by
 intro pins s σ H x v vl vu lo hi sl Q I rx hs pl pu h;obtain⟨a,xs,rfl,hx,hw,q⟩:=h
 cases rx
 obtain⟨its,r,j,z⟩:=I.tuple hx;have hlen:its.toArray.size=xs.length:=by rw[LN];exact r.length.symm
 refine⟨"tuple",_,PyProof.Rows.slot_tuple_getitem.lookup,j.typeIs,?_⟩;refine HT.getItem_tuple_cut j hs pl pu (by rw[hlen];exact hw) ?_ (by rw[hlen];exact z)
 rw[hlen];refine⟨.ref s.heap.objs.size,_,I.laid (t':=s.toks) (o:=.tup (gI xs lo hi)) (λb ob q=>q7 _ q) (LW _) ?_,rfl,q _ (I.hok.fresh (LW _))⟩;exact⟨NG (iR xs lo hi) z,_,(r.drop (HT.sIx xs.length 0 lo)).take (HT.sIx xs.length xs.length hi-HT.sIx xs.length 0 lo),Sf _ _⟩
noncomputable def Au(K:Frag):R2:=λx y H Q=>∃a b xs ys,x=.ref a/\y=.ref b/\SqT K H a xs/\SqT K H b ys/\xs≠[]/\xs.length+ys.length<=LK /\
 (ys=[]->Q (.ref a) H)/\(ys≠[]->∀p,H p=Y->Q (.ref p) (upd H p (.tup (xs++ys))))
theorem Vals.nil_iff{us:List i0}(r:Vals xs us):us=[]↔xs=[]:=by
 cases r with
 |nil=>simp
 |cons _ _=>simp
theorem op_catT:OpR X (O7 .Add) (Au X.K):=by
 intro pins s σ H x y v u Q I rx ry h;obtain⟨a,b,xs,ys,rfl,rfl,J,L,hx,F,O,U⟩:=h
 cases rx
 cases ry
 obtain⟨its,B,Fn,_⟩:=I.tuple J;obtain⟨G,j,p2,_⟩:=I.tuple L;refine HT.cat_tup Fn p2 (λz=>hx (B.nil_iff.mp z)) (λz=>⟨.ref a,H,I,rfl,O (j.nil_iff.mp z)⟩) (λz=>?_) (by rw[<-B.length,<-j.length];exact F)
 refine⟨.ref s.heap.objs.size,_,I.laid (t':=s.toks) (o:=.tup (xs++ys)) (λb ob q=>q7 _ q) (LW _) ?_,rfl,U (λw=>z (j.nil_iff.mpr w)) _ (I.hok.fresh (LW _))⟩;exact⟨by rw[J4];exact F,_,B.append j,Sf _ _⟩
end
end
variable{n:Nat}{s:s9}{its:List i0}{x:V}
section
noncomputable def ixN(n:Nat)(i:Int):Option Nat:=if 0<=i then(if i<n then Z i.toNat else Y)else if -(n:Int)<=i then Z (i+n).toNat else Y
noncomputable def atI{α:Type}(xs:List α)(i:Int):Option α:=(ixN xs.length i).bind λj=>xs[j]?
theorem rQ{i:Int}{j:Nat}(h:ixN n i=Z j):seqIndex? i n=Z j/\j<n /\ -(n:Int)<=i/\i<n:=by
 unfold ixN at h
 by_cases h0:0<=i
 ·rw[if_pos h0]at h
  by_cases h1:i<n
  ·rw[if_pos h1]at h;have e:i.toNat=j:=NO.inj h;exact⟨by rw[Ud h0 h1,e],∅,∅,h1⟩
  ·rw[if_neg h1]at h;cases h
 ·rw[if_neg h0]at h
  by_cases h1:-(n:Int)<=i
  ·rw[if_pos h1]at h;have e:(i+n).toNat=j:=NO.inj h;exact⟨by rw[Tu ∅ h1,e],∅,h1,∅⟩
  ·rw[if_neg h1]at h;cases h
theorem kN{α:Type}{xs:List α}{i:Int}{v:α}(h:atI xs i=Z v):∃j,seqIndex? i xs.length=Z j/\xs[j]?=Z v/\j<xs.length /\ -(xs.length:Int)<=i/\i<xs.length:=by
 unfold atI at h
 cases e:ixN xs.length i with
 |none=>rw[e]at h;cases h
 |some j=>rw[e]at h;obtain⟨h1,h2,z,B⟩:=rQ e;exact⟨j,h1,h,h2,z,B⟩
def kP(b:Expr):Prop:=∀o i,subscripted b N2 o i=operate [o,i] (SG o i)
def IxR(X:Cx)(r:R2):Prop:=
 ∀(value slice:Expr) (pins:List (Xc×Obj)) (s:s9) (σ:St) (H:Hp) (x y:V) (v u:i0) (Q:VK),Inv X pins σ H s->RelV x v->RelV y u->r x y H Q->
  subscripted slice N2 v u=operate [v,u] (SG v u)->LR (model X.prog X.w) X.A (UI value slice v u) (EP X pins σ Q) X.xe s
def MtR(X:Cx)(id:String)(r:V->List V->Hp->VK->Prop):Prop:=
 ∀(pins:List (Xc×Obj)) (s:s9) (σ:St) (H:Hp) (x:V) (xs:List V) (v:i0) (us:List i0) (Q:VK),Inv X pins σ H s->RelV x v->Vals xs us->r x xs H Q->
  LR (model X.prog X.w) X.A (call (.builtin id) (v::us)) (EP X pins σ Q) X.xe s
section
variable{X:Cx}{a b:Expr}{ta tb:TE}{pos:Pos}
theorem IxR.or{r r':R2}(h:IxR X r)(h':IxR X r'):IxR X (λx y H Q=>r x y H Q∨r' x y H Q):=by
 intro value slice pins s σ H x y v u Q I rx ry q hs
 rcases q with q|q
 ·exact h value slice pins s σ H x y v u Q I rx ry q hs
 ·exact h' value slice pins s σ H x y v u Q I rx ry q hs
theorem Fv{r:R2}(j:IxR X r)(z:PE X a ta)(B:PE X b tb)(hs:kP b):PE X (.Subscript a b pos) (tOp r ta tb):=by intro pins s σ H Q I h;exact Wt (ye z B I h λv u s2 x y H2 F rx ry q=>j a b pins s2 σ H2 x y v u Q F rx ry q (hs _ _))
noncomputable def GO(K:Frag):R2:=λx y H Q=>∃p xs i v,x=.ref p/\y=.int i/\SqL K H p xs/\atI xs i=Z v/\Q v H
noncomputable def GP(K:Frag):R2:=λx y H Q=>∃p xs i v,x=.ref p/\y=.int i/\SqT K H p xs/\atI xs i=Z v/\Q v H
theorem ix_list:IxR X (GO X.K):=by
 intro value slice pins s σ H x y v u Q I rx ry h hs;obtain⟨p,xs,i,z,rfl,rfl,F,he,q⟩:=h
 cases rx
 obtain⟨t,rfl⟩:=ry;obtain⟨its,r,pl,O⟩:=I.list F;obtain⟨j,h1,h2,U,G,J⟩:=kN he;obtain⟨w,ew,rw'⟩:=r.get h2;have L:=r.length;have Fn:=fD;have fin:EP X pins σ Q w s:=⟨z,H,I,rw',q⟩
 by_cases h0:0<=i
 ·have B:i.toNat=j:=by
   rw[Ud h0 J]at h1;exact NO.inj h1
  exact item_listR pl.isList h0 ∅ (by rw[B];simpa using ew) fin hs
 ·have B:(i+(its.toArray.size:Int)).toNat=j:=by
   rw[Tu ∅ G]at h1
   rw[LN,<-L];exact NO.inj h1
  exact Tv (x:=w) pl.isList.typeIs slot_list_getitem.lookup
   (Tw (Q:=λr s'=>r=w/\EP X pins σ Q r s') pl.isList ∅ (by rw[LN]<;>lia) ∅ (by rw[B];simpa using ew) ⟨rfl,fin⟩) hs
theorem ix_tup:IxR X (GP X.K):=by
 intro value slice pins s σ H x y v u Q I rx ry h hs;obtain⟨p,xs,i,z,rfl,rfl,B,he,q⟩:=h
 cases rx
 obtain⟨t,rfl⟩:=ry;obtain⟨its,r,pl,G⟩:=I.tuple B;obtain⟨j,h1,h2,J,L,O⟩:=kN he;obtain⟨w,ew,rw'⟩:=r.get h2;have F:=r.length;have U:=fD;have fin:EP X pins σ Q w s:=⟨z,H,I,rw',q⟩;exact Tv (x:=w) pl.typeIs slot_tuple_getitem.lookup
  (getItem_tuple (j:=j) (Q:=λr s'=>r=w/\EP X pins σ Q r s') pl ∅ ∅ (by rw[LN,<-F];exact h1) (by simpa using ew) ⟨rfl,fin⟩) hs
theorem tQ(its:List i0)(n j:Nat)(u:i0):Om (·.setIfInBounds j u) {cls:=.type "list",data:=.seq its.toArray n}={cls:=.type "list",data:=.seq (its.set j u).toArray n}:=by simp[Om]
theorem Inv.lst{pins:List (Xc×Obj)}{σ:St}{H:Hp}{s:s9}{p:Xc}{xs:List V}(I:Inv X pins σ H s)(h:H p=Z (.lst xs)):
 ∃(its:List i0) (n:Nat),Vals xs its/\s.heap.get? p=Z {cls:=.type "list",data:=.seq its.toArray n}/\xs.length<=LK:=by
 obtain⟨z,its,n,r,e⟩:=I.hok p _ h;exact⟨its,n,r,e,z⟩
theorem Inv.lstUpd{pins:List (Xc×Obj)}{σ:St}{H:Hp}{p:Xc}{ys:List V}{its':List i0}{n':Nat}{f:Obj->Obj}(I:Inv X pins σ H s)(h:H p=Z (.lst xs))(ho:s.heap.get? p=Z {cls:=.type "list",data:=.seq its.toArray n})(hf:f {cls:=.type "list",data:=.seq its.toArray n}={cls:=.type "list",data:=.seq its'.toArray n'})(r:Vals ys its')(j:ys.length<=LK)(t:Nat):
 Inv X pins σ (upd H p (.lst ys)) {s with heap:=s.heap.update p f,toks:=t}:=by
 have e:(s.heap.update p f).get? p=Z {cls:=.type "list",data:=.seq its'.toArray n'}:=by rw[U4 f ho (by rw[hf]<;>rfl),hf]
 refine I.write (x:=p) (e:=p) (by rw[h];trivial) (.inl rfl) (λb u z q=>(Tx _ _ (Ne.symm z)).trans q) ⟨_,e⟩ ?_
 exact⟨j,its',n',r,e⟩
noncomputable def Av:V->V->V->Hp->(Hp->Prop)->Prop:=λo i v H Q=>∃p xs k j,o=.ref p/\i=.int k/\H p=Z (.lst xs)/\ixN xs.length k=Z j/\Q (upd H p (.lst (xs.set j v)))
theorem oW:PSet X Av:=by
 intro pins s σ H o i v ov iv u Q I ro ri rv h;obtain⟨p,xs,k,j,rfl,rfl,F,L,q⟩:=h
 cases ro
 obtain⟨t,rfl⟩:=ri;obtain⟨its,n,r,ho,O⟩:=I.lst F;obtain⟨h1,h2,G,J⟩:=rQ L;have z:=r.length;have U:=fD;have I':Inv X pins σ (upd H p (.lst (xs.set j v))) {s with heap:=s.heap.update p (Om (·.setIfInBounds j u))}:=I.lstUpd F ho (tQ its n j u) (r.set rv j) (by rw[TU];exact O) s.toks
 by_cases h0:0<=k
 ·have B:k.toNat=j:=by
   rw[Ud h0 J]at h1;exact NO.inj h1
  exact PySem.W.ki_setAt ho h0 ∅ (by rw[LN,<-z];exact J) (by rw[B];exact⟨_,I',q⟩)
 ·have B:(k+(its.toArray.size:Int)).toNat=j:=by
   rw[Tu ∅ G]at h1
   rw[LN,<-z];exact NO.inj h1
  exact PySem.W.ki_setBack ho ∅ (by rw[LN,<-z];exact G) ∅ (by rw[B];exact⟨_,I',q⟩)
theorem oZ(lo hi:Option Int)(n:Nat):(QZ lo hi Y n).1=((HT.sIx n 0 lo:Nat):Int)/\(QZ lo hi Y n).2.1=((HT.sIx n n hi:Nat):Int)/\(QZ lo hi Y n).2.2=1:=by
 refine⟨?_,?_,rfl⟩
 ·cases lo with
  |none=>simp[QZ,HT.sIx]
  |some i=>
   simp only[QZ,HT.sIx,T8,show(1:Int) > 0 by decide,if_true]
   by_cases h:i<0
   ·simp only[h,if_true]<;>lia
   ·simp only[h,if_false]<;>lia
 ·cases hi with
  |none=>simp[QZ,HT.sIx]
  |some i=>
   simp only[QZ,HT.sIx,T8,show(1:Int) > 0 by decide,if_true]
   by_cases h:i<0
   ·simp only[h,if_true]<;>lia
   ·simp only[h,if_false]<;>lia
theorem nQ(its:List i0)(lo hi:Option Int):slicePick its.toArray lo hi Y=((its.drop (HT.sIx its.length 0 lo)).take (HT.sIx its.length its.length hi-HT.sIx its.length 0 lo)).toArray:=by obtain⟨h1,h2,j⟩:=oZ lo hi its.toArray.size;unfold slicePick;rw[h1,h2,j];simp only[sliceRange_one,pick_run,LN]<;>rfl
noncomputable def GQ(K:Frag):V->Option Int->Option Int->Hp->VK->Prop:=λx lo hi H Q=>∃a xs,x=.ref a/\SqL K H a xs/\∀p,H p=Y->Q (.ref p) (upd H p (.lst (gI xs lo hi)))
theorem sl_list:SlR X (GQ X.K):=by
 intro pins s σ H x v vl vu lo hi sl Q I rx hs pl pu h;obtain⟨a,xs,rfl,hx,q⟩:=h
 cases rx
 obtain⟨its,r,j,z⟩:=I.list hx;have hlen:=r.length;refine⟨"list",_,slot_list_getitem.lookup,j.isList.typeIs,?_⟩;refine SQ j.isList hs pl pu .none (by simp) ?_ (by rw[LN]<;>lia)
 rw[nQ,<-hlen];refine⟨.ref s.heap.objs.size,_,I.laid (t':=s.toks) (o:=.lst (gI xs lo hi)) (λb ob q=>q7 _ q) (LW _) ?_,rfl,q _ (I.hok.fresh (LW _))⟩;exact⟨NG (iR xs lo hi) z,_,0,(r.drop (HT.sIx xs.length 0 lo)).take (HT.sIx xs.length xs.length hi-HT.sIx xs.length 0 lo),LF _ rfl⟩
noncomputable def dH:V->Bool
 |.non=>F2
 |.bl _=>F2
 |.int _=>F2
 |.str _=>F2
 |_=>N2
noncomputable def eqV:V->V->Bool
 |.non,.non=>F2
 |.bl a,.bl b=>a==b
 |.bl a,.int b=>(if a then 1 else 0)==b
 |.int a,.bl b=>a==(if b then 1 else 0)
 |.int a,.int b=>a==b
 |.str a,.str b=>a==b
 |_,_=>N2
theorem DB{A:MU}{y:V}{u v:i0}(ry:RelV y u)(rx:RelV x v)(fy:dH y=F2)(fx:dH x=F2):SeqAt.EqAt A s u v (eqV y x):=by
 cases y with
 |non=>
  cases ry
  cases x with
  |non=>cases rx;exact SeqAt.EqAt.same _
  |bl b=>cases rx;exact SeqAt.EqAt.none_bool b
  |int b=>obtain⟨t,rfl⟩:=rx;exact SeqAt.EqAt.none_int b t
  |str b=>obtain⟨t,rfl⟩:=rx;exact SeqAt.EqAt.none_str b t
  |_=>exact absurd (show N2=F2 from fx) LJ
 |bl a=>
  cases ry
  cases x with
  |non=>cases rx;exact SeqAt.EqAt.bool_none a
  |bl b=>cases rx;exact SeqAt.EqAt.bool_bool a b
  |int b=>obtain⟨t,rfl⟩:=rx;exact SeqAt.EqAt.bool_int a b t
  |str b=>obtain⟨t,rfl⟩:=rx;exact SeqAt.EqAt.bool_str a b t
  |_=>exact absurd (show N2=F2 from fx) LJ
 |int a=>
  obtain⟨t',rfl⟩:=ry
  cases x with
  |non=>cases rx;exact SeqAt.EqAt.int_none a t'
  |bl b=>cases rx;exact SeqAt.EqAt.int_bool a t' b
  |int b=>obtain⟨t,rfl⟩:=rx;exact SeqAt.EqAt.int_int a t' b t
  |str b=>obtain⟨t,rfl⟩:=rx;exact UR a t' b t
  |_=>exact absurd (show N2=F2 from fx) LJ
 |str a=>
  obtain⟨t',rfl⟩:=ry
  cases x with
  |non=>cases rx;exact SeqAt.EqAt.str_none a t'
  |bl b=>cases rx;exact SeqAt.EqAt.str_bool a t' b
  |int b=>obtain⟨t,rfl⟩:=rx;exact US a t' b t
  |str b=>obtain⟨t,rfl⟩:=rx;exact SeqAt.EqAt.str_str a t' b t
  |_=>exact absurd (show N2=F2 from fx) LJ
 |_=>exact absurd (show N2=F2 from fy) LJ
noncomputable def eqU(x:V)(u:i0):Bool:=match u with
 |.none=>eqV .non x
 |.bool b=>eqV (.bl b) x
 |.int i _=>eqV (.int i) x
 |.str z _=>eqV (.str z) x
 |_=>N2
theorem vE{y:V}{u:i0}(r:RelV y u)(f:dH y=F2):eqU x u=eqV y x:=by
 cases y with
 |non=>cases r;rfl
 |bl b=>cases r;rfl
 |int i=>obtain⟨t,rfl⟩:=r;rfl
 |str z=>obtain⟨t,rfl⟩:=r;rfl
 |_=>exact absurd (show N2=F2 from f) LJ
theorem kQ{x:V}:∀{xs:List V} {us:List i0},Vals xs us->xs.all dH=F2->us.any (eqU x)=xs.any λy=>eqV y x
 |_,_,.nil,_=>rfl
 |y::xs,u::us,.cons r t,f=>by rw[OG,r0]at f;rw[Oj,Oj,vE r f.1,kQ t f.2]
theorem j4{A:MU}{s:s9}{x:V}{v:i0}(rx:RelV x v)(fx:dH x=F2):∀{xs:List V} {us:List i0},Vals xs us->xs.all dH=F2->∀u∈us,SeqAt.EqAt A s u v (eqU x u)
 |_,_,.nil,_=>λu j=>by cases j
 |y::xs,u::us,.cons r t,f=>fun u' j=>by
  rw[OG,r0]at f
  rcases LI.mp j with rfl|j
  ·rw[vE r f.1];exact DB r rx f.1 fx
  ·exact j4 rx fx t f.2 u' j
noncomputable def inV(x:V)(xs:List V):Bool:=xs.any λy=>eqV y x
noncomputable def rIn(K:Frag)(neg:Bool):R2:=λx y H Q=>∃p xs,y=.ref p/\(SqL K H p xs∨SqT K H p xs)/\dH x=F2/\xs.all dH=F2/\Q (.bl (if neg then !inV x xs else inV x xs)) H
theorem vF:OpR X (Oy .In) (rIn X.K N2):=by
 intro pins s σ H x y v u Q I rx ry h;obtain⟨p,xs,rfl,j,fx,fs,q⟩:=h
 cases ry
 rcases j with j|j
 ·obtain⟨its,r,pl,z⟩:=I.list j;refine SeqAt.in_listAt (eqU x) pl.isList (λw hw=>j4 rx fx r fs w (by simpa using hw)) ⟨.bl _,H,I,rfl,?_⟩
  rw[show its.toArray.any (eqU x)=its.any (eqU x) by simp,kQ r fs]
  exact q
 ·obtain⟨its,r,pl,z⟩:=I.tuple j;refine SeqAt.in_tupleAt (eqU x) pl (λw hw=>j4 rx fx r fs w (by simpa using hw)) ⟨.bl _,H,I,rfl,?_⟩
  rw[show its.toArray.any (eqU x)=its.any (eqU x) by simp,kQ r fs]
  exact q
theorem p8:CallR X (.type "list") (λxs H Q=>∃p ys,xs=[.ref p]/\(SqL X.K H p ys∨SqT X.K H p ys)/\∀l,H l=Y->Q (.ref l) (upd H l (.lst ys))):=by
 intro pins s σ H xs us Q I r h;obtain⟨p,ys,rfl,j,q⟩:=h;obtain⟨u,rfl,rx⟩:=dG r
 cases rx
 have fin:∀(its:List i0),Vals ys its->ys.length<=LK->∀(h':Heap) (c':Nat),(∀b o',s.heap.get? b=Z o'->h'.get? b=Z o')->
  h'.get? s.heap.objs.size=Z {cls:=.type "list",dict:=Y,data:=.seq its.toArray c',slots:=#[]}->EP X pins σ Q (.ref s.heap.objs.size) {s with heap:=h'}:=λits r' z h' c' kp e=>
  ⟨.ref s.heap.objs.size,_,I.laid (t':=s.toks) kp (LW _) (show ObjOk X.prog X.w _ h' _ (.lst ys)from⟨z,its,c',r',e⟩),rfl,q _ (I.hok.fresh (LW _))⟩
 rcases j with j|j
 ·obtain⟨its,r',pl,z⟩:=I.list j;have hlen:=r'.length;obtain⟨o,ho,B,n,hd⟩:=pl.isList;exact call_list_seq p (.inl rfl) ho B hd (λh' c' kp e=>fin its r' z h' c' kp e) (by simp only[LN]<;>lia)
 ·obtain⟨its,r',pl,z⟩:=I.tuple j;have hlen:=r'.length;obtain⟨o,ho,B,n,hd⟩:=pl;exact call_list_seq p (.inr rfl) ho B hd (λh' c' kp e=>fin its r' z h' c' kp e) (by simp only[LN]<;>lia)
theorem nS:CallR X (.type "tuple") (λxs H Q=>∃p ys,xs=[.ref p]/\((SqL X.K H p ys/\∀l,H l=Y->Q (.ref l) (upd H l (.tup ys)))∨(SqT X.K H p ys/\Q (.ref p) H))):=by
 intro pins s σ H xs us Q I r h;obtain⟨p,ys,rfl,h⟩:=h;obtain⟨u,rfl,rx⟩:=dG r
 cases rx
 rcases h with⟨j,q⟩|⟨j,q⟩
 ·obtain⟨its,r',pl,z⟩:=I.list j;have hlen:=r'.length;refine call_tuple_list pl.isList (λh' kp=>?_) (by simp only[LN]<;>lia)
  have B:Inv X pins σ H {s with heap:=h'}:=I.kept (t':=s.toks) kp
  have F:Inv X pins σ (upd H h'.objs.size (.tup ys)) {s with heap:=h'.push {cls:=.type "tuple",data:=.seq its.toArray}}:=B.laid (t':=s.toks) (λb o e=>q7 _ e) (LW _) (show ObjOk X.prog X.w _ _ _ (.tup ys)from⟨z,its,r',Sf _ _⟩)
  exact⟨.ref h'.objs.size,_,F,rfl,q _ (B.hok.fresh (LW _))⟩
 ·obtain⟨its,r',pl,z⟩:=I.tuple j;exact call_tuple_same pl ⟨.ref p,H,I,rfl,q⟩
def tyV(K:Frag)(T:String)(x:V)(H:Hp):Prop:=match x with
 |.str _=>T="str"
 |.int _=>T="int"
 |.ref p=>(T="list"/\∃xs,SqL K H p xs)∨(T="tuple"/\∃o,K.lookup p=Z o/\o.cls=.type "tuple"/\o.dict=Y) ∨
  (T="dict"/\((∃kvs,H p=Z (.dK kvs))∨∃kvs,H p=Z (.dT kvs)))∨(T="set"/\∃S n,H p=Z (.set S n))
 |_=>False
theorem DC{pins:List (Xc×Obj)}{σ:St}{H:Hp}{T:String}{v:i0}(I:Inv X pins σ H s)(r:RelV x v)(ty:tyV X.K T x H):
 s.TypeIs v T/\∀a,v=.ref a->∃ob,s.heap.get? a=Z ob/\ob.dict=Y:=by
 cases x with
 |str z=>
  obtain⟨t,rfl⟩:=r
  cases(show T="str" from ty)
  exact⟨typeIs_str s z t,λ_ e=>nomatch e⟩
 |int i=>
  obtain⟨t,rfl⟩:=r
  cases(show T="int" from ty)
  exact⟨Tz s i t,λ_ e=>nomatch e⟩
 |ref p=>
  cases r
  rcases ty with⟨rfl,xs,B⟩|⟨rfl,o,j,F,hd⟩|⟨rfl,j⟩|⟨rfl,S,n,j⟩
  ·obtain⟨its,_,pl,_⟩:=I.list B;refine⟨pl.isList.typeIs,λa e=>?_⟩
   cases e
   obtain⟨o,n,e,c,hd,_⟩:=pl;exact⟨o,e,hd⟩
  ·refine⟨⟨o,I.kIn p o j,F⟩,λa e=>?_⟩
   cases e
   exact⟨o,I.kIn _ o j,hd⟩
  ·have z:∃o,s.heap.get? p=Z o/\o.ExactDict:=by
    rcases j with⟨kvs,j⟩|⟨kvs,j⟩
    ·obtain⟨_,_,_,_,o,_,_,e,ex,_⟩:=I.hok p _ j;exact⟨o,e,ex⟩
    ·obtain⟨_,_,_,_,o,_,_,e,ex,_⟩:=I.hok p _ j;exact⟨o,e,ex⟩
   obtain⟨o,e,ex⟩:=z;refine⟨⟨o,e,ex.1⟩,λa e2=>?_⟩
   cases e2
   exact⟨o,e,ex.2.1⟩
  ·obtain⟨o,_,_,_,e,ex,_⟩:=I.hok p _ j;refine⟨⟨o,e,ex.1⟩,λa e2=>?_⟩
   cases e2
   exact⟨o,e,ex.2.1⟩
 |_=>exact False.elim ty
noncomputable def tBM(K:Frag)(T:String)(r:V->List V->Hp->VK->Prop)(to:TE)(t:TA):TE:=λσ H Q=>to σ H λx H1=>tyV K T x H1/\t σ H1 λxs H2=>r x xs H2 Q
variable{o e:Expr}{es:List Expr}{to:TE}{t:TA}{name:Str}{apos cpos:Pos}{T id:String}{r:V->List V->Hp->VK->Prop}
theorem Aw (pa:PlainAttrs T)(slot:Slot T name id)(G:typeOf (.builtin id)=pure (.type "method_descriptor"))(hm:MtR X id r)(ho:PE X o to)(Fn:PA X (e::es) t)(z:SR o name X.env (eval o X.env)=eval o X.env:=by rfl)(F:((PV cpos (Mk (e::es) X.env)).all (fun x=>!x.1)&&(Wu cpos (Ue [] X.env)).all (fun x=>x.1.isSome)
   && decide ((e::es).length+([]:List S0).length+(if([]:List S0).isEmpty then 0 else 1)<30))=F2:=by rfl)(B:(apos.endLine==cpos.line)=F2:=by rfl)(hs:Mk (e::es) X.env=(N2,eval e X.env)::Mk es X.env:=by rfl)(j:(PV cpos (Mk es X.env)).any (·.1)=N2:=by rfl):
 PE X (.Call (.Attribute o name apos) (e::es) [] cpos) (tBM X.K T r to t):=by
 intro pins s σ H Q I h;refine wpAny_Call_method_late z F B rfl (thn (ho pins s σ H _ I h) λv s1 J=>?_);obtain⟨x,H1,L,O,ty,fv⟩:=J;obtain⟨h1,h2⟩:=DC L O ty;refine⟨T,id,pa,slot,G,h1,h2,?_⟩;have U:=Fn cpos pins s1 σ H1 _ L fv;rw[hs]at U⊢;refine R7 (by show(N2 || (PV cpos (Mk es X.env)).any (·.1))=N2;rw[j]<;>rfl) (RC ?_)
 exact thn U λus s2 J=>(by obtain⟨vs,H2,I2,r2,q2⟩:=J;exact hm pins s2 σ H2 x vs v us Q I2 O r2 q2)
end
end
section
def MtM(X:Cx)(id:String)(r:V->List V->Hp->VK->Prop):Prop:=
 ∀(pins:List (Xc×Obj)) (s:s9) (σ:St) (H:Hp) (x:V) (xs:List V) (v:i0) (us:List i0) (Q:VK),Inv X pins σ H s->RelV x v->Vals xs us->r x xs H Q->
  LR (model X.prog X.w) X.A (call (.builtin id) (v::us)) (EP X pins σ Q) X.xe s
theorem Vals.one:∀{x:V} {us:List i0},Vals [x] us->∃u,us=[u]/\RelV x u
 |_,_,.cons r .nil=>⟨_,rfl,r⟩
theorem Vals.reverse{us:List i0}(h:Vals xs us):Vals xs.reverse us.reverse:=by
 induction h with
 |nil=>exact .nil
 |cons r t ih=>rw[Qo,Qo];exact Vals.append ih (.cons r .nil)
theorem Vals.rep{xs:List V}{us:List i0}(h:Vals xs us):∀k:Nat,Vals (D1 k xs).flatten (D1 k us).flatten
 |0=>.nil
 |k+1=>by rw[Nk,Nk,Nr,Nr];exact Vals.append h (Vals.rep h k)
theorem gJ(its:List i0):∀(k:Nat) (acc:List i0),
 Rp (λj z=>j++z) acc.toArray (D1 k its.toArray)=(acc++(D1 k its).flatten).toArray
 |0,acc=>by simp
 |k+1,acc=>by
  have e:acc.toArray++its.toArray=(acc++its).toArray:=by simp
  have e2:(acc++its)++(D1 k its).flatten=acc++(D1 (k+1) its).flatten:=by rw[Nk,Nr,LZ]
  rw[<-e2,<-gJ its k (acc++its),<-e,Nk,TV]
section
variable{X:Cx}{pins:List (Xc×Obj)}{σ:St}{H:Hp}{s:s9}{l b:Xc}{xs ys zs:List V}
theorem Inv.lset{its':List i0}{f:Array i0->Array i0}{t':Nat}(I:Inv X pins σ H s)(j:H l=Z (.lst xs))(e:s.heap.get? l=Z {cls:=.type "list",data:=.seq its.toArray n})(hf:f its.toArray=its'.toArray)(z:Vals ys its')(B:ys.length<=LK):
 Inv X pins σ (upd H l (.lst ys)) {s with heap:=s.heap.update l (Om f),toks:=t'}:=by
 have q:=PySem.IsL.update e f;rw[hf]at q;refine I.write (x:=l) (e:=l) (by rw[j];exact trivial) (.inl rfl) (λb' u F G=>(Tx s.heap (Om f) (Ne.symm F)).trans G) ⟨_,q⟩ ?_
 exact⟨B,its',_,z,q⟩
theorem Inv.lnew{t':Nat}(I:Inv X pins σ H s)(j:Vals ys its)(z:ys.length<=LK):
 Inv X pins σ (upd H s.heap.objs.size (.lst ys)) {s with heap:=s.heap.push {cls:=.type "list",data:=.seq its.toArray},toks:=t'}:=
 I.laid (λ_ _ q=>q7 _ q) (LW _) ⟨z,its,0,j,LF _ rfl⟩
theorem Inv.fresh(I:Inv X pins σ H s):H s.heap.objs.size=Y:=I.hok.fresh (LW _)
theorem Inv.lstM(I:Inv X pins σ H s)(j:H l=Z (.lst xs)):xs.length<=LK/\∃(its:List i0) (n:Nat),Vals xs its/\xs.length=its.length/\s.heap.get? l=Z {cls:=.type "list",data:=.seq its.toArray n}:=by obtain⟨z,its,n,r,e⟩:=I.hok l _ j;exact⟨z,its,n,r,r.length,e⟩
theorem pe(h:n<=LK):Py n=N2:=by unfold Py;exact decide_eq_false ∅
end
section
variable{X:Cx}
noncomputable def rR:V->List V->Hp->VK->Prop:=λx vs H Q=>∃l xs y,x=.ref l/\vs=[y]/\H l=Z (.lst xs)/\xs.length<LK/\Q .non (upd H l (.lst (xs++[y])))
theorem mm:MtM X "list.append" rR:=by
 intro pins s σ H x vs v us Q I rx rv h;obtain⟨l,xs,y,rfl,rfl,j,B,q⟩:=h
 cases rx
 obtain⟨u,rfl,ru⟩:=rv.one;obtain⟨z,its,n,r,G,e⟩:=I.lstM j;refine Rq F.slot_list_append ⟨_,e,rfl⟩ F.entry_list_append (F.args_list_append_2 _ _) (PySem.list_append l its.toArray n u (by rw[LN];lia)) ⟨e,?_⟩
 refine⟨.non,_,I.lset (its':=its++[u]) j e (by simp) (r.append (.cons ru .nil)) ?_,rfl,q⟩
 rw[J4,NP];lia
noncomputable def GS:R2:=λx y H Q=>∃l b xs zs,x=.ref l/\y=.ref b/\H l=Z (.lst xs)/\H b=Z (.lst zs)/\xs.length+zs.length<=LK/\∀p,H p=Y->Q (.ref p) (upd H p (.lst (xs++zs)))
theorem op_cat:OpR X (O7 .Add) GS:=by
 intro pins s σ H x y v u Q I rx ry h;obtain⟨l,b,xs,zs,rfl,rfl,B,F,L,q⟩:=h
 cases rx
 cases ry
 obtain⟨z,its,n,r,O,e⟩:=I.lstM B;obtain⟨U,j,Fn,G,J,e2⟩:=I.lstM F;refine PySem.P.add_list e e2 ?_ (by rw[LN,LN];lia)
 have ea:its.toArray++j.toArray=(its++j).toArray:=by simp
 rw[ea];exact⟨.ref _,_,I.lnew (t':=s.toks) (r.append G) (by rw[J4];lia),rfl,q _ I.fresh⟩
noncomputable def GT:R2:=λx y H Q=>∃l k xs,x=.ref l/\y=.int k/\H l=Z (.lst xs) /\ -(2^63)<=k/\k<2^63/\xs.length*k.toNat<=LK /\
 ∀p,H p=Y->Q (.ref p) (upd H p (.lst (D1 k.toNat xs).flatten))
theorem rS{α:Type}(xs:List α)(k:Nat):(D1 k xs).flatten.length=k*xs.length:=by
 induction k with
 |zero=>simp
 |succ k ih=>rw[Nk,Nr,J4,ih,PZ,Nat.add_comm]
theorem op_rep:OpR X (O7 .Mult) GT:=by
 intro pins s σ H x y v u Q I rx ry h;obtain⟨l,k,xs,rfl,rfl,fv,h1,h2,Fn,q⟩:=h
 cases rx
 obtain⟨t,rfl⟩:=ry;obtain⟨z,its,n,r,hl,e⟩:=I.lstM fv;have hlen:its.toArray.size*k.toNat<=LK:=by rw[LN,<-hl];exact Fn
 have B:¬its.toArray.size*k.toNat > (2^63-1) / 8:=by
  have:(LK:Nat)<=(2^63-1) / 8:=by decide
  lia
 have G:¬(!Builtin.List.listFitsIndex k)=F2:=by rw[fitsIndex_both h1 h2];exact LJ
 have j:¬Py (its.toArray.size*k.toNat)=F2:=by rw[pe hlen];exact LJ
 have J:Rp (λL O=>L++O) #[] (D1 (if its.toArray.isEmpty=F2 then 0 else k.toNat) its.toArray)=(D1 k.toNat its).flatten.toArray:=by
  have f0:∀m:Nat,Rp (λL O=>L++O) #[] (D1 m its.toArray)=(D1 m its).flatten.toArray:=λm=>by have:=gJ its m [];rw[QO]at this;exact this
  rw[f0]
  cases its with
  |nil=>simp
  |cons a r'=>rw[if_neg (by simp)]
 refine Sy (T:="list") (U:="int") (by decide) ⟨_,e,rfl⟩ (λs'=>Tz s' k t) noFill_list_mul Wf RN repeat_list F.slot_int_index.lookup
  (Rq RN (Tz s k t) VG (Vj _ _) (int___rmul___int_list k t l its.toArray n)
    ⟨e,rfl,⟨_,e,rfl⟩,Rq F.slot_list_mul ⟨_,e,rfl⟩ F.entry_list_mul (F.args_list_mul_2 _ _) (AutoListH.list___mul___list_int_3 l its.toArray n k t G B j) ⟨e,?_⟩⟩)
 rw[J];exact⟨.ref _,_,I.lnew (t':=s.toks) (r.rep k.toNat) (by rw[rS,S2];exact Fn),rfl,q _ I.fresh⟩
end
end
end L2
namespace Att
open PySem PySem.W PySem.Calls PyProof.Rows
theorem jv{P:Params}{h:Heap}:∀(ns:List Int) (vs:List i0),WellAll P h vs (ns.map WData.int)->Wm vs ns:=by
 intro ns
 induction ns with
 |nil=>
  intro vs w;rw[Pp]at w
  cases w
  exact .nil
 |cons n ns ih=>
  intro vs w;rw[LX]at w
  cases w with
  |cons a b=>
   cases a
   exact .cons _ _ (ih _ b)
theorem vG{l:OpenLaw}{n:Nat}(O:l.most=Z n){P:Params}{h:Heap}{args:List WData}{vals:List i0}(j:l.row.toRowW.claim.pre args=F2)(G:WellAll P h vals args):
 ∃a vs ns,vals=[MA a]/\args=[WData.list (ns.map WData.int)]/\h.get? a=Z {cls:=.type "list",data:=.seq vs.toArray}/\Wm vs ns/\ns.length<=n:=by
 have J:WShape.hasAll [] args [.list .int]=F2:=(pre_splitW j).1;have L:l.pre.holds [] {args:=args}=F2:=(pre_splitW j).2;obtain⟨d,r,rfl,h1,h2⟩:=hasAllW_cons J;obtain rfl:=hasAllW_nil h2;obtain⟨xs,rfl,U⟩:=hasW_list h1;obtain⟨ns,rfl⟩:=items_int U;have hlen:ns.length<=n:=by
  unfold OpenLaw.pre at L;have B:(WTm.not (.lt (.lit (.int (n:Int))) (.len (.arg 0)))).holds [] {args:=[.list (ns.map .int)]}=F2:=by have B:=(holds_andW L).1;rw[O]at B;exact B
  have F:=condW_of B (w_not (w_lt w_lit (w_len_list (w_arg rfl))));rw[tv]at F;refine Nat.le_of_not_lt λq=>?_;have q':(n:Int)<((ns.length:Nat):Int):=∅
  first
   |(rw[decide_eq_true q']at F;exact absurd F (by decide))
   |(simp at F;lia)
 cases G with
 |cons Fn fv=>
  cases fv
  cases Fn with
  |list ho z=>exact⟨_,_,ns,rfl,rfl,ho,jv ns _ z,hlen⟩
theorem vH(l:OpenLaw)(args:List WData):l.row.toRowW.claim.post args (.bool F2) args=F2:=
 postW_of (r:=l.row.toRowW) (X:=(F2==F2))
  (show WShape.has [] (.bool F2) .bool=F2 by first|rfl|decide|simp[WShape.has,WShape.arms,WShape.armsAll])
  (show(WTm.eq .res (.lit (.bool F2))).value [] {args:=args,res:=Z (.bool F2),after:=args}=Z (.bool (F2==F2))from w_eq_bool (w_res rfl) w_lit) rfl
theorem attach_call {l:OpenLaw}{n:Nat}{q:Ml}{loose:List Str}{XP:(Str->Option i0)->Heap->Prop}{YP:MQ->Heap->Prop}{d:DefRec}(fv:l.most=Z n)(B:d.params.defaults=[])(call:∀(w:MQ) (s₀ s₁:s9) (mg mb:Str->Option i0) (fa:Xc) (o:Obj) (pm cd doc:i0) (a:Xc) (vs:List i0) (ns:List Int),
   Ground q loose [] XP w s₀ mg mb s₁.heap->YP w s₁.heap->
   s₁.heap.get? fa=Z o->o.data=.func (docDef d.name d.params d.body d.scope pm cd doc)->s₁.heap.CodeRec cd d.name->mg d.name=Z (.ref fa)->
   s₁.heap.get? a=Z {cls:=.type "list",data:=.seq vs.toArray}->Wm vs ns->ns.length<=n->s₁.gens=#[]->
   Pb (model l.prog w) Ux (.call (.ref fa) ⟨[.ref a],[]⟩) (λr s'=>r=.ok (.ret (.bool F2))/\OldK s₁.heap s'.heap/\s'.os=s₁.os/\SE s'.gens) s₁):
 WalkO q loose XP YP l.row.toRowW d [] (λf vs=>Wv f vs):=by
 intro w s₀ s₁ mg mb G Fn fa o pm cd doc dV kV ho hd F O J hg args vals as j U Jm L Jn;obtain rfl:dV=.none:=Dflts.none O B;obtain rfl:kV=.none:=Dflts.noKw O;obtain⟨a,vs,ns,rfl,rfl,z,hints,hlen⟩:=vG fv j L;refine enter_call (OE (call w s₀ s₁ mg mb fa o pm cd doc a vs ns G Fn ho (fd_plain hd) F J z hints hlen hg) λr s' hq=>?_);obtain⟨rfl,h2,h3,h4⟩:=hq;exact⟨.inl ⟨.bool F2,.bool F2,[],rfl,λ_=>rfl,.bool F2,vH l _,λ_=>⟨SH,λ_ hm=>(nomatch hm)⟩⟩,h2,h3,h4⟩
section
variable{prog:Ml}{w:MQ}{A:MU}{E:i0->s9->Prop}{s:s9}{K:Frag}
noncomputable def Ij(h:Heap)(L d:Xc):List (Xc×Obj):=(D0 h.objs.size).filterMap λa=>if a=L∨a=d then Y else(h.get? a).map λo=>(a,o)
end
end Att
namespace L2
open PySem PySem.Spec PyProof.Rows
section
theorem mn:∀{vs:List i0} {ns:List Int},Wm vs ns->Vals (ns.map V.int) vs
 |_,_,.nil=>.nil
 |_,_,.cons n t h=>.cons ⟨t,rfl⟩ (mn h)
end
variable{x qual:Str}{st:Stmt}{f:Xc}
section
noncomputable def da(s:Stmt):Qj:=match s with
 |.FunctionDef _ a _ _ _ _ _ _ _ _=>a
 |_=>{posonlyargs:=[],args:=[],vararg:=Y,kwonlyargs:=[],kw_defaults:=[],kwarg:=Y,defaults:=[]}
noncomputable def bv(s:Stmt):List Stmt:=match s with
 |.FunctionDef _ _ b _ _ _ _ _ _ _=>b
 |_=>[]
noncomputable def aq(s:Stmt):Scope:=match s with
 |.FunctionDef _ _ _ _ _ _ sc _ _ _=>sc
 |_=>{kind:=.function,names:=[],isGenerator:=N2,isCoroutine:=N2}
noncomputable abbrev CX0:CXT:=λ_ _ _ _ _ _=>False
noncomputable abbrev E0:XK:=λ_ _ _=>False
theorem tR{X:Cx}:jt CX0 X E0:=λ_ _ _ _ _ _ _ h=>h.elim
structure Fun(K:Frag)(x qual:Str)(st:Stmt)(f:Xc)(fd:Oe):Prop where
 ex:∃(oc:i0) (od:Option Xc) (kV doc pm:i0) (an:Option Xc) (cdv ct:i0) (osl:Array (Option i0)),
  fd=OF x qual (da st) (bv st) (aq st) .none kV doc pm an cdv ct/\K.lookup f=Z ⟨oc,od,.func fd,osl⟩/\Qu K cdv qual=F2
 kp:P5 K (.ref f)=F2
section
variable{P:Ml}{w:MQ}{K:Frag}{mg:Str->Option i0}{base:Heap}
theorem Fun.ok {fd:Oe}{N ps:List Str}{k:Nat}{sp:Sp}(F:Fun K x qual st f fd)(S:cL N ps (aq st))(len:∀vs H Q E,sp vs H Q E->vs.length=ps.length)(j:∀(cdv:i0) (A:MU) (outer:List Env) (s:s9) (H:Hp) (vs:List V) (Q:VK) (E:XK),Room k (A.deeper (Rm qual (aq st) s.heap.objs.size f cdv))->sp vs H Q E->
   ∃t,PSs (cG CX0 P w K mg base N qual (aq st) f cdv A outer s H E).nox (bv st) t/\t {nx:=λ_ H'=>Q .non H',rt:=Q} (bH N vs) H):FnOk P w K mg base CX0 (k+1) f fd ps sp:=by
 obtain⟨oc,od,kV,doc,pm,an,cdv,ct,osl,rfl,lk,z⟩:=F.ex;refine As lk z S len λA outer s H vs Q E G B=>?_;obtain⟨t,h,q⟩:=j cdv A outer s H vs Q E G B;exact⟨t,h.nox,q⟩
theorem Fun.binds{fd:Oe}{ps:List Str}(F:Fun K x qual st f fd)(h:∀(kV doc pm:i0) (an:Option Xc) (cdv ct:i0) (us:List i0),us.length=ps.length->Ub (OF x qual (da st) (bv st) (aq st) .none kV doc pm an cdv ct) ⟨us,[]⟩=pure (ps.zip us)):Binds K fd ps []:=by obtain⟨oc,od,kV,doc,pm,an,cdv,ct,osl,rfl,lk,j⟩:=F.ex;exact .all (h kV doc pm an cdv ct)
theorem ah{oc:i0}{od an:Option Xc}{osl:Array (Option i0)}{kV doc pm cdv ct:i0}(l:K.lookup f=Z ⟨oc,od,.func (OF x qual (da st) (bv st) (aq st) .none kV doc pm an cdv ct),osl⟩)(c:Qu K cdv qual=F2)(k:P5 K (.ref f)=F2):Fun K x qual st f (OF x qual (da st) (bv st) (aq st) .none kV doc pm an cdv ct):=⟨⟨oc,od,kV,doc,pm,an,cdv,ct,osl,rfl,l,c⟩,k⟩
end
end
end L2
namespace HT
open PySem PySem.Spec PyProof.Rows
section
variable{prog:Ml}{w:MQ}{A:MU}{E:i0->s9->Prop}{s:s9}
theorem getItem_tuple_whole{t sl:Xc}{items:Array i0}{vl vu:i0}{lo hi:Option Int}{Q:i0->s9->Prop}(j:IsTup s.heap t items)(hs:s.heap.IsSliceOf sl vl vu .none)(pl:Tt vl lo)(pu:Tt vu hi)(hw:sIx items.size 0 lo=0/\sIx items.size items.size hi=items.size)(h:Q (.ref t) s):LR (model prog w) A (SG (.ref t) (.ref sl)) Q E s:=by
 obtain⟨os,z,B,J⟩:=id hs;have F:s.TypeIs (.ref sl) "slice":=⟨os,z,B⟩;unfold SG
 try with_reducible refine Na ?_
 first|refine gV (z4 ?_)|skip
 refine gV (Vi j.typeIs (by decide) ?_)
 refine gV (Mw (name:=Mu "__getitem__") j.typeIs OA
  (MB OA j.typeIs UA ?_ (UY _ _)))
 show LR _ _ (Sl (.ref t)>>=_) _ _ s;refine gV (tupleItemsOf_ j ?_);refine gV (PY F ?_);rw[if_pos (by decide)]
 refine gV (dZ hs pl pu ?_);have G:(((sIx items.size 0 lo:Nat):Int)==0&&(1:Int)==1&&(sIx items.size items.size hi-sIx items.size 0 lo)==items.size)=F2:=by rw[hw.1,hw.2];simp
 show LR _ _ (if(((sIx items.size 0 lo:Nat):Int)==0&&(1:Int)==1&&(sIx items.size items.size hi-sIx items.size 0 lo)==items.size)=F2 then _ else _) _ _ s
 rw[if_pos G];refine gV (m:=Sm (.ref t)) ?_;unfold Sm;refine gV (PY j.typeIs (z4 ?_));show LR _ _ (if F2=F2 then _ else _) _ _ s
 rw[if_pos rfl];exact gV (Oc (z4 ⟨_,rfl,z4 h⟩))
end
end HT
namespace L2
open PySem PySem.Spec PyProof.Rows
section
section
variable{X:Cx}
noncomputable def GU(K:Frag):V->Option Int->Option Int->Hp->VK->Prop:=λx lo hi H Q=>∃a xs,x=.ref a/\SqT K H a xs/\(HT.sIx xs.length 0 lo=0/\HT.sIx xs.length xs.length hi=xs.length)/\Q x H
theorem yp:SlR X (GU X.K):=by
 intro pins s σ H x v vl vu lo hi sl Q I rx hs pl pu h;obtain⟨a,xs,rfl,hx,hw,q⟩:=h
 cases rx
 obtain⟨its,r,j,z⟩:=I.tuple hx;have hlen:=r.length;refine⟨"tuple",_,slot_tuple_getitem.lookup,j.typeIs,?_⟩;refine HT.getItem_tuple_whole j hs pl pu (by rw[LN,<-hlen];exact hw) ⟨.ref a,H,I,rfl,q⟩
end
end
variable{u:i0}{y:V}{P:Ml}{w:MQ}{H H':Hp}{kvs:List (List Key×V)}{xs:List (List Key×Xc×i0)}{b a:Xc}{h':Heap}{t':Nat}{X:Cx}{pins:List (Xc×Obj)}{σ:St}{s:s9}
section
section
variable{κ:Type}[DecidableEq κ]
noncomputable def cb(kvs:List (κ×V))(k:κ):Option V:=(kvs.find? λkv=>decide (kv.1=k)).map (·.2)
noncomputable def cw(kvs:List (κ×V))(k:κ)(v:V):List (κ×V):=if(kvs.any λkv=>decide (kv.1=k))=F2 then kvs.map (λkv=>if kv.1=k then(kv.1,v)else kv)else kvs++[(k,v)]
theorem fU{p:κ×V}{r:List (κ×V)}{k:κ}(e:p.1=k):cb (p::r) k=Z p.2:=by simp[cb,NW,e]
theorem fV{p:κ×V}{r:List (κ×V)}{k:κ}(e:¬p.1=k):cb (p::r) k=cb r k:=by simp[cb,NW,e]
theorem pf(k:κ):∀kvs:List (κ×V),(kvs.any λkv=>decide (kv.1=k))=(cb kvs k).isSome
 |[]=>rfl
 |p::r=>by
  rw[Oj]
  by_cases e:p.1=k
  ·simp only[fU e,decide_eq_true e,Bool.true_or,V1]
  ·rw[fV e,decide_eq_false e,Rz];exact pf k r
theorem iS(kvs:List (κ×V))(k:κ)(v:V):(cw kvs k v).length<=kvs.length+1:=by
 unfold cw
 split
 ·rw[tv];lia
 ·rw[J4,MP,O9];lia
theorem RelO.isSome_eq{o:Option V}{u:Option i0}(r:RelO o u):o.isSome=u.isSome:=by
 cases o with
 | none=>cases u with
   |none=>rfl
   |some _=>exact(show False from r).elim
 | some _=>cases u with
   |none=>exact(show False from r).elim
   |some _=>rfl
theorem RelO.getD{o:Option V}{u:Option i0}{d:V}{d':i0}(r:RelO o u)(rd:RelV d d'):RelV (o.getD d) (u.getD d'):=by
 cases o with
 | none=>cases u with
   |none=>exact rd
   |some _=>exact(show False from r).elim
 | some _=>cases u with
   |none=>exact(show False from r).elim
   |some _=>exact r
theorem KV.val{kvs:List (κ×V)}{vs:List (κ×i0)}(r:KV kvs vs)(k:κ):RelO (cb kvs k) (Uy vs k):=by
 unfold KV at r
 induction r with
 |nil=>exact Qt
 |@cons p q ps qs h t ih=>
  obtain⟨h1,h2⟩:=h
  by_cases e:p.1=k
  ·have e':q.1=k:=h1.symm.trans e;have b:Uy (q::qs) k=Z q.2:=by simp[Uy,NW,e']
   rw[fU e,b];exact h2
  ·have e':¬q.1=k:=λz=>e (h1.trans z);have b:Uy (q::qs) k=Uy qs k:=by simp[Uy,NW,e']
   rw[fV e,b];exact ih
theorem KV.any{kvs:List (κ×V)}{vs:List (κ×i0)}(r:KV kvs vs)(k:κ):(kvs.any λkv=>decide (kv.1=k))=vs.any λkv=>decide (kv.1=k):=by
 unfold KV at r
 induction r with
 |nil=>rfl
 |cons h t ih=>rw[Oj,Oj,ih,h.1]
theorem KV.repl{kvs:List (κ×V)}{vs:List (κ×i0)}(r:KV kvs vs)(k:κ)(ry:RelV y u):
 KV (kvs.map λkv=>if kv.1=k then(kv.1,y)else kv) (vs.map λkv=>if kv.1=k then(kv.1,u)else kv):=by
 unfold KV at r⊢
 induction r with
 |nil=>exact .nil
 |@cons p q ps qs h t ih=>
  rw[LX,LX];refine .cons ?_ ih;obtain⟨h1,h2⟩:=h
  by_cases e:p.1=k
  ·rw[if_pos e,if_pos (h1.symm.trans e)];exact⟨h1,ry⟩
  ·rw[if_neg e,if_neg (λz=>e (h1.trans z))];exact⟨h1,h2⟩
theorem KV.put{kvs:List (κ×V)}{vs:List (κ×i0)}(r:KV kvs vs)(k:κ)(ry:RelV y u):KV (cw kvs k y) (stored vs k u):=by
 unfold cw stored;rw[r.any k]
 by_cases e:(vs.any λkv=>decide (kv.1=k))=F2
 ·rw[if_pos e,if_pos e];exact r.repl k ry
 ·rw[if_neg e,if_neg e];exact Paired.snoc r ⟨rfl,ry⟩
theorem KV.length{kvs:List (κ×V)}{vs:List (κ×i0)}(r:KV kvs vs):kvs.length=vs.length:=QG r
end
theorem jw{k:Key}(r:RelV (kV k) u):(aU P w).is k u=F2:=by
 cases k with
 |inl i=>obtain⟨t,e⟩:=(show ∃t,u=VC i t from r);subst e;exact rj P w i t
 |inr x=>obtain⟨t,e⟩:=(show ∃t,u=VD x t from r);subst e;exact rn P w x t
theorem mq{P:Ml}{w:MQ}:∀{ks:List Key} {us:List i0},Vals (ks.map kV) us->ItemsAre (aU P w) ks us
 |[],_,r=>by rw[Pp]at r;cases r;exact .nil
 |k::ks,_,r=>by
  rw[LX]at r
  cases r with
  |cons h t=>exact .cons (jw h) (mq t)
noncomputable abbrev KT(H:Hp):List (List Key×V)->List (List Key×Xc×i0)->Prop:=NA λp q=>p.1=q.1/\H q.2.1=Z (.tup (p.1.map kV))/\RelV p.2 q.2.2
theorem KT.val(r:KT H kvs xs)(k:List Key):RelO (cb kvs k) ((W7 xs k).map (·.2)):=by
 induction r with
 |nil=>exact Qt
 |@cons p q ps qs h t ih=>
  obtain⟨h1,_,h2⟩:=h
  by_cases e:p.1=k
  ·have e':q.1=k:=h1.symm.trans e;have b:W7 (q::qs) k=Z q.2:=by simp[W7,NW,e']
   rw[fU e,b];exact h2
  ·have e':¬q.1=k:=λz=>e (h1.trans z);have b:W7 (q::qs) k=W7 qs k:=by simp[W7,NW,e']
   rw[fV e,b];exact ih
theorem KT.repl(r:KT H kvs xs)(k:List Key)(ry:RelV y u):
 KT H (kvs.map λkv=>if kv.1=k then(kv.1,y)else kv) (xs.map (putAt k u)):=by
 induction r with
 |nil=>exact .nil
 |@cons p q ps qs h t ih=>
  rw[LX,LX];refine .cons ?_ ih;obtain⟨h1,h2,j⟩:=h;unfold putAt
  by_cases e:p.1=k
  ·rw[if_pos e,if_pos (h1.symm.trans e)];exact⟨h1,h2,ry⟩
  ·rw[if_neg e,if_neg (λz=>e (h1.trans z))];exact⟨h1,h2,j⟩
theorem KT.put(r:KT H kvs xs)(k:List Key)(j:H b=Z (.tup (k.map kV)))(ry:RelV y u):
 KT H (cw kvs k y) (storedH xs k b u):=by
 have e:(kvs.any λkv=>decide (kv.1=k))=(W7 xs k).isSome:=by rw[pf,(r.val k).isSome_eq,Vk]
 unfold cw storedH;rw[e]
 by_cases q:(W7 xs k).isSome=F2
 ·rw[if_pos q,if_pos q];exact r.repl k ry
 ·rw[if_neg q,if_neg q];exact Paired.snoc r ⟨rfl,j,ry⟩
theorem KT.keeps(r:KT H kvs xs)(j:∀b ys,H b=Z (.tup ys)->H' b=Z (.tup ys)):KT H' kvs xs:=WU r λ_ _ z=>⟨z.1,j _ _ z.2.1,z.2.2⟩
section
variable{P:Ml}{w:MQ}{H:Hp}{h:Heap}{a:Xc}
theorem Ax{u:HO}(ok:HOk P w H h)(e:Rd H a u):ObjOk P w H h a u:=e.ok ok
theorem jx{kvs:List (Key×V)}(ok:HOk P w H h)(e:Rd H a (.dK kvs)):kvs.length<=LK/\(a==O0)=N2/\∃vs,KV kvs vs/\h.DictOf (aU P w) a vs:=show ObjOk P w H h a (.dK kvs)from Ax ok e
theorem Fw{kvs:List (Key×V)}(ok:HOk P w H h)(e:H a=Z (.dK kvs)):kvs.length<=LK/\(a==O0)=N2/\∃vs,KV kvs vs/\h.DictOf (aU P w) a vs:=jx ok (.inl e)
theorem gK{ks:List Key}(ok:HOk P w H h)(e:H a=Z (.tup (ks.map kV))):(Se (aU P w)).is h ks a:=by obtain⟨_,its,r,o,h1,h2,n,j⟩:=(show ObjOk P w H h a (.tup (ks.map kV))from ok a _ e);exact⟨o,its.toArray,n,h1,h2,j,by simpa using mq r⟩
theorem jy(ok:HOk P w H h)(e:Rd H a (.dT kvs)):kvs.length<=LK/\(a==O0)=N2 /\
 ∃xs,KT H kvs xs/\h.DictOfH (Se (aU P w)) a xs:=by
 obtain⟨z,y,xs,r,o,es,ep,h1,h2,j,B,F⟩:=(show ObjOk P w H h a (.dT kvs)from Ax ok e);refine⟨z,y,xs,r,o,es,ep,h1,h2,j,B,λx hx=>?_,F⟩;have all:∀{l:List (List Key×V)} {m:List (List Key×Xc×i0)},KT H l m->∀x∈m,(Se (aU P w)).is h x.1 x.2.1:=by
  intro l m q
  induction q with
  |nil=>intro x hx;exact nomatch hx
  |@cons p q ps qs hq t ih=>
   intro x hx
   rcases LI.mp hx with e|hx
   ·subst e;exact gK ok (by rw[<-hq.1];exact hq.2.1)
   ·exact ih x hx
 exact all r x hx
theorem Fx(ok:HOk P w H h)(e:H a=Z (.dT kvs)):kvs.length<=LK/\(a==O0)=N2 /\
 ∃xs,KT H kvs xs/\h.DictOfH (Se (aU P w)) a xs:=jy ok (.inl e)
end
def DGet(H:Hp)(a:Xc)(y:V)(r:Option V):Prop:=(∃kvs k,Rd H a (.dK kvs)/\y=kV k/\r=cb kvs k)∨∃kvs k b,Rd H a (.dT kvs)/\y=.ref b/\H b=Z (.tup (k.map kV))/\r=cb kvs k
def DPut(H:Hp)(a:Xc)(y v:V)(H':Hp):Prop:=
 (∃kvs k,H a=Z (.dK kvs)/\y=kV k/\kvs.length<LK/\H'=upd H a (.dK (cw kvs k v))) ∨
 ∃kvs k b,H a=Z (.dT kvs)/\y=.ref b/\H b=Z (.tup (k.map kV))/\kvs.length<LK/\H'=upd H a (.dT (cw kvs k v))
theorem DGet.k{kvs:List (Key×V)}{k:Key}(e:H a=Z (.dK kvs)):DGet H a (kV k) (cb kvs k):=.inl ⟨kvs,k,.inl e,rfl,rfl⟩
theorem DPut.k{kvs:List (Key×V)}{k:Key}{v:V}(e:H a=Z (.dK kvs))(j:kvs.length<LK):DPut H a (kV k) v (upd H a (.dK (cw kvs k v))):=.inl ⟨kvs,k,e,rfl,j,rfl⟩
theorem DPut.t{k:List Key}{v:V}(e:H a=Z (.dT kvs))(eb:H b=Z (.tup (k.map kV)))(j:kvs.length<LK):DPut H a (.ref b) v (upd H a (.dT (cw kvs k v))):=.inr ⟨kvs,k,b,e,rfl,eb,j,rfl⟩
section
variable{X:Cx}{pins:List (Xc×Obj)}{σ:St}{H:Hp}{s:s9}{a:Xc}{y v:V}{u r:i0}{o:Option V}{A:MU}{E:i0->s9->Prop}
theorem Inv.big(I:Inv X pins σ H s):O0<s.heap.objs.size:=by have h:Nw<s.heap.objs.size:=(I.mod.glob.keeps I.bk).lt;exact Nat.lt_trans (by decide) h
theorem vI{Q:i0->s9->Prop}(B:A.units+1<Po)(I:Inv X pins σ H s)(g:DGet H a y (Z v))(ry:RelV y u)(h:∀w' s',Inv X pins σ H s'->RelV v w'->Q w' s'):
 LR (model X.prog X.w) A (SG (.ref a) u) Q E s:=by
 rcases g with⟨kvs,k,e,ey,l⟩|⟨kvs,k,b,e,ey,eb,l⟩
 ·subst ey;obtain⟨z,hd,vs,rel,dd⟩:=jx I.hok e;obtain⟨w',hw,rw'⟩:=X5 (v:=v) (o:=Uy vs k) (by rw[l];exact rel.val k)
  exact wpAny_getItem_of (jw ry) dd.mapOf hw (h w' _ (I.tok _) rw')
 ·subst ey
  cases(show u=MA b from ry)
  obtain⟨z,hd,xs,rel,dd⟩:=jy I.hok e;obtain⟨w',hw,rw'⟩:=X5 (v:=v) (o:=(W7 xs k).map (·.2)) (by rw[l];exact rel.val k)
  obtain⟨p,F,j⟩:=TB.mp hw;refine wpAny_getItem_heap (QT B) (gK I.hok eb) dd F ?_;rw[j];exact h w' _ (I.tok _) rw'
theorem Bd{Q:i0->s9->Prop}(j:A.units+1<Po)(I:Inv X pins σ H s)(g:DGet H a y o)(ry:RelV y u)(h:∀s',Inv X pins σ H s'->Q (.bool (!o.isSome)) s'):
 LR (model X.prog X.w) A (Oy .NotIn u (.ref a)) Q E s:=by
 rcases g with⟨kvs,k,e,ey,l⟩|⟨kvs,k,b,e,ey,eb,l⟩
 ·subst ey;obtain⟨z,hd,vs,rel,dd⟩:=jx I.hok e;refine wpAny_notIn_of (jw ry) hd dd.mapOf ?_;rw[<-(rel.val k).isSome_eq,<-l];exact h _ (I.tok _)
 ·subst ey
  cases(show u=MA b from ry)
  obtain⟨z,hd,xs,rel,dd⟩:=jy I.hok e;refine wpAny_notIn_heap (QT j) (gK I.hok eb) hd dd ?_;have q:=(rel.val k).isSome_eq;rw[Vk]at q;rw[<-q,<-l];exact h _ (I.tok _)
theorem rT{ob:HO}(I:Inv X pins σ H s)(mu:Mut (H a))(hs:NH a s.heap h')(he:∃q,h'.get? a=Z q)(new:ObjOk X.prog X.w (upd H a ob) h' a ob):
 Inv X pins σ (upd H a ob) {s with heap:=h',toks:=t'}:=
 I.write (x:=a) (e:=a) mu (.inl rfl) (λb q j z=>(hs.2 b j).trans z) he new
theorem DD{kvs:List (Key×V)}{vs:List (Key×i0)}(z:kvs.length<=LK)(hd:(a==O0)=N2)(rel:KV kvs vs)(dd:h'.DictOf (aU P w) a vs):ObjOk P w H' h' a (.dK kvs):=⟨z,hd,vs,rel,dd⟩
theorem vJ{Q:Unit->s9->Prop}(G:A.units+1<Po)(I:Inv X pins σ H s)(g:DPut H a y v H')(ry:RelV y u)(rv:RelV v r)(h:∀s',Inv X pins σ H' s'->Q () s'):
 LR (model X.prog X.w) A (Uv (.ref a) u r) Q E s:=by
 rcases g with⟨kvs,k,e,ey,l,eH⟩|⟨kvs,k,b,e,ey,eb,l,eH⟩
 ·subst ey eH;obtain⟨z,hd,vs,rel,dd⟩:=Fw I.hok e;have B:vs.length<=LK:=by rw[<-rel.length];exact z
  have F:(cw kvs k v).length<=LK:=by have:=iS kvs k v;lia
  refine wpAny_setItem_pairs (hsz:=B) (jw ry) dd λh' dd' hs=>h _ ?_;have he:∃q,h'.get? a=Z q:=let⟨q,_,_,j,_⟩:=dd'; ⟨q,j⟩;exact rT I (by rw[e];exact Qt) hs he (DD F hd (rel.put k rv) dd')
 ·subst ey eH
  cases(show u=MA b from ry)
  obtain⟨z,hd,xs,rel,dd⟩:=Fx I.hok e;have B:xs.length<=LK:=by rw[<-QG rel];exact z
  have F:(cw kvs k v).length<=LK:=by have:=iS kvs k v;lia
  refine wpAny_setItem_heap (hsz:=B) (QT G) (gK I.hok eb) dd λh' dd' hs=>h _ ?_;obtain⟨q,es,ep,j,h2,J,L,_,O⟩:=dd';refine rT I (by rw[e];exact Qt) hs ⟨q,j⟩ ⟨F,hd,_,(rel.put k eb rv).keeps λc ys ec=>?_,q,es,ep,j,h2,J,L,O⟩
  rw[ao (Fb ec e (λz=>nomatch z))];exact ec
end
theorem yq(h:Heap)(j:O0<h.objs.size):ObjOk P w H (h.push {cls:=.type "dict",data:=.dict #[]}) h.objs.size (.dK []):=⟨Og _,beq_eq_false_iff_ne.mpr (Ne.symm (Mt j)),[],.nil,Heap.DictOf.new h⟩
theorem yr(h:Heap)(j:O0<h.objs.size):ObjOk P w H (h.push {cls:=.type "dict",data:=.dict #[]}) h.objs.size (.dT []):=⟨Og _,beq_eq_false_iff_ne.mpr (Ne.symm (Mt j)),[],.nil,_,#[],0,LF _ rfl,⟨rfl,rfl,rfl⟩,rfl,rfl,List.nodup_nil⟩
noncomputable def DE:TE:=λ_ H Q=>∀p,H p=Y->Q (.ref p) (upd H p (.dK []))
noncomputable def DG:TE:=λ_ H Q=>∀p,H p=Y->Q (.ref p) (upd H p (.dT []))
section
variable{X:Cx}{pos:Pos}
theorem yt:PE X (.Dict [] [] pos) DE:=λpins s σ H Q I h=>VH ⟨.ref s.heap.objs.size,_,I.laid (a:=s.heap.objs.size) (o:=.dK []) (t':=s.toks) (λ_ _ q=>q7 _ q) (LW _) (yq s.heap I.big),rfl,h _ (I.hok.fresh (LW _))⟩
theorem yu:PE X (.Dict [] [] pos) DG:=λpins s σ H Q I h=>VH ⟨.ref s.heap.objs.size,_,I.laid (a:=s.heap.objs.size) (o:=.dT []) (t':=s.toks) (λ_ _ q=>q7 _ q) (LW _) (yr s.heap I.big),rfl,h _ (I.hok.fresh (LW _))⟩
end
structure M2(X:Cx)(o:Expr)(m:Str)(apos:Pos)(e f:Expr)(cpos:Pos):Prop where
 base:SR o m X.env (eval o X.env)=eval o X.env
 few:((PV cpos (Mk [e,f] X.env)).all (λx=>!x.1)&&(Wu cpos (Ue [] X.env)).all (λx=>x.1.isSome)
  && decide (([e,f]:List Expr).length+([]:List S0).length+(if([]:List S0).isEmpty then 0 else 1)<30))=F2
 line:(apos.endLine==cpos.line)=F2
 trees:PV cpos (Mk [e,f] X.env)=[(N2,eval e X.env),(N2,eval f X.env)]
def IsD(H:Hp)(a:Xc):Prop:=(∃kvs,Rd H a (.dK kvs))∨∃kvs,Rd H a (.dT kvs)
theorem jz(I:Inv X pins σ H s)(d:IsD H a):
 s.TypeIs (.ref a) "dict"/\(∀b,MA a=.ref b->∃ob,s.heap.get? b=Z ob/\ob.dict=Y)/\(a==O0)=N2:=by
 rcases d with⟨kvs,e⟩|⟨kvs,e⟩
 ·obtain⟨_,hd,vs,_,dd⟩:=jx I.hok e;refine⟨dd.typeIs,λb q=>?_,hd⟩
  cases q
  obtain⟨ob,_,_,h1,h2,_⟩:=dd;exact⟨ob,h1,h2.2.1⟩
 ·obtain⟨_,hd,xs,_,dd⟩:=jy I.hok e;refine⟨dd.typeIs,λb q=>?_,hd⟩
  cases q
  obtain⟨ob,_,_,h1,h2,_⟩:=dd;exact⟨ob,h1,h2.2.1⟩
section
variable{X:Cx}{pins:List (Xc×Obj)}{σ:St}{H:Hp}{s:s9}{a:Xc}{y d:V}{u r:i0}{o:Option V}{A:MU}{E:i0->s9->Prop}
theorem DH{Q:i0->s9->Prop}(j:A.units+1<Po)(I:Inv X pins σ H s)(g:DGet H a y o)(ry:RelV y u)(rd:RelV d r)(h:∀w' s',Inv X pins σ H s'->RelV (o.getD d) w'->Q w' s'):
 LR (model X.prog X.w) A (call (.builtin "dict.get") [.ref a,u,r]) Q E s:=by
 rcases g with⟨kvs,k,e,ey,l⟩|⟨kvs,k,b,e,ey,eb,l⟩
 ·subst ey;obtain⟨z,hd,vs,rel,dd⟩:=jx I.hok e;refine call_meetsIn Rl dd.typeIs TF (T9 _ _ _) (meets_dict_get_default (aU X.prog X.w) a (jw ry) hd r) ⟨_,dd.mapOf,h _ _ (I.tok _) ?_⟩;rw[l];exact(rel.val k).getD rd
 ·subst ey
  cases(show u=MA b from ry)
  obtain⟨z,hd,xs,rel,dd⟩:=jy I.hok e;refine call_meetsIn Rl dd.typeIs TF (T9 _ _ _) (meetsH_dict_get_default (Se (aU X.prog X.w)) a b hd r) ⟨QT j,k,xs,gK I.hok eb,dd,h _ _ (I.tok _) ?_⟩;rw[l];exact(rel.val k).getD rd
end
noncomputable def DI(td ty tx:TE):TE:=λσ H Q=>td σ H λx H1=>∃a,x=.ref a/\IsD H1 a/\ty σ H1 λy H2=>tx σ H2 λz H3=>∃o,DGet H3 a y o/\Q (o.getD z) H3
section
variable{X:Cx}{o e f:Expr}{apos cpos:Pos}{td ty tx:TE}
theorem yv(B:X.A.units+1<Po)(ho:PE X o td)(he:PE X e ty)(hf:PE X f tx)(m:M2 X o "get" apos e f cpos):PE X (.Call (.Attribute o "get" apos) [e,f] [] cpos) (DI td ty tx):=by
 intro pins s σ H Q I h;refine wpAny_Call_method m.base m.few m.line PySem.F.plainAttrs_dict Rl PySem.F.type_dict_get (thn (ho pins s σ H _ I h) λu s1 G=>?_);obtain⟨x,H1,j,rx,a,ex,d,J⟩:=G;subst ex;obtain rfl:u=MA a:=rx;obtain⟨t1,L,_⟩:=jz j d;refine⟨t1,L,?_⟩;rw[m.trees];refine R7 rfl (RC (P4 (thn (he pins s1 σ H1 _ j J) λiv s2 ⟨y,H2,O,ry,U⟩=>P4 (thn (hf pins s2 σ H2 _ O U) λfv s3 ⟨z,Fn,fv,rz,ov,g,q3⟩=>Qn ?_))))
 exact DH B fv g ry rz λw' s4 I4 rw'=>⟨_,Fn,I4,rw',q3⟩
end
end
variable{d:Nat}{ifs:List Expr}{elt target iter:Expr}{gens:List Nl}{scope:Scope}{pos pos':Pos}{te:TE}{acc:i0}{g:TG}{env:Env}{A:MU}{wi:TI}{x:Str}
section
noncomputable def bj(elt:Expr)(gens:List Nl)(scope:Scope)(pos:Pos)(d:Nat)(acc:i0)(env:Env)(k:Sem Fin):Sem Fin:=
 match gens[d+1]? with
 |some g'=>eval g'.iter env>>=fun x=>SF g'.iter.pos>>=fun _=>ON g'.iter env x>>=fun x=>holding [x] (Tq x)>>=fun it'=>runOwn (.compStart (.ListComp elt gens scope pos) (d+1) it' acc env) env>>=λ_=>k
 |none=>(eval elt env>>=λx=>call (.builtin "list.append") [acc,x]>>=λ_=>pure ())>>=λ_=>k
noncomputable def bw(ifs:List Expr)(env:Env):Sem Bool:=forIn ifs F2 λc r=>if r=F2 then do let ok <-isTrue c env (eval c env);pure (Q9 ok)else pure (Q9 r)
theorem ph(elt target iter:Expr)(ifs:List Expr)(gens:List Nl)(scope:Scope)(pos:Pos)(d:Nat)(it acc:i0)(env:Env)(hd:gens[d]?=Z ⟨target,iter,ifs,0⟩)(j:∀g',gens[d+1]?=Z g'->g'.is_async=0):
 compTurn (.ListComp elt gens scope pos) d it acc env=(SF iter.pos>>=λ_=>OB it>>=λr=>match r with
  |none=>pure (.done .next)
  |some v=>RJ target it v>>=fun _=>assign target env v>>=fun _=>bw ifs env>>=fun ok=>(if ok=F2 then bj elt gens scope pos d acc env (again (.compLoop (.ListComp elt gens scope pos) d it acc env))else again (.compLoop (.ListComp elt gens scope pos) d it acc env))):=by
 unfold compTurn;simp only[hd];unfold bj bw
 cases hn:gens[d+1]? with
 |none=>rfl
 |some g'=>obtain⟨t',i',f',a'⟩:=g';have e:a'=0:=j _ hn;subst e;rfl
noncomputable abbrev TC:=St->Hp->(St->Hp->Prop)->Prop
def cO(J:It)(g:TG)(tb:TC)(N:St->Hp->Prop)(σ:St)(H:Hp):Prop:=
 ∃W:Nat->Nat->St->Hp->Prop,(∃m,W 0 m σ H)/\∀i m σ H,W i m σ H->
  (J.stop i H/\N σ H)∨(J.go i H/\∃N':St->Hp->Prop,(∀σ' H',N' σ' H'->∃m',m'<m/\W (i+1) m' σ' H')/\∀x H',J.yld i H x H'->g x σ H' λσ2 H2=>tb σ2 H2 N')
def PB(X:Cx)(F:Sem Fin->Sem Fin)(t:TC):Prop:=
 ∀(pins:List (Xc×Obj)) (s:s9) (σ:St) (H:Hp) (N:St->Hp->Prop) (k:Sem Fin) (Q:Fin->s9->Prop) (E:i0->s9->Prop),Inv X pins σ H s->t σ H N->
  (∀s' σ' H',Inv X pins σ' H' s'->N σ' H'->LR (model X.prog X.w) X.A k Q E s')->LR (model X.prog X.w) X.A (F k) Q E s
section
variable{X:Cx}
theorem nox{α:Type}{m:Sem α}{Q:α->s9->Prop}{E:i0->s9->Prop}(hx:∀e s,X.xe e s->False)(h:LR (model X.prog X.w) X.A m Q X.xe s):LR (model X.prog X.w) X.A m Q E s:=Nv h (λ_ _ q=>q) λe s' q=>(hx e s' q).elim
noncomputable def jA(ts:List TT)(tb:TC):TC:=match ts with
 |[]=>tb
 |t::r=>λσ H N=>t σ H λb H1=>if b=F2 then jA r tb σ H1 N else N σ H1
theorem jB{env:Env}{M:R5}{A:MU}{Q:Bool->s9->Prop}{E:i0->s9->Prop}{s:s9}(h:Q N2 s):∀ifs:List Expr,
 LR M A (forIn ifs N2 λc r=>if r=F2 then do let ok <-isTrue c env (eval c env);pure (Q9 ok)else pure (Q9 r)) Q E s
 |[]=>z4 h
 |c::r=>by rw[Qb];simp only[NS,if_false];exact gV (z4 (jB h r))
theorem pi(hx:∀e s,X.xe e s->False){tb:TC}{N:St->Hp->Prop}:∀{ifs:List Expr} {ts:List TT},NA (λc t=>PT X c t) ifs ts->
 ∀(pins:List (Xc×Obj)) (s:s9) (σ:St) (H:Hp) (E:i0->s9->Prop),Inv X pins σ H s->jA ts tb σ H N->
 LR (model X.prog X.w) X.A (bw ifs X.env) (λok s'=>∃H',Inv X pins σ H' s'/\if ok=F2 then tb σ H' N else N σ H') E s
 |_,_,.nil=>λpins s σ H E I h=>z4 ⟨H,I,by rw[if_pos rfl];exact h⟩
 |c::ifs,_,.cons (b:=t) B hr=>by
  intro pins s σ H E I h;have ih:=pi hx hr (tb:=tb) (N:=N) pins;unfold bw at ih⊢;rw[Qb];simp only[if_true];refine gV (gV (nox hx (thn (B pins s σ H _ I h) λb s1 F=>?_)));obtain⟨H1,z,j⟩:=F;refine z4 ?_
  cases b with
  |false=>rw[if_neg LJ]at j;exact jB ⟨H1,z,by rw[if_neg LJ];exact j⟩ ifs
  |true=>rw[if_pos rfl]at j;exact ih s1 σ H1 E z j
theorem yw(hx:∀e s,X.xe e s->False){F:Sem Fin->Sem Fin}{tb:TC}(B:PB X F tb){ts:List TT}(G:NA (λc t=>PT X c t) ifs ts):
 PB X (λk=>bw ifs X.env>>=λok=>if ok=F2 then F k else k) (jA ts tb):=by
 intro pins s σ H N k Q E I h hk;refine gV (thn (pi hx G pins s σ H E I h) λok s1 J=>?_);obtain⟨H1,z,j⟩:=J
 cases ok with
 |false=>rw[if_neg LJ]at j⊢;exact hk s1 σ H1 z j
 |true=>rw[if_pos rfl]at j⊢;exact B pins s1 σ H1 N k Q E z j hk
noncomputable def Ay(p:Xc)(te:TE):TC:=λσ H N=>te σ H λx H1=>∃xs,H1 p=Z (.lst xs)/\xs.length<LK/\N σ (upd H1 p (.lst (xs++[x])))
theorem kR(hx:∀e s,X.xe e s->False){p:Xc}(he:PE X elt te)(hd:gens[d+1]?=Y):
 PB X (bj elt gens scope pos d (.ref p) X.env) (Ay p te):=by
 intro pins s σ H N k Q E I h z;unfold bj;rw[hd];refine gV (gV (nox hx (thn (he pins s σ H _ I h) λu s1 j=>?_)));obtain⟨x,H1,B,F,xs,e1,l1,G⟩:=j;refine gV (nox hx (thn (mm (X:=X) pins s1 σ H1 (.ref p) [x] (.ref p) [u] (λ_ H2=>N σ H2) B rfl (.cons F .nil) ⟨p,xs,x,rfl,rfl,e1,l1,G⟩) λv s2 j=>?_));obtain⟨_,H2,J,_,L⟩:=j;exact z4 (z s2 σ H2 J L)
theorem mv(hx:∀e s,X.xe e s->False)(hc:X.calm=F2)(hd:gens[d]?=Z ⟨target,iter,ifs,0⟩)(ha:∀g',gens[d+1]?=Z g'->g'.is_async=0)(hg:PG X target g){tb:TC}(j:PB X (λk=>bw ifs X.env>>=λok=>if ok=F2 then bj elt gens scope pos d acc X.env k else k) tb){N:St->Hp->Prop}{it:Xc}{fp:List Xc}{tn:Nat->Heap->Prop}{J:It}(I:Inv X pins σ H s)(T:gF X.prog X.w X.K target J fp it tn)(t0:tn 0 s.heap)(f2:∀b∈fp,cM X pins H b)(h:cO J g tb N σ H):
 Pb (model X.prog X.w) X.A (.compLoop (.ListComp elt gens scope pos) d (.ref it) acc X.env) (λr s'=>match r with|.ok _=>∃σ' H',Inv X pins σ' H' s'/\N σ' H'|.error _=>False) s:=by
 obtain⟨W,⟨m0,w0⟩,turn⟩:=h;have stat:∀{H':Hp},(∀b∈fp,H' b=Y)->∀b∈fp,cM X pins H' b:=λhn b j=>⟨hn b j,(f2 b j).2⟩;refine codeAny_loop rfl (λn s'=>∃i σ' H',Inv X pins σ' H' s'/\tn i s'.heap/\(∀b∈fp,H' b=Y)/\W i n σ' H') ?_ m0 ⟨0,σ,H,I,t0,λb j=>(f2 b j).1,w0⟩;rintro n s3 ⟨i,σ3,L,I3,F,G,w3⟩;show LR _ _ ((compTurn (.ListComp elt gens scope pos) d (.ref it) acc X.env).onRaise (λx=>do noteFrame x X.env;theTreesLotGoes x)) _ _ s3
 refine wpAny_noted ?_;rw[ph elt target iter ifs gens scope pos d (.ref it) acc X.env hd ha];refine gV (Pt (gV ?_));show LR (model X.prog X.w) X.A _ _ _ s3
 rcases turn i n σ3 L w3 with⟨stop,qn⟩|⟨go,N',hN,step⟩
 ·refine thn (T.done X rfl rfl rfl hc i pins s3 σ3 L _ I3 (stat G) F stop) λr s4 z=>?_;obtain⟨O,I4⟩:=z;subst O;exact z4 ⟨σ3,L,I4,qn⟩
 ·refine thn (T.item X rfl rfl rfl hc i pins s3 σ3 L _ I3 (stat G) F go) λr s4 z=>?_;obtain⟨u,O,h4⟩:=z;subst O;refine gV (thn h4 λ_ s5 z=>?_);obtain⟨x,H5,I5,r5,y5,B,U⟩:=z;have Fn:=I5.pinned (stat U) (T.obj _ _ B);refine gV (nox hx (thn (hg _ s5 σ3 H5 x u _ Fn r5 (step x H5 y5)) λ_ s6 z=>?_));obtain⟨σ6,H6,I6,q6⟩:=z;refine j _ s6 σ6 H6 N' (again (.compLoop (.ListComp elt gens scope pos) d (.ref it) acc X.env)) _ _ I6 q6 λs7 σ7 H7 fv n7=>?_;obtain⟨m',hm,w7⟩:=hN σ7 H7 n7;refine z4 ⟨rfl,m',hm,i+1,σ7,H7,fv.unpinned,T.keep _ _ _ B λb j o e=>(fv.pin (b,o) (Mp _ (Mp _ (dF j e)))).1,λb j=>?_,w7⟩;obtain⟨o,e,dd⟩:=T.obj _ _ B b j;exact(fv.pin (b,o) (Mp _ (Mp _ (dF j e)))).2.1
theorem jC {it:i0}{prog:Ml}{R:VF->s9->Prop}(hd:gens[d]?=Z ⟨target,iter,ifs,0⟩)(h0:Pb (model prog w) A (.compLoop (.ListComp elt gens scope pos) d it acc env) R s)(h:LR (model prog w) A (Tq it) (fun it' s'=>Pb (model prog w) A (.compLoop (.ListComp elt gens scope pos) d it' acc env) R s')
   (notedBy (model prog w) A env λx s'=>R (.error x) s') s):
 Pb (model prog w) A (.compStart (.ListComp elt gens scope pos) d it acc env) R s:=by
 refine codeAny_of_tree ?_;show LR _ _ ((compStart (.ListComp elt gens scope pos) d it acc env).onRaise (λx=>do noteFrame x env;SF theWindowsPlace)) _ _ s
 refine wpAny_notedAt ?_;unfold compStart;have j:(clausesOf (.ListComp elt gens scope pos))[d]?=Z ⟨target,iter,ifs,0⟩:=hd;rw[j];show LR _ _ (ask>>=_) _ _ s;refine gV (wpAny_askSetting (wpAny_ite ?_))
 split
 ·first
   |exact gV (z4 (z4 (Qk rfl h0)))
   |exact z4 (Qk rfl h0)
 ·first
   |exact gV (Oc (gV (Pt (gV (Nv h (λit' s' h'=>z4 (Qk rfl h')) λ_ _ x=>x)))))
   |(refine gV (Oc ?_);show LR _ _ (SF iter.pos>>=_) _ _ s;exact gV (Pt (gV (Nv h (λit' s' h'=>z4 (Qk rfl h')) λ_ _ x=>x))))
theorem mw(hx:∀e s,X.xe e s->False)(B:X.calm=F2)(hd:gens[d+1]?=Z ⟨target,iter,ifs,0⟩)(F:∀g',gens[d+1+1]?=Z g'->g'.is_async=0)(hi:PI X target iter wi)(G:PG X target g){tb:TC}(L:PB X (λk=>bw ifs X.env>>=λok=>if ok=F2 then bj elt gens scope pos (d+1) acc X.env k else k) tb)(hs:∀x,ON iter X.env x=pure x):
 PB X (bj elt gens scope pos d acc X.env) (λσ H N=>wi σ H λJ H1=>cO J g tb N σ H1):=by
 intro pins s σ H N k Q E I h hk;unfold bj;rw[hd];refine gV (nox hx (thn (hi pins s σ H _ I h) λv s1 h1=>?_));refine gV (Pt (gV (OI (hs v) ?_)));refine gV (Na (nox hx (thn h1 λitv s2 h2=>?_)));obtain⟨it,fp,tn,J,H2,e,O,T,j,f2,hw⟩:=h2;subst e;have loop:=mv (acc:=acc) hx B hd F G L O T j f2 hw;refine gV (wpAny_runOwn (OE (jC (R:=λr s'=>match r with|.ok _=>∃σ' H',Inv X pins σ' H' s'/\N σ' H'|.error _=>False) hd loop (T.self _ 0 _ _ _ j loop)) λr s3 z=>?_))
 cases r with
 |error e=>exact z.elim
 |ok f=>obtain⟨σ3,U,Fn,fv⟩:=z;exact hk s3 σ3 U Fn fv
noncomputable def aA(cells:List (Str×Xc)):List (Str×P6)->List (Str×Xc)->List (Str×Xc)
 |[],acc=>acc
 |(n,k)::r,acc=>if k==.free then(match cells.lookup n with|some c=>aA cells r ((n,c)::acc)|none=>aA cells r acc)else aA cells r acc
theorem iT{env:Env}:∀(names:List (Str×P6)) (acc:List (Str×Xc)),(∀x∈names,x.2=.free->(env.cells.lookup x.1).isSome=F2)->
 (forIn names acc λ(x:Str×P6) (r:List (Str×Xc))=>(match x with|(name,kind)=>if(kind==MW)=F2 then do let c <-cellOf env name;pure (Q9 ((name,c)::r))else pure (Q9 r):Sem (ForInStep (List (Str×Xc)))))=(pure (aA env.cells names acc):Sem (List (Str×Xc)))
 |[],acc,_=>rfl
 |(n,k)::r,acc,h=>by
  rw[Qb];have ih:=λacc'=>iT r acc' λx hx=>h x (Mg _ hx);unfold aA
  by_cases hk:(k==MW)=F2
  ·obtain⟨c,z⟩:=Pw.mp (h (n,k) Mr (beq_iff_eq.mp hk));have j:env.cells.lookup n=Z c:=z;have e1:cellOf env n=pure c:=by unfold cellOf;rw[j]
   simp only[hk,if_true,e1,j,VI];exact ih _
  ·simp only[hk,if_false,VI];exact ih _
theorem fW(h:∀x∈scope.names,x.2=.free->(env.cells.lookup x.1).isSome=F2):closureFor scope env=pure (aA env.cells scope.names []):=by unfold closureFor;have e:=iT (env:=env) scope.names [] h;simp only[bind_pure];exact e
theorem cP{cells:List (Str×Xc)}{y:Str}{c:Xc}:∀{names:List (Str×P6)} {acc:List (Str×Xc)},(y,c)∈aA cells names acc->(y,c)∈acc∨(cells.lookup y=Z c/\(y,MW)∈names)
 |[],acc,h=>.inl h
 |(n,k)::r,acc,h=>by
  unfold aA at h
  by_cases hk:(k==MW)=F2
  ·rw[if_pos hk]at h;have F:k=.free:=beq_iff_eq.mp hk;subst F
   cases G:cells.lookup n with
   |none=>
    rw[G]at h
    rcases cP h with z|⟨j,B⟩
    ·exact .inl z
    ·exact .inr ⟨j,Mg _ B⟩
   |some c'=>
    rw[G]at h
    rcases cP h with z|⟨j,B⟩
    ·rcases LI.mp z with e|z
     ·cases e
      exact .inr ⟨G,Mr⟩
     ·exact .inl z
    ·exact .inr ⟨j,Mg _ B⟩
  ·rw[if_neg hk]at h
   rcases cP h with z|⟨j,B⟩
   ·exact .inl z
   ·exact .inr ⟨j,Mg _ B⟩
theorem cQ{cells:List (Str×Xc)}{y:Str}{c:Xc}(j:cells.lookup y=Z c):∀{names:List (Str×P6)} {acc:List (Str×Xc)},((y,c)∈acc∨(y,MW)∈names)->(y,c)∈aA cells names acc
 |[],acc,h=>by
  rcases h with h|h
  ·exact h
  ·simp at h
 |(n,k)::r,acc,h=>by
  unfold aA
  by_cases hk:(k==MW)=F2
  ·rw[if_pos hk];have z:k=.free:=beq_iff_eq.mp hk;subst z
   cases hl:cells.lookup n with
   |none=>
    refine cQ j ?_
    rcases h with h|h
    ·exact .inl h
    ·rcases LI.mp h with e|h
     ·cases e;rw[hl]at j;cases j
     ·exact .inr h
   |some c'=>
    refine cQ j ?_
    rcases h with h|h
    ·exact .inl (Mg _ h)
    ·rcases LI.mp h with e|h
     ·cases e;rw[hl]at j;cases j;exact .inl Mr
     ·exact .inr h
  ·rw[if_neg hk];refine cQ j ?_
   rcases h with h|h
   ·exact .inl h
   ·rcases LI.mp h with e|h
    ·cases e;exact absurd rfl hk
    ·exact .inr h
theorem dC:∀(names:List (Str×P6)) (n:Nat) (acc acc':List (Str×Xc)),OC n names (acc++acc')=OC n names acc++acc'
 |[],_,_,_=>rfl
 |(x,k)::r,n,acc,acc'=>by
  unfold OC
  by_cases j:(k==OH)=F2
  ·rw[if_pos j,if_pos j];exact dC r (n+1) ((x,n)::acc) acc'
  ·rw[if_neg j,if_neg j];exact dC r n acc acc'
theorem dD:∀{names:List (Str×P6)} {n:Nat} {acc:List (Str×Xc)} {y:Str} {c:Xc},(y,c)∈OC n names acc->(y,c)∈acc∨(n<=c/\(y,OH)∈names)
 |[],_,_,_,_,h=>.inl h
 |(x,k)::r,n,acc,y,c,h=>by
  unfold OC at h
  by_cases hk:(k==OH)=F2
  ·rw[if_pos hk]at h;have j:k=.cell:=beq_iff_eq.mp hk;subst j
   rcases dD h with z|⟨B,F⟩
   ·rcases LI.mp z with e|z
    ·cases e;exact .inr ⟨LW _,Mr⟩
    ·exact .inl z
   ·exact .inr ⟨Nat.le_of_succ_le B,Mg _ F⟩
  ·rw[if_neg hk]at h
   rcases dD h with z|⟨B,F⟩
   ·exact .inl z
   ·exact .inr ⟨B,Mg _ F⟩
structure bn(sc osc:Scope)(oN N':List Str)(fr:List (Option Nat)):Prop where
 kind:sc.kind=.function
 nd:(sc.names.map (·.1)).Nodup
 ndN:N'.Nodup
 free:∀x∈sc.names,x.2=.free->osc.names.lookup x.1=Z .cell∨osc.names.lookup x.1=Z .free
 len:fr.length=N'.length
 fr:∀(i j:Nat) (x:Str),N'[i]?=Z x->fr[i]?=Z (Z j)->oN[j]?=Z x/\(x,MW)∈sc.names
noncomputable def inh(fr:List (Option Nat))(σ:St):St:=fr.map λo=>o.bind λj=>(σ[j]?).join
noncomputable def bo(X:Cx)(sc:Scope)(L:Xc):Env:={scope:=relabel sc X.env,locals:=L,globals:=X.env.globals,cells:=OC (L+1) sc.names (aA X.env.cells sc.names []),qual:=X.env.qual,func:=Y,code:=X.env.code,frame:=X.env.frame,builtins:=X.env.builtins}
noncomputable def aQ(X:Cx)(sc:Scope)(N':List Str)(s:s9)(H:Hp)(fp:List Xc):Cx:={X with N:=N',s₀:=s,H₀:=H,env:=bo X sc s.heap.objs.size,outer:=X.stack,stack:=X.stack,ex:=fp,fn:=λx=>sc.names.lookup x==Z .cell,pn:=[],xe:=λ_ _=>False}
theorem b7:∀{l:List (Str×P6)} {x:Str} {k:P6},(l.map (·.1)).Nodup->(x,k)∈l->l.lookup x=Z k
 |(y,k')::r,x,k,nd,h=>by
  have nd':(y::r.map (·.1)).Nodup:=nd;obtain⟨z,B⟩:=NL.mp nd';rw[OZ]
  rcases LI.mp h with e|hm
  ·cases e;simp
  ·have j:(x==y)=N2:=by
    refine beq_eq_false_iff_ne.mpr λe=>?_;subst e;exact z (LU.mpr ⟨(x,k),hm,rfl⟩)
   rw[j];exact b7 B hm
theorem cR{env:Env}:∀{names:List (Str×P6)} {x:Str},
 (names.map fun (n,k)=>if(k==MW&&env.scope.kind==.function&&env.kindOf n==Z .cell)then(n,OH)else(n,k)).lookup x =
   (names.lookup x).map λk=>if(k==MW&&env.scope.kind==.function&&env.kindOf x==Z .cell)then OH else k
 |[],_=>rfl
 |(n,k)::r,x=>by
  have ih:=cR (env:=env) (names:=r) (x:=x);show Qv x ((if(k==MW&&env.scope.kind==.function&&env.kindOf n==Z .cell)=F2 then(n,OH)else(n,k))::_)=_
  rw[OZ (a:=x) (b:=k)]
  by_cases hx:x=n
  ·subst hx;simp only[beq_self_eq_true];show _=Z (if(k==MW&&env.scope.kind==.function&&env.kindOf x==Z .cell)=F2 then OH else k)
   by_cases j:(k==MW&&env.scope.kind==.function&&env.kindOf x==Z .cell)=F2
   ·rw[if_pos j,if_pos j,OZ];simp only[beq_self_eq_true]
   ·rw[if_neg j,if_neg j,OZ];simp only[beq_self_eq_true]
  ·have z:(x==n)=N2:=beq_eq_false_iff_ne.mpr hx;rw[z]
   by_cases j:(k==MW&&env.scope.kind==.function&&env.kindOf n==Z .cell)=F2
   ·rw[if_pos j,OZ,z];exact ih
   ·rw[if_neg j,OZ,z];exact ih
section
variable{pins:List (Xc×Obj)}{σ:St}{H:Hp}{s:s9}{sc:Scope}{N':List Str}{fr:List (Option Nat)}{fp:List Xc}
theorem gL(I:Inv X pins σ H s)(B:bn sc X.env.scope X.N N' fr):∀x∈sc.names,x.2=.free->(X.env.cells.lookup x.1).isSome=F2:=λx hx e=>by obtain⟨c,j⟩:=I.ok.has x.1 (B.free x hx e);rw[j];rfl
theorem vK(I:Inv X pins σ H s)(f2:∀b∈fp,cM X pins H b)(fv:∀b∈fp,b<s.heap.objs.size)(B:bn sc X.env.scope X.N N' fr):
 Inv (aQ X sc N' s H fp) [] (inh fr σ) H {s with heap:=VJ (s.heap.push {cls:=.type "dict",data:=.dict #[]}) sc.names}:=by
 have G:∀b o,s.heap.get? b=Z o->(VJ (s.heap.push {cls:=.type "dict",data:=.dict #[]}) sc.names).get? b=Z o:=λb o e=>TX _ _ b o (q7 _ e);have ok:=cellsFrom_ok sc.names (s.heap.push {cls:=.type "dict",data:=.dict #[]}) (s.heap.objs.size+1) [] ⟨λ_ _ hm=>(nomatch hm),SH⟩ (by rw[NT];exact LW _)
 rw[NT]at ok;have capp:OC (s.heap.objs.size+1) sc.names (aA X.env.cells sc.names [])=OC (s.heap.objs.size+1) sc.names []++aA X.env.cells sc.names []:=dC sc.names _ [] _;have cof:∀x c,(bo X sc s.heap.objs.size).cells.lookup x=Z c->((x,c)∈OC (s.heap.objs.size+1) sc.names []/\s.heap.objs.size<c)∨(X.env.cells.lookup x=Z c/\(x,MW)∈sc.names):=λx c e=>by
  have m:=N5 e;have m':(x,c)∈OC (s.heap.objs.size+1) sc.names (aA X.env.cells sc.names []):=m;rw[capp]at m'
  rcases LV.mp m' with z|z
  ·exact .inl ⟨z,(ok.empty x c z).2⟩
  ·rcases cP z with q|q
   ·simp at q
   ·exact .inr q
 have cOld:∀x c,X.env.cells.lookup x=Z c->c<s.heap.objs.size:=λx c e=>by obtain⟨v,q⟩:=I.cell x c e;exact q.lt
 have kindF:∀x,(x,MW)∈sc.names->(bo X sc s.heap.objs.size).kindOf x=Z .cell∨(bo X sc s.heap.objs.size).kindOf x=Z .free:=λx hx=>by
  have e1:sc.names.lookup x=Z .free:=b7 B.nd hx;have e2:(bo X sc s.heap.objs.size).kindOf x=_:=cR (env:=X.env) (names:=sc.names) (x:=x);rw[e1]at e2;rw[e2]
  by_cases J:(MW==MW&&X.env.scope.kind==.function&&X.env.kindOf x==Z .cell)=F2
  ·exact .inl (by simp only[Pk,if_pos J])
  ·exact .inr (by simp only[Pk,if_neg J])
 have cellF:∀x c,(x,MW)∈sc.names->X.env.cells.lookup x=Z c->(bo X sc s.heap.objs.size).cells.lookup x=Z c:=λx c hx J=>by
  have m:=cQ (acc:=[]) J (.inr hx);have m2:(x,c)∈(bo X sc s.heap.objs.size).cells:=by show(x,c)∈OC (s.heap.objs.size+1) sc.names (aA X.env.cells sc.names []);rw[capp];exact Mp _ m
  cases F:(bo X sc s.heap.objs.size).cells.lookup x with
  |none=>
   exfalso
   have:∀{l:List (Str×Xc)},(x,c)∈l->l.lookup x=Y->False:=by
    intro l
    induction l with
    |nil=>intro h;simp at h
    |cons a r ih=>
     intro h e;obtain⟨y,d⟩:=a;rw[OZ]at e
     rcases LI.mp h with z|z
     ·cases z;simp at e
     ·by_cases hxy:(x==y)=F2
      ·rw[hxy]at e;cases e
      ·simp only[Rr]at hxy;rw[hxy]at e;exact ih z e
   exact this m2 F
  |some c'=>
   rcases cof x c' F with⟨z,_⟩|⟨z,_⟩
   ·rcases dD z with q|⟨_,q⟩
    ·simp at q
    ·have a1:=b7 B.nd hx;have a2:=b7 B.nd q;rw[a1]at a2;cases a2
   ·rw[J]at z;rw[z]
 have kindC:∀x,(bo X sc s.heap.objs.size).kindOf x=Z .cell->(x,OH)∈sc.names∨(x,MW)∈sc.names:=λx e=>by
  have e2:(bo X sc s.heap.objs.size).kindOf x=_:=cR (env:=X.env) (names:=sc.names) (x:=x);rw[e2]at e
  cases F:sc.names.lookup x with
  |none=>rw[F]at e;cases e
  |some k=>
   rw[F]at e;have m:=N5 F
   cases k with
   |cell=>exact .inl m
   |free=>exact .inr m
   |«local»=>simp at e
   |globalImplicit=>simp at e
   |globalExplicit=>simp at e
 have kindFr:∀x,(bo X sc s.heap.objs.size).kindOf x=Z .free->(x,MW)∈sc.names:=λx e=>by
  have e2:(bo X sc s.heap.objs.size).kindOf x=_:=cR (env:=X.env) (names:=sc.names) (x:=x);rw[e2]at e
  cases F:sc.names.lookup x with
  |none=>rw[F]at e;cases e
  |some k=>
   rw[F]at e;have m:=N5 F
   cases k with
   |free=>exact m
   |cell=>simp at e
   |«local»=>simp at e
   |globalImplicit=>simp at e
   |globalExplicit=>simp at e
 refine⟨⟨I.ok.mod,B.kind,I.ok.glob,I.ok.blt,LW _,λy z c h1 h2=>?_,λy hy=>?_,λy c hf h=>?_,I.ok.hd,I.ok.frames,.inl rfl,λb O=>⟨?_,λx c e=>?_⟩,λb o e=>I.bs b o e,?_,λb o e O=>?_,λb O=>?_,I.stack,I.stkFree⟩,
  rfl,I.bare,Un.kept G,⟨_,(Heap.Ns.new s.heap (.type "dict")).keeps (TX _ _),λi x v h1 h2 h3=>?_⟩,λy c h=>?_,I.hok.fresh (LW _),λy c h=>?_,λp hp=>absurd (show p∈([]:List (Xc×Obj))from hp) (by simp),I.hok.kept G,?_⟩
 ·rcases cof y c h1 with⟨a1,a2⟩|⟨a1,a2⟩
  ·rcases cof z c h2 with⟨Fn,b2⟩|⟨Fn,b2⟩
   ·exact name_of_addr ok.apart a1 Fn
   ·exact absurd (cOld z c Fn) (Ww.mpr (PU a2))
  ·rcases cof z c h2 with⟨Fn,b2⟩|⟨Fn,b2⟩
   ·exact absurd (cOld y c a1) (Ww.mpr (PU b2))
   ·exact I.ok.inj y z c a1 Fn
 ·have Jo:(y,OH)∈sc.names∨(y,MW)∈sc.names:=by
   rcases hy with hy|hy
   ·exact kindC y hy
   ·exact .inr (kindFr y hy)
  rcases Jo with q|q
  ·exact Pw.mp (PX sc.names _ _ (.inl (b7 B.nd q)))
  ·obtain⟨c,J⟩:=Pw.mp (gL I B _ q rfl);exact⟨c,cellF y c q J⟩
 ·have Jp:(sc.names.lookup y==Z .cell)=F2:=hf;have Jm:sc.names.lookup y=Z .cell:=by simpa using Jp
  rcases cof y c h with⟨_,a2⟩|⟨_,a2⟩
  ·exact PU a2
  ·rw[b7 B.nd a2]at Jm;cases Jm
 ·exact Mt (fv b O)
 ·rcases cof x c e with⟨_,a2⟩|⟨a1,_⟩
  ·exact Ny (Nat.lt_trans (fv b O) a2)
  ·exact(f2 b O).2.2.2.2.1 x c a1
 ·exact NG I.ok.bsz I.sz
 ·obtain⟨f0,f1,f3,f4,f5,f6⟩:=f2 b O
  rcases f4 with z|z
  ·exact I.ok.noex b o e z
  ·exact absurd (Mz (Mz (LD e) I.ok.bsz) z) (Nj _)
 ·obtain⟨f0,f1,f3,f4,f5,f6⟩:=f2 b O;exactλz=>(LI.mp (I.stkSub b z)).elim f1 f3
 ·have hi:∃j,fr[i]?=Z (Z j)/\σ[j]?=Z (Z v):=by
   unfold inh at h2;rw[LQ]at h2
   cases e:fr[i]? with
   |none=>rw[e]at h2;cases h2
   |some o=>
    rw[e]at h2
    cases o with
    |none=>cases h2
    |some j=>
     refine⟨j,rfl,?_⟩;have L:Z ((σ[j]?).join)=Z (Z v):=h2
     cases e':σ[j]? with
     |none=>rw[e']at L;cases L
     |some w=>rw[e']at L;cases L;rfl
  obtain⟨j,e1,e2⟩:=hi;obtain⟨n1,n2⟩:=B.fr i j x h1 e1;obtain⟨m,hn,F⟩:=I.loc;have hv:Vis X.env.scope x:=.inr (B.free (x,.free) n2 rfl);obtain⟨u,ru,lk⟩:=F j x v n1 e2 hv;refine⟨u,ru,.inr ⟨kindF x n2,?_⟩⟩
  rcases lk with⟨k1,_⟩|⟨_,c,J,U⟩
  ·have Jn:X.env.scope.names.lookup x=Z .local:=k1
   rcases B.free (x,.free) n2 rfl with z|z
   ·rw[Jn]at z;cases z
   ·rw[Jn]at z;cases z
  ·exact⟨c,cellF x c n2 J,U.keeps G⟩
 ·rcases cof y c h with⟨a1,a2⟩|⟨a1,a2⟩
  ·exact⟨_,(ok.empty y c a1).1⟩
  ·obtain⟨v,q⟩:=I.cell y c a1;exact⟨v,q.keeps G⟩
 ·rcases cof y c h with⟨a1,a2⟩|⟨a1,a2⟩
  ·exact I.hok.fresh (PU a2)
  ·exact I.freeC y c a1
 ·show(inh fr σ).length=N'.length;unfold inh;rw[tv];exact B.len
theorem mz{σ':St}{s':s9}(I:Inv X pins σ H s)(f2:∀b∈fp,cM X pins H b)(J:Inv (aQ X sc N' s H fp) [] σ' H' s')(hs:NH s.heap.objs.size s'.heap h'):
 Inv X pins σ H' {s' with heap:=h'}:=by
 have u:Un (frs X.stack) fp H H' s.heap s'.heap:=J.base;have ne:∀b o,s.heap.get? b=Z o->b≠s.heap.objs.size:=λb o e=>Mt (LD e);refine I.call' (s':={s' with heap:=h'}) (ch:=fp) J.os ⟨λb o e n j hx=>?_,λb o e n j hx=>?_,u.free,λb o e hx=>?_,u.tups,u.frzs,u.tbls⟩ (λb v e=>?_) J.bare λb j=>?_
 ·exact(hs.2 b (ne b o e)).trans (u.keep b o e n j hx)
 ·obtain⟨sl,q⟩:=u.slot b o e n j hx;exact⟨sl,(hs.2 b (ne b o e)).trans q⟩
 ·obtain⟨o',q⟩:=u.there b o e hx;exact⟨o',(hs.2 b (ne b o e)).trans q⟩
 ·refine(J.hok b v e).stay (λc w F q=>(hs.2 c ?_).trans q) (λ_ q=>q) λ_ _ q=>q;have fr:H' s.heap.objs.size=Y:=J.free
  rcases F with z|z
  ·rw[z];intro B;rw[B,fr]at e;cases e
  ·intro B;rw[B,fr]at z;cases z
 ·obtain⟨f0,f1,O,f4,G,L⟩:=f2 b j;exact⟨f4,f1,G,L⟩
theorem nT {Q:Env->s9->Prop}{E:i0->s9->Prop}{M:R5}(h:Q {scope:=sc,locals:=s.heap.objs.size,globals:=X.env.globals,cells:=OC (s.heap.objs.size+1) sc.names (aA X.env.cells sc.names []),qual:=X.env.qual,func:=Y,code:=X.env.code,frame:=X.env.frame,builtins:=X.env.builtins}
   {s with heap:=VJ (s.heap.push {cls:=.type "dict",data:=.dict #[]}) sc.names}):
 LR M A (Ug sc X.env.globals (aA X.env.cells sc.names []) [] X.env.qual Y .none (Z X.env)) Q E s:=by
 simp only[Ug,V1,if_true];refine gV (wpAny_alloc ?_);refine gV (wpAny_layCells _ (λname kind cells=>by cases hkc:kind==OH<;>simp[hkc]) _ _ _ _ ?_)
 rw[show({s with heap:=s.heap.push {cls:=.type "dict",data:=.dict #[]}}:s9).heap.objs.size=s.heap.objs.size+1 from NT ..]
 exact gV (z4 (z4 h))
theorem pj(hc:X.calm=F2){rest:List Nl}{E:i0->s9->Prop}(hx:∀e s,X.xe e s->False)(B:bn sc X.env.scope X.N N' fr)(ha:∀g',rest[0]?=Z g'->g'.is_async=0)(hi:PI X target iter wi){tb:Xc->TC}(hg:∀s H fp,PG (aQ X sc N' s H fp) target g)(j:∀s H fp p,PB (aQ X sc N' s H fp) (λk=>bw ifs (aQ X sc N' s H fp).env>>=λok=>if ok=F2 then bj elt (⟨target,iter,ifs,0⟩::rest) sc pos 0 (.ref p) (aQ X sc N' s H fp).env k else k) (tb p)){Nn:Xc->St->Hp->Prop}{RR:i0->Xc->VF->s9->Prop}(I:Inv X pins σ H s)(h:wi σ H λJ H1=>∀p,H1 p=Y->cO J g (tb p) (Nn p) (inh fr σ) (upd H1 p (.lst [])))(hR:∀p fp s3 O s' σ' H' f,Inv X pins σ O s3->(∀b∈fp,cM X pins O b)->Inv (aQ X sc N' s3 O fp) [] σ' H' s'->Nn p σ' H'->RR (.ref p) s3.heap.objs.size (.ok f) s'):
 LR (model X.prog X.w) X.A (eval iter X.env) (λx s₁=>LR (model X.prog X.w) X.A (Tq x) (λit s₂=>LR (model X.prog X.w) X.A (newList []) (λacc s₃=>
  LR (model X.prog X.w) X.A (Ug sc X.env.globals (aA X.env.cells sc.names []) [] X.env.qual Y .none (Z X.env)) (λcenv s₄=>Pb (model X.prog X.w) X.A (.compStart (.ListComp elt (⟨target,iter,ifs,0⟩::rest) sc pos) 0 it acc {cenv with scope:=relabel sc X.env}) (RR acc cenv.locals) s₄) E s₃) E s₂) E s₁) E s:=by
 refine nox hx (thn (hi pins s σ H _ I h) λv s1 h1=>nox hx (thn h1 λitv s2 h2=>?_));obtain⟨it,fp,tn,J,H2,e,I2,T,F,f2,hw⟩:=h2;subst e;have hf:H2 s2.heap.objs.size=Y:=I2.hok.fresh (LW _);refine RA ?_;have I3:Inv X pins σ (upd H2 s2.heap.objs.size (.lst [])) {s2 with heap:=s2.heap.push {cls:=.type "list",dict:=Y,data:=.seq ([]:List i0).toArray}}:=I2.laid (t':=s2.toks) (λb u e=>q7 _ e) (LW _) ⟨Og _,[],0,.nil,LF _ rfl⟩
 have fneq:∀b∈fp,b≠s2.heap.objs.size:=λb j z=>by obtain⟨o,e,_⟩:=T.obj _ _ F b j;exact absurd (LD e) (by rw[z];exact Nj _)
 have U:∀b∈fp,cM X pins (upd H2 s2.heap.objs.size (.lst [])) b:=λb j=>⟨by rw[ao (fneq b j)];exact(f2 b j).1,(f2 b j).2⟩
 have Fn:∀b∈fp,b<(s2.heap.push {cls:=.type "list",dict:=Y,data:=.seq ([]:List i0).toArray}).objs.size:=λb j=>by obtain⟨o,e,_⟩:=T.obj _ _ F b j;rw[NT];exact Vl (LD e)
 have fv:tn 0 (s2.heap.push {cls:=.type "list",dict:=Y,data:=.seq ([]:List i0).toArray}):=T.keep _ _ _ F λb _ o e=>q7 _ e;refine nT ?_;have L:=vK (N':=N') I3 U Fn B;have G:=T.keep _ (h':=VJ (({s2 with heap:=s2.heap.push {cls:=.type "list",dict:=Y,data:=.seq ([]:List i0).toArray}}:s9).heap.push {cls:=.type "dict",data:=.dict #[]}) sc.names) _ fv λb _ o e=>TX _ _ b o (q7 _ e)
 have f4:∀b∈fp,cM (aQ X sc N' {s2 with heap:=s2.heap.push {cls:=.type "list",dict:=Y,data:=.seq ([]:List i0).toArray}} (upd H2 s2.heap.objs.size (.lst [])) fp) [] (upd H2 s2.heap.objs.size (.lst [])) b:=λb j=>⟨(U b j).1,(L.ok.exf b j).1,L.ok.exfs b j,.inl j,(L.ok.exf b j).2,λp hp=>absurd (show p∈([]:List (Xc×Obj))from hp) (by simp)⟩
 have loop:=mv (X:=aQ X sc N' {s2 with heap:=s2.heap.push {cls:=.type "list",dict:=Y,data:=.seq ([]:List i0).toArray}} (upd H2 s2.heap.objs.size (.lst [])) fp) (λ_ _ z=>z) hc
  (elt:=elt) (pos:=pos) (scope:=sc) (gens:=⟨target,iter,ifs,0⟩::rest) (d:=0) (acc:=.ref s2.heap.objs.size) rfl (λg' e=>ha g' (by simpa using e)) (hg _ _ _) (j _ _ _ _) L T G f4 (hw _ hf)
 refine OE (jC (R:=λr s'=>match r with|.ok _=>∃σ' H',Inv (aQ X sc N' {s2 with heap:=s2.heap.push {cls:=.type "list",dict:=Y,data:=.seq ([]:List i0).toArray}} (upd H2 s2.heap.objs.size (.lst [])) fp) [] σ' H' s'/\Nn s2.heap.objs.size σ' H'|.error _=>False)
  (gens:=⟨target,iter,ifs,0⟩::rest) (d:=0) rfl loop (T.self _ 0 _ _ _ G loop)) λr s5 hr=>?_
 cases r with
 |error e=>exact hr.elim
 |ok f=>obtain⟨σ5,H5,I5,n5⟩:=hr;exact hR _ fp _ _ s5 σ5 H5 f I3 U I5 n5
noncomputable def tS(wi:TI)(g:TG)(tb:Xc->TC)(fr:List (Option Nat)):TE:=λσ H Q=>wi σ H λJ H1=>∀p,H1 p=Y->cO J g (tb p) (λ_ H2=>Q (.ref p) H2) (inh fr σ) (upd H1 p (.lst []))
theorem mC(B:bn sc X.env.scope X.N N' fr):∀x∈sc.names,x.2=.local->sc.names.lookup x.1=Z .local:=λx hx e=>by obtain⟨n,k⟩:=x;have e':k=.local:=e;subst e';exact b7 B.nd hx
theorem iU(z:X.calm=F2){rest:List Nl}(hx:∀e s,X.xe e s->False)(B:bn sc X.env.scope X.N N' fr)(F:∀g',rest[0]?=Z g'->g'.is_async=0)(hi:PI X target iter wi){tb:Xc->TC}(G:∀s H fp,PG (aQ X sc N' s H fp) target g)(L:∀s H fp p,PB (aQ X sc N' s H fp) (λk=>bw ifs (aQ X sc N' s H fp).env>>=λok=>if ok=F2 then bj elt (⟨target,iter,ifs,0⟩::rest) sc pos 0 (.ref p) (aQ X sc N' s H fp).env k else k) (tb p))(hs:∀x,ON iter X.env x=pure x):
 PE X (.ListComp elt (⟨target,iter,ifs,0⟩::rest) sc pos) (tS wi g tb fr):=by
 intro pins s σ H Q I h;rw[eval_ListComp];refine SS (use:=Y) rfl hs (fW (gL I B)) B.kind (mC B) (pj (Nn:=λp _ H2=>Q (.ref p) H2) (RR:=λacc C=>compPost (model X.prog X.w) X.A X.xe Y (EP X pins σ Q) acc C) z hx B F hi G L I h ?_);intro p fp s3 fv s' σ' H' f O U J q;obtain⟨m,Fn,_⟩:=J.loc;exact⟨m,Fn,λh' j=>⟨.ref p,H',mz O U J j,rfl,q⟩⟩
theorem jD(hc:X.calm=F2){rest:List Nl}{spos:Pos}{i:Nat}(hx:∀e s,X.xe e s->False)(B:bn sc X.env.scope X.N N' fr)(ha:∀g',rest[0]?=Z g'->g'.is_async=0)(hi:PI X target iter wi){tb:Xc->TC}(hg:∀s H fp,PG (aQ X sc N' s H fp) target g)(F:∀s H fp p,PB (aQ X sc N' s H fp) (λk=>bw ifs (aQ X sc N' s H fp).env>>=λok=>if ok=F2 then bj elt (⟨target,iter,ifs,0⟩::rest) sc pos 0 (.ref p) (aQ X sc N' s H fp).env k else k) (tb p))(hs:∀x,ON iter X.env x=pure x)(G:PG X (.Name x pos') (jn i))(L:Qy (.ListComp elt (⟨target,iter,ifs,0⟩::rest) sc pos) (Z (.Name x pos')) spos.line X.env=pure F2):
 PS X (.Assign [.Name x pos'] (.ListComp elt (⟨target,iter,ifs,0⟩::rest) sc pos) spos) (oS (tS wi g tb fr) (jn i)):=by
 intro pins s σ H D I h;rw[exec_Assign_Name_used _ _ _ _ L];refine gV (Pt (gV ?_));show LR _ X.A (do let _ <-comprehension (.ListComp elt (⟨target,iter,ifs,0⟩::rest) sc pos) sc X.env _ (newList []) N2 (eval iter X.env) (Z (assign (.Name x pos') X.env))) _ _ s
 refine gV (Nv (SS (use:=Z (assign (.Name x pos') X.env)) (Q:=λ_ s'=>SP X pins D .next s') rfl hs (fW (gL I B)) B.kind (mC B)
  (pj (Nn:=λp _ H2=>D.nx (σ.set i (Z (.ref p))) H2) (RR:=λacc C=>compPost (model X.prog X.w) X.A X.xe (Z (assign (.Name x pos') X.env)) (λ_ s'=>SP X pins D .next s') acc C) hc hx B ha hi hg F I h ?_)) (λ_ s' hq=>z4 (z4 hq)) λ_ _ e=>e)
 intro p fp s3 H3 s' σ' H' f j f3 J q;obtain⟨m,⟨o,es,ep,ho,hd,hk,hm⟩,_⟩:=J.loc;have I4:Inv X pins σ H' s':=mz (h':=s'.heap) j f3 J ⟨rfl,λ_ _=>rfl⟩;have hL:(aQ X sc N' s3 H3 fp).env.locals=s3.heap.objs.size:=rfl;rw[hL]at ho;have O:H' s3.heap.objs.size=Y:=J.free;have neL:s3.heap.objs.size≠X.env.locals:=Ny j.lt;have nfs:s3.heap.objs.size∉X.fs:=j.nofs (LW _);have I5:Inv X (pins++[(s3.heap.objs.size,o)]) σ H' s':=I4.pins_of λpr U=>by
  rcases LV.mp U with z|z
  ·exact I4.pin pr (Mp _ z)
  ·have e:pr=(s3.heap.objs.size,o):=by simpa using z
   subst e;exact⟨ho,O,neL,nfs,λv z=>by rw[hd]at z;cases z⟩
 show LR _ X.A (assign (.Name x pos') X.env (.ref p)) _ _ _;refine thn (G _ s' σ H' (.ref p) (.ref p) D.nx I5 rfl q) λ_ s6 g9=>?_;obtain⟨σ6,H6,I6,q6⟩:=g9;obtain⟨Fn,fv,_⟩:=I6.pin (s3.heap.objs.size,o) (Mp _ (Mp _ (by simp)))
 refine⟨m,⟨o,es,ep,Fn,hd,hk,hm⟩,λh' Jm=>⟨σ6,H6,?_,q6⟩⟩;refine(I6.unpinned).turned (t':=s6.toks) (it:=s3.heap.objs.size) (λb o F e=>(Jm.2 b F).trans e) fv neL (.inr j.sz) (λy c e z=>?_) λpr U z=>?_
 ·obtain⟨v,q⟩:=j.cell y c e;exact absurd q.lt (by rw[z];exact Nj _)
 ·exact absurd (LD (j.pin pr U).1) (by rw[z];exact Nj _)
end
end
end
section
open PySem.W (CodeHd tabObj kla_fn kla_obj)
noncomputable def fzO(a:Xc)(o:Obj):HO:=.frz o (.ext λh=>h.get? a=Z o)
theorem vL{h:Heap}{o:Obj}(e:h.get? a=Z o):ObjOk P w H h a (fzO a o):=⟨e,e,⟨o,e⟩,λ_ _ z k=>k _ z⟩
def pC(H:Hp)(P:Xc)(pos:Pos)(q:Str):Prop:=∃ps,H P=Z (.tbl ps)/\(ps=#[]∨∃c' oc vs t,ps=#[Oz pos.line,Oz pos.col,.ref c']/\H c'=Z (fzO c' oc)/\oc.data=.fields vs/\vs[1]?=Z (.str q t))
def FnAt(H:Hp)(a:Xc)(q:Str)(params:Qj)(body:Expr)(scope:Scope)(cl:List (Str×Xc)):Prop:=∃pm c' ctv oc vs t,H a=Z (fzO a (kla_obj "<lambda>" q params body scope cl pm c' ctv))/\H c'=Z (fzO c' oc)/\oc.data=.fields vs/\vs[1]?=Z (.str q t)
def fj(mg:Str->Option i0)(base:Heap):Prop:=∃bm ob,mg "__builtins__"=Z (.ref bm)/\bm≠To/\base.get? bm=Z ob/\ob.cls=.type "module"/\ob.dict=Z To/\ob.data=.plain
section
variable{X:Cx}{pins:List (Xc×Obj)}{σ:St}{H:Hp}{s:s9}{c P:Xc}{params:Qj}{body:Expr}{scope:Scope}{pos:Pos}{Q:i0->s9->Prop}{E:i0->s9->Prop}{q:Str}
theorem yx(I:Inv X pins σ H s)(Fn:X.env.code=.ref c)(hC:CodeHd X.base c P)(hB:fj X.mg X.base)(hq:X.env.qual++"<lambda>"=q)(T:pC H P pos q)(O:∀x∈scope.names,x.2=.free->(X.env.cells.lookup x.1).isSome=F2)(fv:defaultsOf params X.env=([],[]))(h:∀(a:Xc) (H':Hp) (s':s9),Inv X pins σ H' s'->H a=Y->(∀b o,b≠P->H b=Z o->H' b=Z o)->pC H' P pos q->FnAt H' a q params body scope (aA X.env.cells scope.names [])->Q (.ref a) s'):
 LR (model X.prog X.w) X.A (eval (.Lambda params body scope pos) X.env) Q E s:=by
 obtain⟨ps,B,Jq⟩:=T;obtain⟨bm,ob,b1,b2,b3,b4,b5,b6⟩:=hB;have F:s.heap.get? P=Z (tabObj ps):=I.hok P _ B;have hg:s.heap.Ns Nw X.mg:=I.mod.glob.keeps I.bk;have Jr:Nw≠P:=λz=>by obtain⟨o,es,ep,e,hd,_⟩:=hg;rw[z,F]at e;cases e;cases hd
 have G:=I.bk _ _ b3;have Js:bm≠P:=λz=>by rw[z,F]at G;cases G;cases b4
 have Jt:bm≠Nw:=λz=>by obtain⟨o,es,ep,e,hd,_⟩:=hg;rw[<-z,G]at e;cases e;rw[hd]at b6;cases b6
 have Jm:s.heap.BuiltinsAt X.mg P:=⟨bm,ob,b1,b2,Jt,Js,G,b4,b5,b6⟩;refine PySem.W.kla_eval fv ?_;rw[hq];have fin:∀(h':Heap) (tk:Tok) (c':Xc) (oc:Obj) (vs:Array i0) (t:Tok) (pm ctv:i0) (ps':Array i0),(∀b o,b≠P->s.heap.get? b=Z o->h'.get? b=Z o)->s.heap.objs.size<=h'.objs.size->h'.get? P=Z (tabObj ps')->(∃more,ps'=ps++more)->
  h'.get? c'=Z oc->oc.data=.fields vs->vs[1]?=Z (.str q t)->(H c'=Y/\s.heap.objs.size<=c'∨H c'=Z (fzO c' oc))->(ps'=#[Oz pos.line,Oz pos.col,.ref c'])->
  Q (.ref h'.objs.size) {s with heap:=h'.push (kla_obj "<lambda>" q params body scope (aA X.env.cells scope.names []) pm c' ctv),toks:=tk}:=by
  intro h' tk c' oc vs t pm ctv ps' hx hsz J hm j hd ht hc Jn;generalize ho:kla_obj "<lambda>" q params body scope (aA X.env.cells scope.names []) pm c' ctv=fo;obtain⟨more,rfl⟩:=hm;have na:H h'.objs.size=Y:=I.hok.fresh hsz;have Ju:c'≠h'.objs.size:=Mt (LD j);have Jv:c'≠P:=λz=>by rw[z,J]at j;cases j;rcases hc with⟨n,_⟩|n<;>(rw[z,B]at n;cases n)
  have Jw:P≠h'.objs.size:=Mt (LD J);have pu:∀{b o},h'.get? b=Z o->(h'.push fo).get? b=Z o:=λe=>q7 _ e
  let H':Hp:=upd (upd (upd H P (.tbl (ps++more))) c' (fzO c' oc)) h'.objs.size (fzO h'.objs.size fo)
  have eP:H' P=Z (.tbl (ps++more)):=by show upd _ _ _ P=_;rw[ao Jw,ao (Ne.symm Jv),aB]
  have ec:H' c'=Z (fzO c' oc):=by show upd _ _ _ c'=_;rw[ao Ju,aB]
  have ea:H' h'.objs.size=Z (fzO h'.objs.size fo):=aB;have eo:∀b,b≠P->b≠c'->b≠h'.objs.size->H' b=H b:=λb h1 h2 L=>by show upd _ _ _ b=_;rw[ao L,ao h2,ao h1]
  have kp:∀b o,b≠P->H b=Z o->H' b=Z o:=λb o h1 e=>by
   by_cases L:b=h'.objs.size
   ·subst L;rw[na]at e;cases e
   by_cases h2:b=c'
   ·subst h2
    rcases hc with⟨n,_⟩|n
    ·rw[n]at e;cases e
    ·rw[n]at e;cases e;exact ec
   ·rw[eo b h1 h2 L];exact e
  have nn:∀b o,s.heap.get? b=Z o->H b=Y->H' b=Y:=λb o e n=>by
   have h1:b≠P:=λz=>by rw[z,B]at n;cases n
   have L:b≠h'.objs.size:=Mt (Mz (LD e) hsz);have h2:b≠c':=λz=>by
    rcases hc with⟨_,l⟩|m
    ·rw[z]at e;exact absurd (Mz (LD e) l) (Nj _)
    ·rw[z,m]at n;cases n
   rw[eo b h1 h2 L];exact n
  have un:Un X.fs [] H H' s.heap (h'.push fo):=by
   refine⟨λb o e n _ _=>pu (hx b o (λz=>by rw[z,B]at n;cases n) e),λb o e n _ _=>⟨o.slots,pu (hx b o (λz=>by rw[z,B]at n;cases n) e)⟩,λb o e n _=>nn b o e n,λb o e _=>?_,λb xs e=>kp b _ (λz=>by rw[z,B]at e;cases e) e,λb o u e=>kp b _ (λz=>by rw[z,B]at e;cases e) e,λb JA e=>?_⟩
   ·by_cases z:b=P
    ·exact⟨_,z▸pu J⟩
    ·exact⟨o,pu (hx b o z e)⟩
   ·by_cases z:b=P
    ·subst z;rw[B]at e;cases e;exact⟨more,eP⟩
    ·exact⟨#[],by rw[kp b _ z e];simp⟩
  have hok:HOk X.prog X.w H' (h'.push fo):=λb o e=>by
   by_cases L:b=h'.objs.size
   ·subst L;rw[ea]at e;cases e;exact vL (LF _ (by rw[<-ho];rfl))
   by_cases h2:b=c'
   ·subst h2;rw[ec]at e;cases e;exact vL (pu j)
   by_cases h1:b=P
   ·subst h1;rw[eP]at e;cases e;exact pu J
   rw[eo b h1 h2 L]at e;refine(I.hok b o e).stay (λb' u hb z=>pu (hx b' u (λy=>?_) z)) (λb' z=>kp b' _ (λy=>by rw[y,B]at z;cases z) z) λb' xs z=>kp b' _ (λy=>by rw[y,B]at z;cases z) z
   rcases hb with rfl|hb
   ·exact h1 y
   ·rw[y,B]at hb;cases hb
  refine h _ H' _ (I.un un hok) na kp ⟨_,eP,.inr ⟨c',oc,vs,t,Jn,ec,hd,ht⟩⟩ ⟨pm,c',ctv,oc,vs,t,?_,ec,hd,ht⟩;rw[ho];exact ea
 have Jo:=fW (scope:=scope) (env:=X.env) O
 rcases Jq with rfl|⟨c',oc,vs,t,rfl,j,hd,ht⟩
 ·refine PySem.W.kla_makeFunction (mg:=X.mg) Jo I.ok.glob hg Fn (hC.keeps I.bk) F trivial rfl Jr Jm λc' ctv h' tk hx U Jx Jp Jy=>?_;obtain⟨c2,oc,vs,t,e2,Jz,hd,hv⟩:=Jp
  cases e2
  exact fin h' tk c' oc vs t _ ctv _ (λb o n e=>hx b o n e) (NG U (PU Jx)) Jy ⟨_,rfl⟩ Jz hd hv (.inl ⟨I.hok.fresh U,U⟩) rfl
 ·refine PySem.W.kla_makeFunctionHit (cv:=.ref c') (mg:=X.mg) Jo I.ok.glob hg Fn (hC.keeps I.bk) F trivial ?_ Jm λctv h' tk hk hsz=>?_
  ·simp[codeAmong,Oz]
  ·exact fin h' tk c' oc vs t _ ctv _ (λb o _ e=>hk b o e) hsz (hk _ _ F) ⟨#[],by simp⟩ (hk _ _ (I.hok c' _ j).1) hd ht (.inr j) rfl
end
open PySem.W (envX)
noncomputable def cxL(CX:CXT)(P:Ml)(w:MQ)(K:Frag)(mg:Str->Option i0)(base:Heap)(N:List Str)(q:Str)(scope:Scope)(a:Xc)(cd:i0)(cl:List (Str×Xc))(A:MU)(outer:List Env)(s:s9)(H:Hp)(E:XK):Cx where
 prog:=P
 w:=w
 K:=K
 mg:=mg
 base:=base
 A:=A.deeper (envX q scope s.heap.objs.size a cd cl)
 N:=N
 s₀:=s
 H₀:=H
 env:=envX q scope s.heap.objs.size a cd cl
 outer:=outer
 stack:=envX q scope s.heap.objs.size a cd cl::outer
 ex:=[]
 calm:=F2
 fn:=λ_=>N2
 pn:=[]
 xe:=λe s'=>LR (model P w) (A.deeper (envX q scope s.heap.objs.size a cd cl)) (leaving (envX q scope s.heap.objs.size a cd cl) e) (λ_ s''=>CX outer H s E e s'') (λe' s''=>CX outer H s E e' s'') s'
structure fX(xs:List Str)(y1 y2:Str)(sc:Scope):Prop where
 kind:sc.kind=.function
 co:sc.isCoroutine=N2
 gen:sc.isGenerator=N2
 ne:y1≠y2
 l1:sc.names.lookup y1=Z .local
 l2:sc.names.lookup y2=Z .local
 fr:∀x∈xs,sc.names.lookup x=Z .free
 nc:∀x∈sc.names,x.2≠.cell
 all:∀x,sc.names.lookup x=Z .free->x∈xs
structure rV(H:Hp)(h:Heap)(cl:List (Str×Xc))(xs:List Str)(gs:List V):Prop where
 inj:∀x y c,cl.lookup x=Z c->cl.lookup y=Z c->x=y
 free:∀x c,cl.lookup x=Z c->H c=Y
 isC:∀x c,cl.lookup x=Z c->∃v,h.IsCell c v
 val:∀(i:Nat) (x:Str) (v:V),xs[i]?=Z x->gs[i]?=Z v->∃c u,cl.lookup x=Z c/\h.IsCell c (Z u)/\RelV v u
 has:∀x∈xs,∃c,cl.lookup x=Z c
 len:gs.length=xs.length
section
variable{CX:CXT}{P:Ml}{w:MQ}{K:Frag}{mg:Str->Option i0}{base:Heap}{xs:List Str}{y1 y2 q:Str}{scope:Scope}{a:Xc}{cd:i0}{cl:List (Str×Xc)}{A:MU}{outer:List Env}{s:s9}{H:Hp}{E:XK}{u1 u2:i0}{v1 v2:V}{gs:List V}{h₁:Heap}{k:Nat}
theorem Be(S:fX xs y1 y2 scope)(hd:A.handled=Y)(e0:gG P w K mg base A outer s H)(C:rV H s.heap cl xs gs)(O:RelV v1 u1)(U:RelV v2 u2)(J:h₁.Ns s.heap.objs.size λx=>([(y1,u1),(y2,u2)]:List (Str×i0)).reverse.lookup x)(G:∀b o,s.heap.get? b=Z o->h₁.get? b=Z o):
 Inv (cxL CX P w K mg base (xs++[y1,y2]) q scope a cd cl A outer s H E) [] ((gs++[v1,v2]).map Z) H {s with heap:=h₁,toks:=s.toks+2}:=by
 have noA:∀b:Xc,b∉(cxL CX P w K mg base (xs++[y1,y2]) q scope a cd cl A outer s H E).ex:=λb z=>absurd (show b∈([]:List Xc)from z) (by simp)
 refine⟨⟨e0.mod,S.kind,rfl,rfl,LW _,C.inj,λy F=>?_,λy c z _=>(by cases z),λ_=>hd,Uc e0.frames,.inr ⟨rfl,rfl⟩,λb z=>absurd z (noA b),e0.bs,e0.bsz,λb _ _=>noA b,λb z=>absurd z (noA b),e0.funs,e0.frf⟩,
  rfl,e0.bare,Un.kept G,⟨_,J,λi y v h1 h2 h3=>?_⟩,λy c h=>?_,e0.hok.fresh (LW _),λy c h=>C.free y c h,λp Fn=>absurd (show p∈([]:List (Xc×Obj))from Fn) (by simp),e0.hok.kept G,?_⟩
 ·have F:scope.names.lookup y=Z .cell∨scope.names.lookup y=Z .free:=F
  rcases F with F|F
  ·exact absurd rfl (S.nc _ (N5 F))
  ·exact C.has y (S.all y F)
 ·rw[LQ,TB]at h2;obtain⟨v',h2,e⟩:=h2
  cases e
  by_cases hi:i<xs.length
  ·have B:xs[i]?=Z y:=by rw[<-LY (l₂:=[y1,y2]) hi];exact h1
   rw[LY (by rw[C.len];exact hi)]at h2
   obtain⟨c,u,e1,⟨o,e2,L⟩,fv⟩:=C.val i y v B h2;exact⟨u,fv,.inr ⟨.inr (S.fr y (Mh B)),c,e1,o,G _ _ e2,L⟩⟩
  ·have B:([y1,y2]:List Str)[i-xs.length]?=Z y:=by rw[<-D2 (l₁:=xs) ∅];exact h1
   rw[D2 (by rw[C.len];lia),C.len]at h2
   generalize i-xs.length=j at B h2
   match j with
   |0=>
    cases B;cases h2
    refine⟨u1,O,.inl ⟨S.l1,?_⟩⟩;simp[Qv,S.ne,beq_eq_false_iff_ne.mpr S.ne]
   |1=>
    cases B;cases h2
    exact⟨u2,U,.inl ⟨S.l2,by simp[Qv]⟩⟩
   |_+2=>simp at B
 ·obtain⟨v,o,e2,L⟩:=C.isC y c h;exact⟨v,o,G _ _ e2,L⟩
 ·show((gs++[v1,v2]).map Z).length=(xs++[y1,y2]).length;simp[C.len]
theorem Bf{params:Qj}{body:Expr}{Q:VK}(B:Room (k+1) A)(e0:gG P w K mg base A outer s H)(F:FnAt H a q params body scope cl)(S:fX xs y1 y2 scope)(C:rV H s.heap cl xs gs)(Fn:∀fd:Oe,fd.params=params->fd.defaults=.none->fd.kwdefaults=.none->Ub fd ⟨[u1,u2],[]⟩=pure [(y1,u1),(y2,u2)])(fv:RelV v1 u1)(r2:RelV v2 u2)(j:∀cd,Room k (A.deeper (envX q scope s.heap.objs.size a cd cl))->∃t,PE (cxL CX P w K mg base (xs++[y1,y2]) q scope a cd cl A outer s H E) body t/\t ((gs++[v1,v2]).map Z) H Q):
 Pb (model P w) A (.call (.ref a) ⟨[u1,u2],[]⟩) (CR CX outer P w H s Q E) s:=by
 obtain⟨pm,c',ctv,oc,vs',t',ea,ec,hd,ht⟩:=F;have G:=(e0.hok a _ ea).1;have L:=(e0.hok c' _ ec).1;have lim:s.heap.NoLimit:=e0.mod.nolimit.keeps λb o e=>(e0.bs b o e).1;refine PySem.W.kla_callFunE B.depth G rfl S.co S.gen rfl ⟨c',oc,vs',t',rfl,L,hd,ht⟩ ?_;rw[Fn _ rfl rfl rfl];refine z4 (wpAny_newFunctionEnv S.nc (λy U=>?_) (λh₁ O z=>⟨lim.fresh _ z,?_⟩) S.kind)
 ·simp only[LI,MM,or_false]at U
  rcases U with rfl|rfl
  ·exact S.l1
  ·exact S.l2
 show Pb _ _ (.expr body (envX q scope s.heap.objs.size a (.ref c') cl)) _ _;have hk:∀b o,s.heap.get? b=Z o->h₁.get? b=Z o:=λb o e=>z.extBut b o (Mt (LD e)) (q7 _ e);obtain⟨t,hp,hq⟩:=j (.ref c') (B.deeper _);have I:=Be (CX:=CX) (E:=E) (q:=q) (a:=a) (cd:=.ref c') S B.hd e0 C fv r2 O hk;refine PySem.W.kla_codeExpr (Nv (hp [] _ _ H _ I hq) (λv s' hs=>?_) λe s' hs=>hs);obtain⟨v,H',J,rv,q⟩:=hs;exact⟨v,H',J.os,J.bare,J.base,J.hok,rv,q⟩
end
structure ik(P:Ml)(w:MQ)(K:Frag)(mg:Str->Option i0)(base:Heap)(k:Nat)(fs:List Xc)(a:Xc)(sp:Sp)(H:Hp)(h:Heap):Prop where
 fn:∃o fd,H a=Z (fzO a o)/\o.data=.func fd
 run:∀(A:MU) (outer:List Env) (s1:s9) (H1:Hp) (u1 u2:i0) (v1 v2:V) (Q:VK),Un fs [] H H1 h s1.heap->Room k A->gG P w K mg base A outer s1 H1->RelV v1 u1->RelV v2 u2->sp [v1,v2] H1 Q E0->
  Pb (model P w) A (.call (.ref a) ⟨[u1,u2],[]⟩) (CR CX0 outer P w H1 s1 Q E0) s1
structure nW(P:Ml)(w:MQ)(K:Frag)(mg:Str->Option i0)(base:Heap)(k:Nat)(f:Xc)(fd:Oe)(ps:List Str)(sp:List Env->s9->Sp):Prop where
 len:∀o s vs H Q E,sp o s vs H Q E->vs.length=ps.length
 run:∀(A:MU) (outer:List Env) (s:s9) (H:Hp) (args:Args) (us:List i0) (vs:List V) (Q:VK) (E:XK),Room k A->gG P w K mg base A outer s H->Uw s fd args (ps.zip us)->Vals vs us->sp outer s vs H Q E->
  Pb (model P w) A (.call (.ref f) args) (CR CX0 outer P w H s Q E) s
end
variable{K:Frag}{f:Xc}{qual:Str}{N ps:List Str}
section
theorem DJ {mg:Str->Option i0}{base:Heap}{k:Nat}{name:Str}{params:Qj}{body:List Stmt}{dV kV doc pm cdv ct oc:i0}{an od:Option Xc}{osl:Array (Option i0)}{sp:List Env->s9->Sp}(lk:K.lookup f=Z ⟨oc,od,.func (OF name qual params body scope dV kV doc pm an cdv ct),osl⟩)(F:Qu K cdv qual=F2)(S:cL N ps scope)(len:∀o s vs H Q E,sp o s vs H Q E->vs.length=ps.length)(j:∀(A:MU) (outer:List Env) (s:s9) (H:Hp) (vs:List V) (Q:VK) (E:XK),Room k (A.deeper (Rm qual scope s.heap.objs.size f cdv))->sp outer s vs H Q E->
   ∃t,PSs (cG CX0 P w K mg base N qual scope f cdv A outer s H E) body t/\t {nx:=λ_ H'=>Q .non H',rt:=Q} (bH N vs) H):
 nW P w K mg base (k+1) f (OF name qual params body scope dV kV doc pm an cdv ct) ps sp:=by
 refine⟨len,λA outer s H args us vs Q E G e0 L r B=>?_⟩;have O:=len _ _ _ _ _ _ B;have KX:K.In s.heap:=e0.mod.kin.keeps λb o e=>(e0.bs b o e).1;have lim:s.heap.NoLimit:=e0.mod.nolimit.keeps λb o e=>(e0.bs b o e).1;have z:∀y∈ps.zip us,scope.names.lookup y.1=Z .local∨(scope.names.lookup y.1=Z .cell/\((OC (s.heap.objs.size+1) scope.names []).lookup y.1).isSome=F2):=λ⟨n,v⟩ hy=>by
  rcases S.par n (Q8 hy).1 with q|q
  ·exact .inl q
  ·exact .inr ⟨q,PX _ _ _ (.inl q)⟩
 refine U3 G.depth (KX _ _ lk) rfl S.co S.gen rfl (UX KX F) (L _ _ _ _ ?_);refine Sj S.kind z λenv he s1 x=>?_;subst he;refine⟨lim.keeps x.toInCall.keep,codeAny_func ?_⟩;obtain⟨t,U,Fn⟩:=j A outer s H vs Q E (G.deeper _) B;have I:Inv (cG CX0 P w K mg base N qual scope f cdv A outer s H E) [] (bH N vs) H s1:=mj S G.hd e0 O r x;refine Nv (U [] s1 (bH N vs) H _ I Fn) (λfl s' hs=>?_) λe s' hs=>hs;have fin:∀{σ':St} {H':Hp} {v:V} {u:i0},Inv (cG CX0 P w K mg base N qual scope f cdv A outer s H E) [] σ' H' s'->RelV v u->Q v H'->CE outer P w H s Q u s':=λ{σ' H' v u} J rv q=>⟨v,H',J.os,J.bare,J.base,J.hok,rv,q⟩
 cases fl with
 |ret u=>obtain⟨v,σ',H',J,rv,q⟩:=hs;exact fin J rv q
 |next=>obtain⟨σ',H',J,q⟩:=hs;exact fin (v:=V.non) (u:=NZ) J rfl q
 |brk=>obtain⟨_,_,_,q⟩:=hs;exact False.elim q
 |cont=>obtain⟨_,_,_,q⟩:=hs;exact False.elim q
end
variable{fd:Oe}
section
open PySem.W (envX)
structure FunP(K:Frag)(x qual:Str)(st:Stmt)(f:Xc)(fd:Oe)(P:Xc):Prop where
 ex:∃(oc:i0) (od:Option Xc) (kV doc pm:i0) (an:Option Xc) (c:Xc) (ct:i0) (osl:Array (Option i0)),
  fd=OF x qual (da st) (bv st) (aq st) .none kV doc pm an (.ref c) ct/\K.lookup f=Z ⟨oc,od,.func fd,osl⟩/\Qu K (.ref c) qual=F2/\NX K c P=F2
section
variable{P:Ml}{w:MQ}{K:Frag}{mg:Str->Option i0}{base:Heap}{k:Nat}
theorem Fun.okS {st:Stmt}{sp:List Env->s9->Sp}(F:Fun K x qual st f fd)(S:cL N ps (aq st))(len:∀o s vs H Q E,sp o s vs H Q E->vs.length=ps.length)(j:∀(cdv:i0) (A:MU) (outer:List Env) (s:s9) (H:Hp) (vs:List V) (Q:VK) (E:XK),Room k (A.deeper (Rm qual (aq st) s.heap.objs.size f cdv))->sp outer s vs H Q E->
   ∃t,PSs (cG CX0 P w K mg base N qual (aq st) f cdv A outer s H E).nox (bv st) t/\t {nx:=λ_ H'=>Q .non H',rt:=Q} (bH N vs) H):nW P w K mg base (k+1) f fd ps sp:=by
 obtain⟨oc,od,kV,doc,pm,an,cdv,ct,osl,rfl,lk,z⟩:=F.ex;refine DJ lk z S len λA outer s H vs Q E G B=>?_;obtain⟨t,h,q⟩:=j cdv A outer s H vs Q E G B;exact⟨t,h.nox,q⟩
theorem FunP.ok {st:Stmt}{sp:Sp}{T:Xc}(F:FunP K x qual st f fd T)(S:cL N ps (aq st))(len:∀vs H Q E,sp vs H Q E->vs.length=ps.length)(j:∀(c:Xc) (A:MU) (outer:List Env) (s:s9) (H:Hp) (vs:List V) (Q:VK) (E:XK),NX K c T=F2->Room k (A.deeper (Rm qual (aq st) s.heap.objs.size f (.ref c)))->sp vs H Q E->
   ∃t,PSs (cG CX0 P w K mg base N qual (aq st) f (.ref c) A outer s H E).nox (bv st) t/\t {nx:=λ_ H'=>Q .non H',rt:=Q} (bH N vs) H):FnOk P w K mg base CX0 (k+1) f fd ps sp:=by
 obtain⟨oc,od,kV,doc,pm,an,c,ct,osl,rfl,lk,z,hd⟩:=F.ex;refine As lk z S len λA outer s H vs Q E G B=>?_;obtain⟨t,h,q⟩:=j c A outer s H vs Q E hd G B;exact⟨t,h.nox,q⟩
end
section
variable{X:Cx}{pins:List (Xc×Obj)}{σ:St}{H:Hp}{s:s9}{a:Xc}{q:Str}{params:Qj}{body:Expr}{scope:Scope}{xs:List Str}{y1 y2:Str}{js:List Nat}{gs:List V}{sp:Sp}{k:Nat}
theorem bR{cells:List (Str×Xc)}{names:List (Str×P6)}{c:Xc}(h:(aA cells names []).lookup x=Z c):cells.lookup x=Z c:=by
 rcases cP (N5 h)with z|z
 ·simp at z
 ·exact z.1
theorem mD{cells:List (Str×Xc)}{names:List (Str×P6)}{c:Xc}(j:cells.lookup x=Z c)(hx:(x,MW)∈names):(aA cells names []).lookup x=Z c:=by
 have hm:=cQ (acc:=[]) j (.inr hx)
 cases e:(aA cells names []).lookup x with
 |some c'=>have:=bR e;rw[j]at this;cases this;rfl
 |none=>rw[List.lookup_eq_none_iff]at e;have:=e _ hm;simp at this
theorem Fy{a1 a2:Arg}{u1 u2:i0}(j:a1.arg≠a2.arg)(z:fd.params=⟨[],[a1,a2],Y,[],[],Y,[]⟩)(hd:fd.defaults=.none)(B:fd.kwdefaults=.none):Ub fd ⟨[u1,u2],[]⟩=pure [(a1.arg,u1),(a2.arg,u2)]:=by
 unfold Ub;have e1:∀(x y:Str) (u v:i0),(([(x,u),(y,v)]:List (Str×i0)).lookup x).isNone=N2:=λx y u v=>by simp[Qv]
 have e2:∀(x y:Str) (u v:i0),(([(x,u),(y,v)]:List (Str×i0)).lookup y).isNone=N2:=λx y u v=>by
  simp only[Qv]
  split<;>simp
 have F:VL NZ=pure Y:=rfl;simp only[Sn,z,hd,B,Pp,LX,QO,QU,List.zip_nil_right,VI,F,T8,MP,O9,List.drop_nil,List.filter_cons,List.filter_nil,List.take,e1,e2];have G:(a2.arg==a1.arg)=N2:=beq_eq_false_iff_ne.mpr (Ne.symm j);simp[Qv,G]
theorem yz (I:Inv X pins σ H s)(F:FnAt H a q params body scope (aA X.env.cells scope.names []))(S:fX xs y1 y2 scope)(z:∀x∈xs,X.env.scope.names.lookup x=Z .cell)(G:∀(i:Nat) (x:Str),xs[i]?=Z x->∃j:Nat,X.N[j]?=Z x/\∀v:V,gs[i]?=Z v->σ[j]?=Z (Z v))(hlen:gs.length=xs.length)(Fn:∀(fd:Oe) (u1 u2:i0),fd.params=params->fd.defaults=.none->fd.kwdefaults=.none->Ub fd ⟨[u1,u2],[]⟩=pure [(y1,u1),(y2,u2)])(B:∀(A:MU) (outer:List Env) (s1:s9) (H1:Hp) (v1 v2:V) (Q:VK) (cd:i0),Un (frs X.stack) [] H H1 s.heap s1.heap->sp [v1,v2] H1 Q E0->Room k (A.deeper (envX q scope s1.heap.objs.size a cd (aA X.env.cells scope.names [])))->
   ∃t,PE (cxL CX0 X.prog X.w X.K X.mg X.base (xs++[y1,y2]) q scope a cd (aA X.env.cells scope.names []) A outer s1 H1 E0) body t/\t ((gs++[v1,v2]).map Z) H1 Q):
 ik X.prog X.w X.K X.mg X.base (k+1) (frs X.stack) a sp H s.heap:=by
 refine⟨(by obtain⟨pm,c',ctv,oc,vs,t,e1,_⟩:=F;exact⟨_,_,e1,rfl⟩),?_⟩
 intro A outer s1 H1 u1 u2 v1 v2 Q un fv e0 r1 r2 J;have nf:∀{c:Xc} {v:Option i0},s.heap.IsCell c v->H c=Y->s1.heap.IsCell c v/\H1 c=Y:=λ{c v} g9 n=>by
  obtain⟨o,ho,hd⟩:=g9;obtain⟨sl,e⟩:=un.any ho n (by simp)
  exact⟨⟨_,e,hd⟩,un.free c o ho n (by simp)⟩
 have F1:FnAt H1 a q params body scope (aA X.env.cells scope.names []):=by obtain⟨pm,c',ctv,oc,vs,t,e1,e2,r⟩:=F;exact⟨pm,c',ctv,oc,vs,t,un.frzs _ _ _ e1,un.frzs _ _ _ e2,r⟩
 refine Bf fv e0 F1 S ⟨λx y c h1 h2=>I.ok.inj x y c (bR h1) (bR h2),λx c h=>?_,λx c h=>?_,λi x v h1 h2=>?_,λx hx=>?_,hlen⟩ (λfd h=>Fn fd u1 u2 h) r1 r2 λcd L=>B A outer s1 H1 v1 v2 Q cd un J L
 ·obtain⟨v,O⟩:=I.cell x c (bR h);exact(nf O (I.freeC x c (bR h))).2
 ·obtain⟨v,O⟩:=I.cell x c (bR h);exact⟨v,(nf O (I.freeC x c (bR h))).1⟩
 ·obtain⟨j,n1,n2⟩:=G i x h1;obtain⟨m,_,hl⟩:=I.loc;have U:=z x (Mh h1);obtain⟨u,rv,l⟩:=hl j x v n1 (n2 v h2) (.inr (.inl U))
  rcases l with⟨l,_⟩|⟨_,c,e1,e2⟩
  ·have l:X.env.scope.names.lookup x=Z .local:=l;rw[U]at l;cases l
  ·exact⟨c,u,mD e1 (N5 (S.fr x (Mh h1))),(nf e2 (I.freeC x c e1)).1,rv⟩
 ·obtain⟨c,e1⟩:=I.ok.has x (.inl (z x hx));exact⟨c,mD e1 (N5 (S.fr x hx))⟩
theorem yA(hex:X.ex=[])(B:Room k X.A)(C:ik X.prog X.w X.K X.mg X.base k X.fs a sp X.H₀ X.s₀.heap):∀(pins:List (Xc×Obj)) (s:s9) (σ:St) (H:Hp) (v1 v2:V) (us:List i0) (Q:VK),Inv X pins σ H s->Vals [v1,v2] us->sp [v1,v2] H Q E0->Vm a s.heap/\LR (model X.prog X.w) X.A (call (.ref a) us) (EP X pins σ Q) X.xe s:=by
 intro pins s σ H v1 v2 us Q I r hsp;obtain⟨u1,j,rfl,F,r'⟩:∃u1 j,us=u1::j/\RelV v1 u1/\Vals [v2] j:=by cases r with|cons h t=>exact⟨_,_,rfl,h,t⟩
 obtain⟨u2,rfl,G⟩:∃u2,j=[u2]/\RelV v2 u2:=by cases r' with|cons h t=>cases t;exact⟨_,rfl,h⟩
 have un:Un X.fs [] X.H₀ H X.s₀.heap s.heap:=by have:=I.base;rw[hex]at this;exact this
 obtain⟨⟨o,fd,ea,hd⟩,C⟩:=C;have ea:=(I.hok a _ (un.frzs _ _ _ ea)).1;refine⟨by obtain⟨oc,od,dt,sl⟩:=o;cases hd;exact⟨oc,od,fd,sl,ea⟩,?_⟩
 refine Ts (OE (C X.A X.stack s H u1 u2 v1 v2 Q un B I.env0 F G hsp) λr s' z=>?_)
 cases r with
 |error e=>exact z.elim
 |ok fl=>
  cases fl with
  |ret u=>exact I.after z
  |next=>exact False.elim z
  |brk=>exact False.elim z
  |cont=>exact False.elim z
end
end
section
open PySem.W (CodeHd tabObj)
structure nX(ts:List (Xc×Xc))(H:Hp):Prop where
 tab:∀q∈ts,H q.2=Z (.tbl #[])
 oth:∀b,H b=Y∨(∃o xs,H b=Z (.frz o (.lst xs)))∨∃q∈ts,b=q.2
def Scr(K:Frag)(H:Hp)(a:Xc)(xs:List V):Prop:=(∃o,H a=Z (.frz o (.lst xs)))∨∃(o:Obj) (its:Array i0) (n:Nat),K.lookup a=Z o/\o.cls=.type "list"/\o.dict=Y/\o.data=.seq its n/\its.size<=LK/\Vals xs its.toList
theorem vM{mg mb:Str->Option i0}{k:Nat}{fa:Xc}{sp:Sp}{vs:List i0}{ns:List Int}{ts:List (Xc×Xc)}(KX:K.In s.heap)(Fn:s.heap.Ns Nw mg)(B:s.heap.Ns To mb)(Jo:∀x:Str,x≠"__name__"->mb x=PR x)(fv:s.heap.NoLimit)(hg:s.gens=#[])(hB:fj mg s.heap)(U:s.heap.get? a=Z {cls:=.type "list",data:=.seq vs.toArray})(hi:Wm vs ns)(hl:ns.length<=LK)(hr:Room k Ux)(J:∀q∈ts,CodeHd s.heap q.1 q.2/\s.heap.get? q.2=Z (tabObj #[])/\K.lookup q.2=Y)(F:∀base:Heap,K.In base->base.Ns Nw mg->fj mg base->FnOk P w K mg base CX0 k fa fd [x] sp)(O:∀(s:s9) (u:i0),Uw s fd ⟨[u],[]⟩ [(x,u)])(Jp:∀H:Hp,nX ts H->Scr K H a (ns.map V.int)->sp [.ref a] H (λv _=>v=.bl F2) λ_ _ _=>False):
 Pb (model P w) Ux (.call (.ref fa) ⟨[.ref a],[]⟩) (λr s'=>r=.ok (.ret (.bool F2))/\OldK s.heap s'.heap/\s'.os=s.os/\SE s'.gens) s:=by
 have rv:=mn hi;have lenV:=hi.length;have Jm:∀q∈ts,a≠q.2:=λq j z=>by have e:=(J q j).2.1;rw[<-z,U]at e;cases e
 have core:∀H:Hp,nX ts H->Scr K H a (ns.map V.int)->HOk P w H s.heap->(∀b,H b≠Y->(b=a/\K.lookup a=Y)∨∃q∈ts,b=q.2)->
  Pb (model P w) Ux (.call (.ref fa) ⟨[.ref a],[]⟩) (λr s'=>r=.ok (.ret (.bool F2))/\OldK s.heap s'.heap/\s'.os=s.os/\SE s'.gens) s:=by
  intro H hO hS hok hA;have free:∀{b:Xc} {o:Obj},s.heap.get? b=Z o->(o.cls≠.none)->(b≠a∨K.lookup a≠Y)->H b=Y:=λ{b o} e hc hn=>by
   cases q:H b with
   |none=>rfl
   |some u=>
    rcases hA b (by rw[q];simp)with⟨z,z2⟩|⟨p,G,z⟩
    ·rcases hn with n|n
     ·exact absurd z n
     ·exact absurd z2 n
    ·rw[z,(J p G).2.1]at e;cases e;exact absurd rfl hc
  have dfree:∀{b:Xc} {o:Obj} {es:Array Nq} {ep:Nat},s.heap.get? b=Z o->o.data=.dict es ep->H b=Y:=λ{b o es ep} e d=>by
   cases q:H b with
   |none=>rfl
   |some u=>
    rcases hA b (by rw[q];simp)with⟨z,_⟩|⟨p,G,z⟩
    ·rw[z,U]at e;cases e;cases d
    ·rw[z,(J p G).2.1]at e;cases e;cases d
  have nsK:∀{b:Xc} {m:Str->Option i0},s.heap.Ns b m->(fS s.heap H).Ns b m:=λ{b m} g9=>(by obtain⟨o,es,ep,e,d,r⟩:=g9;exact⟨o,es,ep,j3 e (dfree e d),d,r⟩)
  have Jn:K.In (fS s.heap H):=λb o e=>j3 (KX b o e) (by
   cases q:H b with
   |none=>rfl
   |some u=>
    rcases hA b (by rw[q];simp)with⟨z,z2⟩|⟨p,G,z⟩
    ·rw[z,z2]at e;cases e
    ·rw[z,(J p G).2.2]at e;cases e)
  have Jq:fj mg (fS s.heap H):=by
   obtain⟨bm,ob,b1,b2,b3,b4,b5,b6⟩:=hB;refine⟨bm,ob,b1,b2,j3 b3 (free b3 (by rw[b4];intro z;cases z) (.inl λz=>?_)),b4,b5,b6⟩
   rw[z,U]at b3;cases b3;cases b6
  have hM:Mod K mg (fS s.heap H):=⟨Jn,nsK Fn,⟨mb,nsK B,Jo⟩,let⟨mc,h1,h2⟩:=fv; ⟨mc,nsK h1,h2⟩⟩;have e0:gG P w K mg (fS s.heap H) Ux [] s H:=⟨rfl,hM,λb o e=>AW e,Nat.le_of_eq (vh _ _),trivial,λb B=>absurd (show b∈([]:List Xc)from B) (by simp),hok,.of_eq hg⟩
  refine OE ((F _ Jn (nsK Fn) Jq).run Ux [] s H ⟨[.ref a],[]⟩ [.ref a] [.ref a] _ _ hr e0 (O s (.ref a)) (.cons rfl .nil) (Jp H hO hS)) λr s' h=>?_
  cases r with
  |error e=>exact h.elim
  |ok fl=>
   cases fl with
   |next=>exact False.elim h
   |brk=>exact False.elim h
   |cont=>exact False.elim h
   |ret u=>
    obtain⟨v,H',os,bare,un,L,r',q⟩:=h;have q':v=.bl F2:=q;subst q';obtain rfl:u=UT F2:=r';refine⟨rfl,⟨λb o e=>?_,λb o e=>un.there b o e (by simp)⟩,os,bare⟩
    cases q:H b with
    |none=>exact .inl (un.keep b o e q (by intro z;exact absurd (show b∈([]:List Xc)from z) (by simp)) (by simp))
    |some u=>
     rcases hO.oth b with z|⟨ob,xs,z⟩|⟨p,G,rfl⟩
     ·rw[q]at z;cases z
     ·have z2:=un.frzs b ob _ z;obtain⟨e1,_⟩:=hok b _ z;obtain⟨e2,_⟩:=L b _ z2;rw[e]at e1;cases e1;exact .inl e2
     ·obtain⟨more,e2⟩:=un.tbls _ _ (hO.tab p G);have e3:s'.heap.get? p.2=Z (tabObj (#[]++more)):=L _ _ e2;have e4:=(J p G).2.1;rw[e]at e4;cases e4;exact .inr (.inl ⟨((J p G).1.tab (J p G).2.1).isCodeTable,rfl,#[],more,rfl,e3⟩)
 let T0:Hp:=λb=>if ts.any (λq=>decide (q.2=b))=F2 then Z (.tbl #[])else Y
 have t1:∀b,(∃q∈ts,b=q.2)->T0 b=Z (.tbl #[]):=λb ⟨q,j,z⟩=>if_pos (ND.mpr ⟨q,j,decide_eq_true z.symm⟩);have t2:∀b,(¬∃q∈ts,b=q.2)->T0 b=Y:=λb hn=>if_neg λz=>by obtain⟨q,j,e⟩:=ND.mp z;exact hn ⟨q,j,(of_decide_eq_true e).symm⟩
 have tok:∀{H:Hp} {b:Xc} {o:HO},T0 b=Z o->ObjOk P w H s.heap b o:=λ{H b o} e=>by
  by_cases z:∃q∈ts,b=q.2
  ·rw[t1 b z]at e;cases e;obtain⟨q,j,rfl⟩:=z;exact(J q j).2.1
  ·rw[t2 b z]at e;cases e
 have aT:¬∃q∈ts,a=q.2:=λ⟨q,j,z⟩=>Jm q j z
 cases hk:K.lookup a with
 |some o=>
  have e:=KX a o hk;rw[U]at e
  cases e
  refine core T0 ⟨λq j=>t1 _ ⟨q,j,rfl⟩,λb=>?_⟩ (.inr ⟨_,vs.toArray,_,hk,rfl,rfl,rfl,by rw[LN,lenV];exact hl,by simpa using rv⟩) (λb u z=>tok z) λb z=>?_
  ·by_cases z:∃q∈ts,b=q.2
   ·exact .inr (.inr z)
   ·exact .inl (t2 b z)
  ·by_cases y:∃q∈ts,b=q.2
   ·exact .inr y
   ·exact absurd (t2 b y) z
 |none=>
  refine core (upd T0 a (.frz {cls:=.type "list",data:=.seq vs.toArray} (.lst (ns.map V.int)))) ⟨λq j=>by rw[ao (Ne.symm (Jm q j))];exact t1 _ ⟨q,j,rfl⟩,λb=>?_⟩ (.inl ⟨_,aB⟩) (λb u z=>?_) λb z=>?_
  ·by_cases B:b=a
   ·subst B;exact .inr (.inl ⟨_,_,aB⟩)
   ·rw[ao B]
    by_cases z:∃q∈ts,b=q.2
    ·exact .inr (.inr z)
    ·exact .inl (t2 b z)
  ·by_cases B:b=a
   ·subst B;rw[aB]at z;cases z;exact⟨U,by rw[tv];exact hl,vs,_,rv,U⟩
   ·rw[ao B]at z;exact tok z
  ·by_cases B:b=a
   ·exact .inl ⟨B,hk⟩
   ·rw[ao B]at z
    by_cases y:∃q∈ts,b=q.2
    ·exact .inr y
    ·exact absurd (t2 b y) z
theorem walk_ofT {l:TY}{n k:Nat}{q:Ml}{loose:List Str}{XP:(Str->Option i0)->Heap->Prop}{YP:MQ->Heap->Prop}{d:DefRec}{K:Params->Frag}{sp:MQ->Sp}{ts:List (Xc×Xc)}(fv:l.most=Z n)(B:n<=LK)(J:d.params.defaults=[])(hr:Room k Ux)(hY:∀(w:MQ) (h:Heap),YP w h->(K w.params).In h/\∀p∈ts.map (·.2),h.get? p=Z (tabObj #[]))(j:∀(w:MQ),∀q∈ts,NX (K w.params) q.1 q.2=F2/\(K w.params).lookup q.2=Y)(F:∀(w:MQ) (mg:Str->Option i0) (fa:Xc) (h:Heap),(K w.params).In h->h.Ns Nw mg->mg d.name=Z (.ref fa)->
   ∃fd:Oe,(∀(s:s9) (u:i0),Uw s fd ⟨[u],[]⟩ [(x,u)]) /\
    ∀base:Heap,(K w.params).In base->base.Ns Nw mg->fj mg base->FnOk l.prog w (K w.params) mg base CX0 k fa fd [x] (sp w))(L:∀(w:MQ) (H:Hp) (a:Xc) (ns:List Int),ns.length<=n->nX ts H->Scr (K w.params) H a (ns.map V.int)->sp w [.ref a] H (λv _=>v=.bl F2) λ_ _ _=>False):
 PySem.W.WalkO q loose XP YP l.row.toRowW d [] (λf vs=>Wv f vs):=by
 refine Att.attach_call fv J λw s₀ s₁ mg mb fa o pm cd doc a vs ns G Fn ho hd Jm O z hints hlen hg=>?_;obtain⟨KX,hT⟩:=hY w _ Fn;obtain⟨fd,hb,hF⟩:=F w mg fa _ KX G.T.g O;exact vM KX G.T.g G.T.b G.T.builtins G.T.nolimit hg G.T.bmain z hints (NG hlen B) hr (λq U=>⟨UB KX (j w q U).1,hT q.2 (Mn U),(j w q U).2⟩) hF hb λH hO hS=>L w H a ns hlen hO hS
end
namespace Zp
def At(t:Bool)(h:Heap)(i l:Xc)(k:Nat):Prop:=match t with|true=>h.IsTupleIter i l k|false=>h.IsListIter i l k
def Sq(t:Bool)(h:Heap)(l:Xc)(xs:Array i0):Prop:=match t with|true=>h.IsTuple l xs|false=>h.IsList l xs
variable{h:Heap}{i l:Xc}
theorem At.up{t:Bool}{h':Heap}{k:Nat}(x:At t h i l k)(e:∀o,h.get? i=Z o->h'.get? i=Z o):At t h' i l k:=by cases t<;>(obtain⟨o,ho,r⟩:=x;exact⟨o,e o ho,r⟩)
variable{xs:Array i0}
theorem Sq.up{t:Bool}{h':Heap}(x:Sq t h l xs)(e:∀o,h.get? l=Z o->h'.get? l=Z o):Sq t h' l xs:=by cases t<;>(obtain⟨o,ho,r⟩:=x;exact⟨o,e o ho,r⟩)
theorem At.lt{t:Bool}{k:Nat}(x:At t h i l k):∃o,h.get? i=Z o/\∀v,o.data≠.cell v:=by cases t<;>(obtain⟨o,ho,j,hd⟩:=x;exact⟨o,ho,λv z=>by rw[hd]at z;cases z⟩)
variable{x p r:i0}{z T j a b:Xc}{u:Bool}{ys:Array i0}
section
variable{prog:Ml}{w:MQ}{A:MU}{E:i0->s9->Prop}{s:s9}
open Builtin.SmallTypes in
theorem yB{k:Nat}{Q:i0->s9->Prop}(hi:s.heap.IsTupleIter i l k)(L:s.heap.IsTuple l xs)(hx:xs[k]?=Z x)(q:∀h',h'.IsTupleIter i l (k+1)->NH i s.heap h'->Q x {s with heap:=h'}):LR (model prog w) A (nextOf (.ref i)) Q E s:=by
 obtain⟨ob,z,B,j⟩:=id hi;obtain⟨oq,G,_,nq,J⟩:=L;unfold nextOf;refine gV (Mw (name:=Mu "__next__") hi.typeIs P7 (MB P7 hi.typeIs S4 ?_ (RQ _)));refine gV (m:=field (.ref i) 0) (MR z j (x:=.ref l) rfl ?_);refine(if_neg (c:=(MA l==NZ)=F2) LJ)▸?_;refine gV (m:=field (.ref i) 1) (MR z j (x:=.int k 0) rfl ?_);refine gV (m:=VL (.ref l)) (OJ G J ?_);simp only[LO,hx];refine gV (wpAny_setField z j (by simp) (z4 ⟨x,rfl,z4 (q _ ⟨_,U4 _ z (Obj.isFreed_of_fields (V2 j _)),(Obj.cls_mapFields ..).trans B,?_⟩ (UC ..))⟩))
 rw[V2 j];simp[Oz]
open Builtin.SmallTypes in
theorem Bg{k:Nat}{Q:i0->s9->Prop}(J:A.handled=Y)(hi:s.heap.IsTupleIter i l k)(L:s.heap.IsTuple l xs)(hx:xs[k]?=Y)(q:∀h' e,W8 i s.heap h'->(∃o,h'.get? e=Z o/\o.cls=.type "StopIteration")->E (.ref e) {s with heap:=h'}):LR (model prog w) A (nextOf (.ref i)) Q E s:=by
 obtain⟨ob,j,O,z⟩:=id hi;obtain⟨oq,B,_,nq,G⟩:=L;unfold nextOf;refine gV (Mw (name:=Mu "__next__") hi.typeIs P7 (MB P7 hi.typeIs S4 ?_ (RQ _)));refine gV (m:=field (.ref i) 0) (MR j z (x:=.ref l) rfl ?_);refine(if_neg (c:=(MA l==NZ)=F2) LJ)▸?_;refine gV (m:=field (.ref i) 1) (MR j z (x:=.int k 0) rfl ?_);refine gV (m:=VL (.ref l)) (OJ B G ?_);simp only[LO,hx];refine gV (Oc (gV (wpAny_setField j z (by simp) ?_)))
 refine gV (m:=V3 (.type "StopIteration") []) ?_;simp only[V3,Vn];refine gV (Nf ?_ (by size_fits))
 refine gV (m:=P9 _ _) (OI (a:=NZ) (by first|rfl|(simp only[P9];rfl)) (Nf ?_ (by size_fits)))
 simp only[Wx];refine gV (SU ?_)
 first|rw[show A.in1.handled=Y from J]|rw[J]
 exact gV (z4 (Uh (q _ _ (((UC ..).extBut.push _).push _) ⟨_,LF _ rfl,rfl⟩)))
open Builtin.SmallTypes in
theorem nx_item{t:Bool}{k:Nat}{Q:i0->s9->Prop}(hi:At t s.heap i l k)(j:Sq t s.heap l xs)(hx:xs[k]?=Z x)(q:∀h',At t h' i l (k+1)->NH i s.heap h'->Q x {s with heap:=h'}):LR (model prog w) A (nextOf (.ref i)) Q E s:=by
 cases t with
 |true=>exact yB hi j hx q
 |false=>exact wpAny_nextOf_list_item hi j hx q
open Builtin.SmallTypes in
theorem nx_end{t:Bool}{k:Nat}{Q:i0->s9->Prop}(j:A.handled=Y)(hi:At t s.heap i l k)(z:Sq t s.heap l xs)(hx:xs[k]?=Y)(q:∀h' e,W8 i s.heap h'->(∃o,h'.get? e=Z o/\o.cls=.type "StopIteration")->E (.ref e) {s with heap:=h'}):LR (model prog w) A (nextOf (.ref i)) Q E s:=by
 cases t with
 |true=>exact Bg j hi z hx q
 |false=>exact wpAny_nextOf_list_end j hi z hx q
open Builtin.SmallTypes in
theorem DK {O:Xc}{t:Bool}{k:Nat}{y:i0}{Q:i0->s9->Prop}(D:Ui z T O i j a b)(G:SI s.heap z T O .none)(hT:Pz s.heap T (.ref i) (.ref j))(hO:Pz s.heap O p r)(hi:At t s.heap i a k)(hj:At u s.heap j b k)(ha:Sq t s.heap a xs)(hb:Sq u s.heap b ys)(hx:xs[k]?=Z x)(hy:ys[k]?=Z y)(q:∀h',SI h' z T O (Oz s.heap.objs.size)->Pz h' O x y->At t h' i a (k+1)->At u h' j b (k+1)->Pz h' s.heap.objs.size x y->
   (∀c o,c≠z->c≠O->c≠i->c≠j->s.heap.get? c=Z o->h'.get? c=Z o)->Q (.ref s.heap.objs.size) {s with heap:=h'}):
 LR (model prog w) A (NN.«zip.__next__» ⟨[.ref z],[]⟩) (λfin s'=>∃v,fin=.done (.ret v)/\Q v s') E s:=by
 refine gV (m:=field (.ref z) 2) (MR G rfl (x:=.bool N2) rfl ?_);refine gV (m:=field (.ref z) 3) (MR G rfl (x:=.ref T) rfl ?_);refine gV (OJ hT rfl ?_);refine gV (m:=ownedTupleIsFree (.ref z)) ?_;unfold ownedTupleIsFree;refine gV (MR G rfl (x:=.none) rfl (z4 ?_));simp only[if_true];refine gV (Oc (gV (MR G rfl (x:=.ref O) rfl (gV (Ms G (by simp) λg1 z1 s1=>?_)))))
 have Z1:SI g1 z T O .ellipsis:=z1;clear z1;refine gV ?_;simp only[Ta,Wg,Qb,Sn];refine gV (gV (SV (gV (m:=nextOf (.ref i)) ?_)));refine nx_item (hi.up λo e=>s1.extBut _ o D.i1z e) (ha.up λo e=>s1.extBut _ o D.l1z e) hx λg2 U s2=>z4 ?_;have O2:Pz g2 O p r:=s2.extBut _ _ D.TOi1 (s1.extBut _ _ D.TOz hO);refine gV (OJ O2 rfl (gV (RE O2 λg3 o3 s3=>?_)));have O3:Pz g3 O x r:=o3;clear o3;refine gV (SJ (z4 (gV (gV (SV (gV (m:=nextOf (.ref j)) ?_))))));refine nx_item (hj.up λo e=>s3.extBut _ o D.TOi2.symm (s2.extBut _ o D.i12.symm (s1.extBut _ o D.i2z e))) (hb.up λo e=>s3.extBut _ o D.l2TO (s2.extBut _ o D.l2i1 (s1.extBut _ o D.l2z e))) hy λg4 Fn s4=>z4 ?_;have O4:Pz g4 O x r:=s4.extBut _ _ D.TOi2 O3;refine gV (OJ O4 rfl (gV (RE O4 λB o5 s5=>?_)));have O5:Pz B O x y:=o5;clear o5;refine gV (SJ (z4 (z4 (gV (OJ O5 rfl (gV (R8 ?_)))))));have sz:B.objs.size=s.heap.objs.size:=by rw[s5.1,s4.1,s3.1,s2.1,s1.1]
 have k5:∀c o,c≠z->c≠O->c≠i->c≠j->s.heap.get? c=Z o->B.get? c=Z o:=λc o F J fv c4 e=>s5.extBut _ _ J (s4.extBut _ _ c4 (s3.extBut _ _ J (s2.extBut _ _ fv (s1.extBut _ _ F e))))
 have Z5:SI B z T O .ellipsis:=s5.extBut _ _ D.TOz.symm (s4.extBut _ _ D.i2z.symm (s3.extBut _ _ D.TOz.symm (s2.extBut _ _ D.i1z.symm Z1)));have I5:At t B i a (k+1):=U.up λo e=>s5.extBut _ o D.TOi1.symm (s4.extBut _ o D.i12 (s3.extBut _ o D.TOi1.symm e));have J5:At u B j b (k+1):=Fn.up λo e=>s5.extBut _ o D.TOi2.symm e;have zl:z<B.objs.size:=LD Z5;refine gV (m:=ownedTupleHandOut (.ref z) (.ref B.objs.size)) ?_;unfold ownedTupleHandOut;refine gV (Ms (q7 _ Z5) (by simp) λg7 z7 s7=>?_)
 have Z7:SI g7 z T O (Oz B.objs.size):=z7;clear z7;refine Ms Z7 (by simp) λL z8 s8=>?_
 have Z8:SI L z T O (Oz B.objs.size):=z8;clear z8;have up:∀c o,c≠z->B.get? c=Z o->L.get? c=Z o:=λc o F e=>s8.extBut _ _ F (s7.extBut _ _ F (q7 _ e));have P8:Pz L B.objs.size x y:=s8.extBut _ _ (Ny zl) (s7.extBut _ _ (Ny zl) (LF _ rfl));rw[sz]at Z8 P8;refine z4 ⟨_,rfl,?_⟩;show Q (.ref B.objs.size) _;rw[sz];exact q L Z8 (up _ _ D.TOz O5) (I5.up λo e=>up _ o D.i1z e) (J5.up λo e=>up _ o D.i2z e) P8 λc o F J fv c4 e=>up c o F (k5 c o F J fv c4 e)
open Builtin.SmallTypes in
theorem Fz{O:Xc}{t:Bool}{k:Nat}{Q:Fin->s9->Prop}(hn:A.handled=Y)(D:Ui z T O i j a b)(G:SI s.heap z T O .none)(hT:Pz s.heap T (.ref i) (.ref j))(hO:Pz s.heap O p r)(hi:At t s.heap i a k)(hj:At u s.heap j b k)(ha:Sq t s.heap a xs)(hb:Sq u s.heap b ys)(J:xs[k]?=Y∨ys[k]?=Y)(q:∀h' e,(∀c o,c≠z->c≠O->c≠i->c≠j->s.heap.get? c=Z o->h'.get? c=Z o)->(∃o,h'.get? e=Z o/\o.cls=.type "StopIteration")->E (.ref e) {s with heap:=h'}):
 LR (model prog w) A (NN.«zip.__next__» ⟨[.ref z],[]⟩) Q E s:=by
 refine gV (m:=field (.ref z) 2) (MR G rfl (x:=.bool N2) rfl ?_);refine gV (m:=field (.ref z) 3) (MR G rfl (x:=.ref T) rfl ?_);refine gV (OJ hT rfl ?_);refine gV (m:=ownedTupleIsFree (.ref z)) ?_;unfold ownedTupleIsFree;refine gV (MR G rfl (x:=.none) rfl (z4 ?_));simp only[if_true];refine gV (Oc (gV (MR G rfl (x:=.ref O) rfl (gV (Ms G (by simp) λg1 z1 s1=>?_)))))
 have Z1:SI g1 z T O .ellipsis:=z1;clear z1;refine gV ?_;simp only[Ta,Wg,Qb,Sn];refine gV (gV (SV (gV (m:=nextOf (.ref i)) ?_)));have L:At t g1 i a k:=hi.up λo e=>s1.extBut _ o D.i1z e;have U:Sq t g1 a xs:=ha.up λo e=>s1.extBut _ o D.l1z e
 cases hx:xs[k]? with
 |none=>
  refine nx_end hn L U hx λg2 e s2 he=>?_;obtain⟨oe,B,F⟩:=he;have Z2:SI g2 z T O .ellipsis:=s2 _ _ D.i1z.symm Z1;have ez:e≠z:=λx=>by subst x;rw[Z2]at B;cases B;simp at F
  exact Ms Z2 (by simp) λg3 _ s3=>q g3 e (λc o Fn _ fv _ x=>s3.extBut _ _ Fn (s2 _ _ fv (s1.extBut _ _ Fn x))) ⟨oe,s3.extBut _ _ ez B,F⟩
 |some x=>
  have hy:ys[k]?=Y:=J.elim (λz=>by rw[hx]at z;cases z) id
  refine nx_item L U hx λg2 Jm s2=>z4 ?_;have O2:Pz g2 O p r:=s2.extBut _ _ D.TOi1 (s1.extBut _ _ D.TOz hO);refine gV (OJ O2 rfl (gV (RE O2 λg3 o3 s3=>?_)));refine gV (SJ (z4 (gV (gV (SV (gV (m:=nextOf (.ref j)) ?_))))));refine nx_end hn (hj.up λo e=>s3.extBut _ o D.TOi2.symm (s2.extBut _ o D.i12.symm (s1.extBut _ o D.i2z e))) (hb.up λo e=>s3.extBut _ o D.l2TO (s2.extBut _ o D.l2i1 (s1.extBut _ o D.l2z e))) hy λg4 e s4 he=>?_;obtain⟨oe,B,F⟩:=he;have Z4:SI g4 z T O .ellipsis:=s4 _ _ D.i2z.symm (s3.extBut _ _ D.TOz.symm (s2.extBut _ _ D.i1z.symm Z1));have ez:e≠z:=λx=>by subst x;rw[Z4]at B;cases B;simp at F
  exact Ms Z4 (by simp) λg5 _ s5=>q g5 e (λc o Fn c2 fv c4 x=>s5.extBut _ _ Fn (s4 _ _ c4 (s3.extBut _ _ c2 (s2.extBut _ _ fv (s1.extBut _ _ Fn x))))) ⟨oe,s5.extBut _ _ ez B,F⟩
theorem nxt_item {O:Xc}{t:Bool}{k:Nat}{y:i0}{Q:Option i0->s9->Prop}(D:Ui z T O i j a b)(B:SI s.heap z T O .none)(G:Pz s.heap T (.ref i) (.ref j))(J:Pz s.heap O p r)(hi:At t s.heap i a k)(L:At u s.heap j b k)(U:Sq t s.heap a xs)(Fn:Sq u s.heap b ys)(hx:xs[k]?=Z x)(fv:ys[k]?=Z y)(q:∀h',SI h' z T O (Oz s.heap.objs.size)->Pz h' O x y->At t h' i a (k+1)->At u h' j b (k+1)->Pz h' s.heap.objs.size x y->
   (∀c o,c≠z->c≠O->c≠i->c≠j->s.heap.get? c=Z o->h'.get? c=Z o)->Q (Z (.ref s.heap.objs.size)) {s with heap:=h'}):
 LR (model prog w) A (OB (.ref z)) Q E s:=by
 have ty:s.TypeIs (.ref z) "zip":=⟨_,B,rfl⟩;unfold OB;exact gV (Ol (Mw (name:=Mu "__next__") ty RT (MB RT ty VM
  (DK D B G J hi L U Fn hx fv λh' a1 a2 a3 a4 a5 a6=>z4 (q h' a1 a2 a3 a4 a5 a6)) (Vo _))))
theorem nxt_end{O:Xc}{t:Bool}{k:Nat}{Q:Option i0->s9->Prop}(J:A.handled=Y)(D:Ui z T O i j a b)(G:SI s.heap z T O .none)(L:Pz s.heap T (.ref i) (.ref j))(U:Pz s.heap O p r)(hi:At t s.heap i a k)(Fn:At u s.heap j b k)(fv:Sq t s.heap a xs)(hb:Sq u s.heap b ys)(B:xs[k]?=Y∨ys[k]?=Y)(q:∀h',(∀c o,c≠z->c≠O->c≠i->c≠j->s.heap.get? c=Z o->h'.get? c=Z o)->Q Y {s with heap:=h'}):LR (model prog w) A (OB (.ref z)) Q E s:=by
 have ty:s.TypeIs (.ref z) "zip":=⟨_,G,rfl⟩;unfold OB;refine gV (Ol (Mw (name:=Mu "__next__") ty RT (MB RT ty VM
  (Fz J D G L U hi Fn fv hb B λh' e hk he=>?_) (Vo _))))
 obtain⟨o,ho,hc⟩:=he;exact gV (P0 (T:="StopIteration") (b:=F2) ⟨o,ho,hc⟩ R9 (z4 (q _ hk)))
noncomputable def itO(t:Bool)(l:Xc):Obj:=match t with|true=>{cls:=.type "tuple_iterator",data:=.fields #[.ref l,.int 0 0]}|false=>{cls:=.type "list_iterator",data:=.fields #[.ref l,.int 0 0]}
noncomputable def zH1(h:Heap)(t:Bool)(a:Xc):Heap:=h.push (itO t a)
noncomputable def zH2(h:Heap)(t u:Bool)(a b:Xc):Heap:=(zH1 h t a).push (itO u b)
noncomputable def zH3(h:Heap)(t u:Bool)(a b:Xc):Heap:=(zH2 h t u a b).push {cls:=.type "tuple",data:=.seq #[.ref h.objs.size,.ref (zH1 h t a).objs.size]}
noncomputable def zH4(h:Heap)(t u:Bool)(a b:Xc):Heap:=(zH3 h t u a b).push {cls:=.type "tuple",data:=.seq #[.none,.none]}
noncomputable def zH5(h:Heap)(t u:Bool)(a b:Xc):Heap:=(zH4 h t u a b).push {cls:=.type "zip",data:=.fields #[.none,.bool N2,.bool N2,.ref (zH2 h t u a b).objs.size,.ref (zH3 h t u a b).objs.size]}
theorem vN(t u:Bool)(a b:Xc)(xs ys:Array i0):
 Meets (NN.«zip.__new__» ⟨[.type "zip",.ref a,.ref b],[]⟩) (λ_ R s=>Sq t s.heap a xs/\Sq u s.heap b ys/\R (.ok (.ret (.ref (zH4 s.heap t u a b).objs.size))) {s with heap:=zH5 s.heap t u a b}):=
 .of_wp λprog w A R s h=>by
  obtain⟨j,g,d,tk,os⟩:=s;obtain⟨z,B,h⟩:=h;have hs:=sub_zip
  cases t<;>cases u
  ·have e1:Uj (PQ ⟨j,g,d,tk,os⟩) a xs:=z;have e2:Uj (PQ ⟨j.push {cls:=.type "list_iterator",data:=.fields #[.ref a,.int 0 0]},g,d,tk,os⟩) b ys:=VN B _
   wp_walk using Oo e1,Oo e2
   exact⟨_,rfl,h⟩
  ·have e1:Uj (PQ ⟨j,g,d,tk,os⟩) a xs:=z;have e2:S8 (PQ ⟨j.push {cls:=.type "list_iterator",data:=.fields #[.ref a,.int 0 0]},g,d,tk,os⟩) b ys:=Vp B _
   wp_walk using Oo e1,Od e2
   exact⟨_,rfl,h⟩
  ·have e1:S8 (PQ ⟨j,g,d,tk,os⟩) a xs:=z;have e2:Uj (PQ ⟨j.push {cls:=.type "tuple_iterator",data:=.fields #[.ref a,.int 0 0]},g,d,tk,os⟩) b ys:=VN B _
   wp_walk using Od e1,Oo e2
   exact⟨_,rfl,h⟩
  ·have e1:S8 (PQ ⟨j,g,d,tk,os⟩) a xs:=z;have e2:S8 (PQ ⟨j.push {cls:=.type "tuple_iterator",data:=.fields #[.ref a,.int 0 0]},g,d,tk,os⟩) b ys:=Vp B _
   wp_walk using Od e1,Od e2
   exact⟨_,rfl,h⟩
theorem at_new{t:Bool}(e:h.get? i=Z (itO t l)):At t h i l 0:=by cases t<;>exact⟨_,e,rfl,rfl⟩
theorem call_zip {t:Bool}{Q:i0->s9->Prop}(ha:Sq t s.heap a xs)(hb:Sq u s.heap b ys)(q:∀h',SI h' (s.heap.objs.size+4) (s.heap.objs.size+2) (s.heap.objs.size+3) .none->Pz h' (s.heap.objs.size+2) (.ref s.heap.objs.size) (.ref (s.heap.objs.size+1))->
   Pz h' (s.heap.objs.size+3) .none .none->At t h' s.heap.objs.size a 0->At u h' (s.heap.objs.size+1) b 0->h'.objs.size=s.heap.objs.size+5->
   (∀c o,s.heap.get? c=Z o->h'.get? c=Z o)->Q (.ref (s.heap.objs.size+4)) {s with heap:=h'}):
 LR (model prog w) A (call (.type "zip") [.ref a,.ref b]) Q E s:=by
 refine callType_new F.called_zip (by decide) (F.typeCall_zip_2 _ _) (F.newCall_zip_2 _ _) (λobj=>F.args_object_init_3 obj _ _) F.entry_zip_new (vN t u a b xs ys) ⟨ha,hb,?_⟩
 have B:(zH1 s.heap t a).objs.size=s.heap.objs.size+1:=NT ..;have G:(zH2 s.heap t u a b).objs.size=s.heap.objs.size+2:=by unfold zH2;rw[NT,B]
 have J:(zH3 s.heap t u a b).objs.size=s.heap.objs.size+3:=by unfold zH3;rw[NT,G]
 have L:(zH4 s.heap t u a b).objs.size=s.heap.objs.size+4:=by unfold zH4;rw[NT,J]
 have z5:(zH5 s.heap t u a b).objs.size=s.heap.objs.size+5:=by unfold zH5;rw[NT,L]
 have j:∀{c o},(zH4 s.heap t u a b).get? c=Z o->(zH5 s.heap t u a b).get? c=Z o:=λe=>q7 _ e;have z:∀{c o},(zH3 s.heap t u a b).get? c=Z o->(zH4 s.heap t u a b).get? c=Z o:=λe=>q7 _ e;have O:∀{c o},(zH2 s.heap t u a b).get? c=Z o->(zH3 s.heap t u a b).get? c=Z o:=λe=>q7 _ e;have Fn:∀{c o},(zH1 s.heap t a).get? c=Z o->(zH2 s.heap t u a b).get? c=Z o:=λe=>q7 _ e;have k1:∀{c o},s.heap.get? c=Z o->(zH1 s.heap t a).get? c=Z o:=λe=>q7 _ e;have f:∀t l,(itO t l).isFreed=N2:=λt l=>by cases t<;>rfl
 have U:(zH5 s.heap t u a b).get? (zH4 s.heap t u a b).objs.size=Z _:=LF _ rfl;have fv:(zH5 s.heap t u a b).get? (zH3 s.heap t u a b).objs.size=Z _:=j (LF _ rfl);have g3:(zH5 s.heap t u a b).get? (zH2 s.heap t u a b).objs.size=Z _:=j (z (LF _ rfl));have g2:(zH5 s.heap t u a b).get? (zH1 s.heap t a).objs.size=Z _:=j (z (O (LF _ (f u b))));have g1:(zH5 s.heap t u a b).get? s.heap.objs.size=Z _:=j (z (O (Fn (LF _ (f t a)))));show _/\_;rw[G,J,L]at U;rw[B,G]at g3;rw[J]at fv;rw[B]at g2;rw[L];exact⟨⟨_,U,rfl⟩,q _ U g3 fv (at_new g1) (at_new g2) z5 λc o x=>j (z (O (Fn (k1 x))))⟩
end
end Zp
variable{p:Pos}{elts:List Expr}{ta:TA}
section
section
variable{X:Cx}{pins:List (Xc×Obj)}{σ:St}{H:Hp}{s:s9}{h':Heap}
theorem Inv.turnedL{fp:List Xc}(I:Inv X pins σ H s)(hf:∀b∈fp,cM X pins H b)(k:∀b o,b∉fp->s.heap.get? b=Z o->h'.get? b=Z o):Inv X pins σ H {s with heap:=h',toks:=t'}:=by
 have nit:∀b u,H b=Z u->b∉fp:=λb u e z=>by rw[(hf b z).1]at e;cases e
 refine I.step (g':=s.gens) (d':=s.drawn) (ch:=fp) (λb B=>?_) (λb o _ _ j e _=>k b o j e) (λb o _ _ j e _=>⟨o.slots,k b o j e⟩) (λ_ _ _ _ n=>n)
  (λb o j e=>⟨o,k b o j e⟩) (λ_ _ e=>e) (λ_ _ _ e=>e) (λb ps e=>⟨#[],by rw[e];simp⟩) (λm hm=>?_) (λb u e=>?_) I.bare
 ·obtain⟨_,f1,_,F,f4,G⟩:=hf b B;exact⟨F,f1,f4,G⟩
 ·obtain⟨o,es,ep,ho,r⟩:=hm;exact⟨o,es,ep,k _ o (λz=>(hf _ z).2.1 rfl) ho,r⟩
 ·refine(I.hok b u e).stay (λc v j q=>k c v ?_ q) (λ_ q=>q) λ_ _ q=>q
  rcases j with z|z
  ·rw[z];exact nit b u e
  ·exact nit c _ z
end
def SqV(K:Frag)(t:Bool)(H:Hp)(a:Xc)(xs:List V):Prop:=match t with|true=>SqT K H a xs|false=>SqL K H a xs
theorem Inv.sqv{t:Bool}{xs:List V}(I:Inv X pins σ H s)(h:SqV X.K t H a xs):∃its:List i0,Vals xs its/\Zp.Sq t s.heap a its.toArray:=by
 cases t with
 |true=>obtain⟨its,r,p,_⟩:=I.tuple h;exact⟨its,r,p⟩
 |false=>obtain⟨its,r,p,_⟩:=I.list h;exact⟨its,r,p.isList⟩
theorem Inv.sqv_inj{t:Bool}{xs ys:List V}(I:Inv X pins σ H s)(h:SqV X.K t H a xs)(h':SqV X.K t H a ys):xs=ys:=by
 cases t with
 |true=>exact I.tuple_inj h h'
 |false=>exact I.list_inj h h'
noncomputable def Itz(K:Frag)(t u:Bool)(a b:Xc):It:=
 ⟨λi H=>∃xs ys x y,SqV K t H a xs/\SqV K u H b ys/\xs[i]?=Z x/\ys[i]?=Z y,
  λi H v H'=>∃p x y,H p=Y/\v=.ref p/\H'=upd H p (.tup [x,y])/\∀xs ys,SqV K t H a xs->SqV K u H b ys->xs[i]?=Z x/\ys[i]?=Z y,
  λi H=>∃xs ys,SqV K t H a xs/\SqV K u H b ys/\(xs.length<=i∨ys.length<=i)⟩
theorem yC{cx}{t u:Bool}{z T O i j:Xc}(D:Ui z T O i j a b):
 gF P w K (.Tuple elts cx pos) (Itz K t u a b) [z,T,O,i,j] z (λk h=>SI h z T O .none/\Pz h T (.ref i) (.ref j)/\(∃p r,Pz h O p r)/\Zp.At t h i a k/\Zp.At u h j b k) where
 mem:=by simp
 obj:=λk h ⟨F,G,⟨p,r,J⟩,hi,L⟩ c B=>by
  simp only[LI,MM,or_false]at B
  rcases B with rfl|rfl|rfl|rfl|rfl
  ·exact⟨_,F,λv e=>by cases e⟩
  ·exact⟨_,G,λv e=>by cases e⟩
  ·exact⟨_,J,λv e=>by cases e⟩
  ·exact hi.lt
  ·exact L.lt
 keep:=λk h h' g9 kk=>(by obtain⟨F,G,⟨p,r,J⟩,hi,L⟩:=g9;exact⟨kk z (by simp) _ F,kk T (by simp) _ G,⟨p,r,kk O (by simp) _ J⟩,hi.up λo e=>kk i (by simp) o e,L.up λo e=>kk j (by simp) o e⟩)
 item:=by
  intro X fv hw hK B k pins s σ H E I hf st hg;subst fv hw hK;obtain⟨F,G,⟨p,r,J⟩,hi,L⟩:=st;obtain⟨xs,ys,x,y,qx,qy,ex,ey⟩:=hg;obtain⟨is,rx,px⟩:=I.sqv qx;obtain⟨js,ry,py⟩:=I.sqv qy;obtain⟨ux,Jm,rux⟩:=rx.get ex;obtain⟨uy,Jn,ruy⟩:=ry.get ey;refine Zp.nxt_item D F G J hi L px py (by simpa using Jm) (by simpa using Jn) λh1 z1 o1 i1 j1 p1 Fn=>⟨_,rfl,?_⟩
  refine wpAny_letOwnedTupleGo_zip (s:={s with heap:=h1}) z1 λh2 z2 s2=>?_
  have lt:∀{c o},s.heap.get? c=Z o->c≠s.heap.objs.size:=λe=>Mt (LD e);have nz:s.heap.objs.size≠z:=(lt F).symm;have Jo:∃o,s.heap.get? i=Z o:=hi.lt.imp λ_ h=>h.1;have Jp:∃o,s.heap.get? j=Z o:=L.lt.imp λ_ h=>h.1;have up:∀c o,c≠z->h1.get? c=Z o->h2.get? c=Z o:=λc o n e=>s2.extBut _ _ n e;have IL:Inv X pins σ (upd H s.heap.objs.size (.tup [x,y])) {s with heap:=s.heap.push {cls:=.type "tuple",data:=.seq #[ux,uy]},toks:=s.toks}:=I.laid (λb o e=>q7 _ e) (LW _) ⟨by rw[I7];simp,[ux,uy],.cons rux (.cons ruy .nil),Sf _ _⟩
  have fr:∀c∈[z,T,O,i,j],c≠s.heap.objs.size:=λc B=>by
   simp only[LI,MM,or_false]at B
   rcases B with rfl|rfl|rfl|rfl|rfl
   ·exact lt F
   ·exact lt G
   ·exact lt J
   ·obtain⟨o,e⟩:=Jo;exact lt e
   ·obtain⟨o,e⟩:=Jp;exact lt e
  have un:∀c∈[z,T,O,i,j],upd H s.heap.objs.size (.tup [x,y]) c=Y:=λc B=>by rw[ao (fr c B)];exact(hf c B).1
  have kk:∀c o,c∉[z,T,O,i,j]->(s.heap.push {cls:=.type "tuple",data:=.seq #[ux,uy]}).get? c=Z o->h2.get? c=Z o:=λc o B e=>by
   simp only[LI,MM,or_false,not_or]at B
   rcases Uk e with⟨rfl,rfl⟩|e
   ·exact up _ _ nz p1
   ·exact up _ _ B.1 (Fn c o B.1 B.2.2.1 B.2.2.2.1 B.2.2.2.2 e)
  have I2:Inv X pins σ (upd H s.heap.objs.size (.tup [x,y])) {s with heap:=h2,toks:=s.toks}:=(Inv.turnedL (s:={s with heap:=s.heap.push {cls:=.type "tuple",data:=.seq #[ux,uy]},toks:=s.toks}) (h':=h2) (t':=s.toks) (fp:=[z,T,O,i,j]) IL (λc B=>⟨un c B,(hf c B).2⟩) kk)
  refine⟨.ref s.heap.objs.size,_,I2,rfl,⟨_,x,y,I.hok.fresh (LW _),rfl,rfl,λxs' ys' q1 q2=>?_⟩,⟨z2,up _ _ D.TIz (Fn _ _ D.TIz D.TITO D.TIi1 D.TIi2 G),⟨_,_,up _ _ D.TOz o1⟩,i1.up λo e=>up _ o D.i1z e,j1.up λo e=>up _ o D.i2z e⟩,un⟩;rw[I.sqv_inj q1 qx,I.sqv_inj q2 qy];exact⟨ex,ey⟩
 done:=by
  intro X fv hw hK B k pins s σ H E I hf st hg;subst fv hw hK;obtain⟨F,G,⟨p,r,J⟩,hi,L⟩:=st;obtain⟨xs,ys,qx,qy,U⟩:=hg;obtain⟨is,rx,px⟩:=I.sqv qx;obtain⟨js,ry,py⟩:=I.sqv qy;have lx:=rx.length;have ly:=ry.length;refine Zp.nxt_end (I.ok.hd B) D F G J hi L px py (U.imp (λe=>by simp;lia) (λe=>by simp;lia)) λh1 Fn=>⟨rfl,I.turnedL (t':=s.toks) hf λc o B e=>?_⟩
  simp only[LI,MM,or_false,not_or]at B;exact Fn c o B.1 B.2.2.1 B.2.2.2.1 B.2.2.2.2 e
 self:=λA k s Q E st h=>VO st.1 h
section
variable{X:Cx}
noncomputable def GW(K:Frag)(ta:TA):TI:=λσ H R=>ta σ H λvs H1=>∃a b t u xs ys,vs=[.ref a,.ref b]/\SqV K t H1 a xs/\SqV K u H1 b ys/\R (Itz K t u a b) H1
theorem DL{cx}{a b:Expr}(G:Gl X "zip")(hm:X.mg "zip"=Y)(J:PA X [a,b] ta)(hs:Mk [a,b] X.env=[(N2,eval a X.env),(N2,eval b X.env)])(j:Mk [b] X.env=[(N2,eval b X.env)]):
 PI X (.Tuple elts cx pos) (.Call (.Name "zip" p) [a,b] [] pos') (GW X.K ta):=by
 intro pins s σ H R I h;refine Call_ (bZ I G hm (u:=.type "zip") (by decide +kernel) (Nc (thn (J pos' pins s σ H _ I h) λus s1 g9=>?_) (by rw[hs,j]) (by rw[j];rfl)));obtain⟨vs,H1,z,L,O⟩:=g9
 obtain⟨a',b',t,u,xs,ys,rfl,qx,qy,q⟩:=O
 cases L with
 |cons r rr=>
  cases rr with
  |cons r' rr=>
   cases rr
   cases r
   cases r'
   obtain⟨is,rx,px⟩:=z.sqv qx;obtain⟨js,ry,py⟩:=z.sqv qy;refine Zp.call_zip px py λh1 B t1 U Fn fv sz k1=>?_;refine VO B ?_;have la:a'<s1.heap.objs.size:=by cases t<;>(obtain⟨o,e,_⟩:=px;exact LD e)
   have lb:b'<s1.heap.objs.size:=by cases u<;>(obtain⟨o,e,_⟩:=py;exact LD e)
   have D:Ui (s1.heap.objs.size+4) (s1.heap.objs.size+2) (s1.heap.objs.size+3) s1.heap.objs.size (s1.heap.objs.size+1) a' b':=by constructor<;>(intro e;subst_vars;first|lia|(simp only[Xc]at *;lia))
   refine⟨_,_,_,_,H1,rfl,z.kept (t':=s1.toks) k1,yC (t:=t) (u:=u) D,⟨B,t1,⟨_,_,U⟩,Fn,fv⟩,λc F=>?_,q⟩;have hle:s1.heap.objs.size<=c:=by
    simp only[LI,MM,or_false]at F
    rcases F with rfl|rfl|rfl|rfl|rfl<;>lia
   exact z.fpOk hle (z.hok.fresh hle)
end
end
namespace Zp
end Zp
namespace En
variable{z i a:Xc}{xs:Array i0}{old:i0}
section
variable{prog:Ml}{w:MQ}{A:MU}{E:i0->s9->Prop}{s:s9}
open Builtin.SmallTypes Zp in
theorem DM {t:Bool}{k:Nat}{x:i0}{Q:i0->s9->Prop}(U:TH s.heap z i k old)(hi:At t s.heap i a k)(ha:Sq t s.heap a xs)(hx:xs[k]?=Z x)(j:z≠i)(q:∀h',VP h' z i ((k:Int)+1) x s.heap.objs.size->At t h' i a (k+1)->h'.get? s.heap.objs.size=Z {cls:=.type "tuple",data:=.seq #[.int k s.toks,x]}->
   (∀b o,b≠z->b≠i->s.heap.get? b=Z o->h'.get? b=Z o)->Q (.ref s.heap.objs.size) {s with heap:=h',toks:=s.toks+1}):
 LR (model prog w) A (NN.«enumerate.__next__» ⟨[.ref z],[]⟩) (λfin s'=>∃v,fin=.done (.ret v)/\Q v s') E s:=by
 obtain⟨B,g,d,tk,os⟩:=s;refine gV (m:=field (.ref z) 2) (MR U rfl (x:=.ref i) rfl (gV (nx_item hi ha hx λg1 i1 s1=>?_)));have S1:NH i B g1:=s1;clear s1;have Fn:TH g1 z i k old:=(S1.2 z j).trans U;refine gV (m:=field (.ref z) 3) (MR (s:=⟨g1,g,d,tk,os⟩) Fn rfl (x:=Oz k) rfl ?_);refine gV (m:=field (.ref z) 4) (MR (s:=⟨g1,g,d,tk,os⟩) Fn rfl (x:=.none) rfl ?_);refine gV (m:=mkInt k) (wpAny_mkInt ?_);refine gV (m:=setField (.ref z) 3 (Oz ((k:Int)+1))) (Ms (s:=⟨g1,g,d,tk+1,os⟩) Fn (by simp) λg2 z2 s2=>?_)
 have fv:NH z g1 g2:=s2;have Z2:TH g2 z i ((k:Int)+1) old:=z2;clear s2 z2;refine gV (m:=setField (.ref z) 4 .none) (Ms (s:=⟨g2,g,d,tk+1,os⟩) Z2 (by simp) λg3 z3 s3=>?_)
 have S3:NH z g2 g3:=s3;have Z3:TH g3 z i ((k:Int)+1) old:=z3;clear s3 z3;refine gV (m:=Vn [.int k tk,x]) (R8 ?_);have G:TH (g3.push {cls:=.type "tuple",data:=.seq #[.int k tk,x]}) z i ((k:Int)+1) old:=q7 _ Z3;have sz:g3.objs.size=B.objs.size:=by rw[S3.1,fv.1,S1.1]
 have zl:z<B.objs.size:=LD U;have T4:(g3.push {cls:=.type "tuple",data:=.seq #[.int k tk,x]}).get? B.objs.size=Z {cls:=.type "tuple",data:=.seq #[.int k tk,x]}:=by rw[<-sz];exact LF _ rfl
 have K4:∀b o,b≠z->b≠i->B.get? b=Z o->(g3.push {cls:=.type "tuple",data:=.seq #[.int k tk,x]}).get? b=Z o:=λb o bz bi e=>q7 _ (S3.extBut b o bz (fv.extBut b o bz (S1.extBut b o bi e)))
 have I4:At t (g3.push {cls:=.type "tuple",data:=.seq #[.int k tk,x]}) i a (k+1):=i1.up λo e=>q7 _ (S3.extBut i o j.symm (fv.extBut i o j.symm e));rw[sz];generalize g3.push {cls:=.type "tuple",data:=.seq #[.int k tk,x]}=F at G T4 K4 I4;refine gV (m:=ownedTupleIsFree (.ref z)) ?_;unfold ownedTupleIsFree;refine gV (MR (s:=⟨F,g,d,tk+1,os⟩) G rfl (x:=.none) rfl (z4 ?_));simp only[if_true];refine gV (Oc (gV (MR (s:=⟨F,g,d,tk+1,os⟩) G rfl (x:=old) rfl (gV (Ms (s:=⟨F,g,d,tk+1,os⟩) G (by simp) λJ z5 s5=>?_)))))
 have S5:NH z F J:=s5;have Z5:TH J z i ((k:Int)+1) x:=z5;clear s5 z5;refine gV (m:=ownedTupleHandOut (.ref z) (.ref B.objs.size)) ?_;unfold ownedTupleHandOut;refine gV (Ms (s:=⟨J,g,d,tk+1,os⟩) Z5 (by simp) λL z6 s6=>?_)
 have S6:NH z J L:=s6;have Z6:VP L z i ((k:Int)+1) x B.objs.size:=z6;clear s6 z6;refine Ms (s:=⟨L,g,d,tk+1,os⟩) Z6 (by simp) λO z7 s7=>?_
 have S7:NH z L O:=s7;have Z7:VP O z i ((k:Int)+1) x B.objs.size:=z7;clear s7 z7;have up:∀b o,b≠z->F.get? b=Z o->O.get? b=Z o:=λb o bz e=>S7.extBut b o bz (S6.extBut b o bz (S5.extBut b o bz e));exact gV (SJ (z4 ⟨_,rfl,q O Z7 (I4.up λo e=>up i o j.symm e) (up _ _ (Ny zl) T4) λb o bz bi e=>up b o bz (K4 b o bz bi e)⟩))
theorem nxt_item {t:Bool}{k:Nat}{x:i0}{Q:Option i0->s9->Prop}(B:TH s.heap z i k old)(hi:Zp.At t s.heap i a k)(G:Zp.Sq t s.heap a xs)(hx:xs[k]?=Z x)(j:z≠i)(q:∀h',VP h' z i ((k:Int)+1) x s.heap.objs.size->Zp.At t h' i a (k+1)->h'.get? s.heap.objs.size=Z {cls:=.type "tuple",data:=.seq #[.int k s.toks,x]}->
   (∀b o,b≠z->b≠i->s.heap.get? b=Z o->h'.get? b=Z o)->Q (Z (.ref s.heap.objs.size)) {s with heap:=h',toks:=s.toks+1}):
 LR (model prog w) A (OB (.ref z)) Q E s:=by
 have ty:s.TypeIs (.ref z) "enumerate":=⟨_,B,rfl⟩;unfold OB;exact gV (Ol (Mw (name:=Mu "__next__") ty Ql (MB Ql ty TJ
  (DM B hi G hx j λh' a1 a2 J L=>z4 (q h' a1 a2 J L)) (Tb _))))
theorem nxt_end{t:Bool}{k:Nat}{Q:Option i0->s9->Prop}(B:A.handled=Y)(j:TH s.heap z i k old)(hi:Zp.At t s.heap i a k)(G:Zp.Sq t s.heap a xs)(hx:xs[k]?=Y)(q:∀h',W8 i s.heap h'->Q Y {s with heap:=h'}):LR (model prog w) A (OB (.ref z)) Q E s:=by have ty:s.TypeIs (.ref z) "enumerate":=⟨_,j,rfl⟩;unfold OB;refine gV (Ol (Mw (name:=Mu "__next__") ty Ql (MB Ql ty TJ ?_ (Tb _))));refine gV (m:=field (.ref z) 2) (MR j rfl (x:=.ref i) rfl (gV (Zp.nx_end B hi G hx λh' x he hs=>?_)));obtain⟨o,ho,J⟩:=hs;exact gV (P0 (T:="StopIteration") (b:=F2) ⟨o,ho,J⟩ R9 (z4 (q _ he)))
open AutoSeq1 (wpAny_loadPart') in
theorem Bh(l:Xc)(items:Array i0)(n:Nat)(dct:Option Xc)(sl:Array (Option i0)):
 Meets (NN.«enumerate.__new__» ⟨[.type "enumerate",.ref l],[]⟩) (λ_ R s=>s.heap.get? l=Z {cls:=.type "tuple",dict:=dct,data:=.seq items n,slots:=sl} /\
  R (.ok (.ret (.ref (s.heap.push (Zp.itO F2 l)).objs.size))) {s with heap:=(s.heap.push (Zp.itO F2 l)).push {cls:=.type "enumerate",data:=.fields #[.none,.bool N2,.ref s.heap.objs.size,Oz 0,.none,.none]}}):=
 .of_wp λprog w A R s h=>by
  obtain⟨F,g,d,tk,os⟩:=s;obtain⟨j,h⟩:=h;have z:=sub_enumerate;have B:S8 (PQ ⟨F,g,d,tk,os⟩) l items:=⟨_,j,rfl,n,rfl⟩
  wp_walk using Qc j
  refine wpAny_stack_any λst=>z4 ?_
  split
  ·rename_i c _ _ _ _ _
   cases(c==N1 "enumerate")<;>(wp_walk using Qc j,Od B;exact⟨_,rfl,h⟩)
  ·wp_walk using Qc j,Od B
   exact⟨_,rfl,h⟩
theorem call_enum{t:Bool}{l:Xc}{items:Array i0}{Q:i0->s9->Prop}(B:Zp.Sq t s.heap l items)(q:∀h',TH h' (s.heap.objs.size+1) s.heap.objs.size 0 .none->Zp.At t h' s.heap.objs.size l 0->(∀b o,s.heap.get? b=Z o->h'.get? b=Z o)->Q (.ref (s.heap.objs.size+1)) {s with heap:=h'}):
 LR (model prog w) A (call (.type "enumerate") [.ref l]) Q E s:=by
 cases t with
 |false=>exact call_enumerate_list B λh' a b _ k=>q h' a b k
 |true=>
  obtain⟨⟨c,dct,dt,sl⟩,J,L,n,hd⟩:=B;have j:c=.type "tuple":=L;have z:dt=.seq items n:=hd;subst j z;refine callType_new F.called_enumerate (by decide) (F.typeCall_enumerate_1 _) (F.newCall_enumerate_1 _) (λobj=>F.args_object_init_2 obj _) F.entry_enumerate_new (Bh l items n dct sl) ⟨J,?_⟩
  have G:(s.heap.push (Zp.itO F2 l)).objs.size=s.heap.objs.size+1:=NT ..;have e:((s.heap.push (Zp.itO F2 l)).push {cls:=.type "enumerate",data:=.fields #[.none,.bool N2,.ref s.heap.objs.size,Oz 0,.none,.none]}).get? (s.heap.push (Zp.itO F2 l)).objs.size=Z _:=LF _ rfl;rw[G]at e;show _/\_;rw[G];exact⟨⟨_,e,rfl⟩,q _ e (Zp.at_new (q7 _ (LF _ rfl))) λb o x=>q7 _ (q7 _ x)⟩
end
end En
noncomputable def Ite(K:Frag)(t:Bool)(a:Xc):It:=
 ⟨λi H=>∃xs x,SqV K t H a xs/\xs[i]?=Z x,
  λi H v H'=>∃p x,H p=Y/\v=.ref p/\H'=upd H p (.tup [.int (i:Nat),x])/\∀xs,SqV K t H a xs->xs[i]?=Z x,
  λi H=>∃xs,SqV K t H a xs/\xs.length<=i⟩
theorem vO{cx}{t:Bool}{z i:Xc}(F:z≠i):
 gF P w K (.Tuple elts cx pos) (Ite K t a) [z,i] z (λk h=>(∃old,TH h z i k old)/\Zp.At t h i a k) where
 mem:=by simp
 obj:=λk h ⟨⟨old,B⟩,hi⟩ c j=>by
  simp only[LI,MM,or_false]at j
  rcases j with rfl|rfl
  ·exact⟨_,B,λv e=>by cases e⟩
  ·exact hi.lt
 keep:=λk h h' G kk=>(by obtain⟨⟨old,B⟩,hi⟩:=G;exact⟨⟨old,kk z (by simp) _ B⟩,hi.up λo e=>kk i (by simp) o e⟩)
 item:=by
  intro X J hw L j k pins s σ H E I hf st hg;subst J hw L;obtain⟨⟨old,B⟩,hi⟩:=st;obtain⟨xs,x,qx,ex⟩:=hg;obtain⟨is,rx,px⟩:=I.sqv qx;obtain⟨ux,O,rux⟩:=rx.get ex;refine En.nxt_item B hi px (by simpa using O) F λh1 z1 i1 p1 U=>⟨_,rfl,?_⟩
  refine wpAny_letOwnedTupleGo_enum (s:={s with heap:=h1,toks:=s.toks+1}) z1 λh2 z2 s2=>?_
  have lt:∀{c o},s.heap.get? c=Z o->c≠s.heap.objs.size:=λe=>Mt (LD e);have nz:s.heap.objs.size≠z:=(lt B).symm;have Fn:∃o,s.heap.get? i=Z o:=hi.lt.imp λ_ h=>h.1;have up:∀c o,c≠z->h1.get? c=Z o->h2.get? c=Z o:=λc o n e=>s2.extBut _ _ n e;have IL:Inv X pins σ (upd H s.heap.objs.size (.tup [.int (k:Nat),x])) {s with heap:=s.heap.push {cls:=.type "tuple",data:=.seq #[.int k s.toks,ux]},toks:=s.toks+1}:=I.laid (λb o e=>q7 _ e) (LW _) ⟨by rw[I7];simp,[.int k s.toks,ux],.cons ⟨_,rfl⟩ (.cons rux .nil),Sf _ _⟩
  have fr:∀c∈[z,i],c≠s.heap.objs.size:=λc j=>by
   simp only[LI,MM,or_false]at j
   rcases j with rfl|rfl
   ·exact lt B
   ·obtain⟨o,e⟩:=Fn;exact lt e
  have un:∀c∈[z,i],upd H s.heap.objs.size (.tup [.int (k:Nat),x]) c=Y:=λc j=>by rw[ao (fr c j)];exact(hf c j).1
  have kk:∀c o,c∉[z,i]->(s.heap.push {cls:=.type "tuple",data:=.seq #[.int k s.toks,ux]}).get? c=Z o->h2.get? c=Z o:=λc o j e=>by
   simp only[LI,MM,or_false,not_or]at j
   rcases Uk e with⟨rfl,rfl⟩|e
   ·exact up _ _ nz p1
   ·exact up _ _ j.1 (U c o j.1 j.2 e)
  have I2:Inv X pins σ (upd H s.heap.objs.size (.tup [.int (k:Nat),x])) {s with heap:=h2,toks:=s.toks+1}:=Inv.turnedL (s:={s with heap:=s.heap.push {cls:=.type "tuple",data:=.seq #[.int k s.toks,ux]},toks:=s.toks+1}) (h':=h2) (t':=s.toks+1) (fp:=[z,i]) IL (λc j=>⟨un c j,(hf c j).2⟩) kk
  refine⟨.ref s.heap.objs.size,_,I2,rfl,⟨_,x,I.hok.fresh (LW _),rfl,rfl,λxs' q1=>?_⟩,⟨⟨ux,by simpa using z2⟩,i1.up λo e=>up _ o F.symm e⟩,un⟩
  rw[I.sqv_inj q1 qx];exact ex
 done:=by
  intro X J hw L j k pins s σ H E I hf st hg;subst J hw L;obtain⟨⟨old,B⟩,hi⟩:=st;obtain⟨xs,qx,fv⟩:=hg;obtain⟨is,rx,px⟩:=I.sqv qx;have lx:=rx.length;refine En.nxt_end (I.ok.hd j) B hi px (by simp;lia) λh1 U=>⟨rfl,I.turnedL (t':=s.toks) hf λc o j e=>?_⟩
  simp only[LI,MM,or_false,not_or]at j;exact U c o j.2 e
 self:=λA k s Q E G h=>(by obtain⟨⟨old,B⟩,_⟩:=G;exact Vq B h)
section
variable{X:Cx}
noncomputable def FA(K:Frag)(ta:TA):TI:=λσ H R=>ta σ H λvs H1=>∃a t xs,vs=[.ref a]/\SqV K t H1 a xs/\R (Ite K t a) H1
theorem Bi{cx}{a:Expr}(F:Gl X "enumerate")(hm:X.mg "enumerate"=Y)(G:PA X [a] ta)(hs:Mk [a] X.env=[(N2,eval a X.env)]):
 PI X (.Tuple elts cx pos) (.Call (.Name "enumerate" p) [a] [] pos') (FA X.K ta):=by
 intro pins s σ H R I h;refine Call_ (bZ I F hm (u:=.type "enumerate") boot_enumerate (Nc (thn (G pos' pins s σ H _ I h) λus s1 g9=>?_) hs rfl));obtain⟨vs,H1,j,J,L⟩:=g9;obtain⟨a',t,xs,rfl,qx,q⟩:=L
 cases J with
 |cons r rr=>
  cases rr
  cases r
  obtain⟨is,rx,px⟩:=j.sqv qx;refine En.call_enum px λh1 z O U=>?_;refine Vq z ?_;refine⟨_,_,_,_,H1,rfl,j.kept (t':=s1.toks) U,vO (t:=t) (a:=a') (by simp),⟨⟨_,z⟩,O⟩,λc B=>?_,q⟩
  have hle:s1.heap.objs.size<=c:=by
   simp only[LI,MM,or_false]at B
   rcases B with rfl|rfl<;>lia
  exact j.fpOk hle (j.hok.fresh hle)
end
namespace Rv
theorem rW:mroOf (.type "reversed")=pure [.type "reversed",.type "object"]:=by rw[mroOf_type];kernel_rfl
theorem yD:UZ (.type "reversed") "__new__"=pure (Z (.builtin "reversed.__new__")):=by rw[QP,Pc];kernel_rfl
theorem yE:Bind.madeBy (.type "reversed")=pure (Z "reversed.__new__"):=madeBy_type rW yD (by decide +kernel)
theorem Bj:isSubtype (.type "list_reverseiterator") (.type "reversed")=pure N2:=by rw[OK];kernel_rfl
theorem Bk:isSubtype (.type "reversed") (.type "reversed")=pure F2:=by rw[OK];kernel_rfl
theorem vP:Vr table "reversed.__new__"=Z NN.«reversed.__new__»:=Rt (by kernel_rfl)
theorem Bl(a:i0):checkTypeCall "reversed" ⟨[a],[]⟩=pure ():=by kernel_rfl
theorem yF(a:i0):VQ "reversed.__new__" ⟨[.type "reversed",a],[]⟩=pure ():=by kernel_rfl
theorem Bm:((Manifest.find? "reversed").bind (·.mro.findSome? λt=>(Manifest.find? t).bind λb=>if b.noNew then Z F2 else if b.attrs.any (·.1=="__new__")then Z N2 else Y)).getD N2=N2:=by decide +kernel
theorem vQ:plainId "reversed.__new__"=F2:=by decide +kernel
noncomputable def rO(l:Xc)(i:Int):Obj:={cls:=.type "list_reverseiterator",data:=.fields #[.ref l,Oz i]}
theorem vR(l:Xc)(items:Array i0)(n:Nat)(d:Option Xc)(sl:Array (Option i0)):
 Meets (NN.«list.__reversed__» ⟨[.ref l],[]⟩) (λ_ R s=>s.heap.get? l=Z {cls:=.type "list",dict:=d,data:=.seq items n,slots:=sl}/\R (.ok (.ret (.ref s.heap.objs.size))) {s with heap:=s.heap.push (rO l ((items.size:Nat)-1))}):=
 .of_wp λprog w A R s h=>by obtain⟨j,g,d,tk,os⟩:=s;obtain⟨z,h⟩:=h;wp_walk;exact⟨_,rfl,h⟩
variable{l it:Xc}
section
variable{prog:Ml}{w:MQ}{A:MU}{E:i0->s9->Prop}{s:s9}
theorem FB{items:Array i0}{n:Nat}{dd:Option Xc}{sl:Array (Option i0)}{R:VF->s9->Prop}(j:s.heap.get? l=Z {cls:=.type "list",dict:=dd,data:=.seq items n,slots:=sl})(q:R (.ok (.ret (.ref s.heap.objs.size))) {s with heap:=s.heap.push (rO l ((items.size:Nat)-1))}):LR (model prog w) A.in1 (NN.«reversed.__new__» ⟨[.type "reversed",.ref l],[]⟩) (λfin s'=>match fin with|.done f=>R (.ok f) s'|.again c'=>c'.quiet=F2/\Pb (model prog w) A c' R s') (λe s'=>R (.error e) s') s:=by
 have h1:=Bk;have h2:s.TypeIs (.ref l) "list":=⟨_,j,rfl⟩;have G:=F.slot_list_reversed.lookup;have J:=F.slot_list_reversed.bind (.ref l);unfold NN.«reversed.__new__»
 repeat (any_goals (first|assumption|wp_step))
 have z:Pb (model prog w) A.in1 (.call (.builtin "list.__reversed__") ⟨[.ref l],[]⟩) (λr s'=>r=.ok (.ret (.ref s.heap.objs.size))/\s'={s with heap:=s.heap.push (rO l ((items.size:Nat)-1))}) s:=RF F.slot_list_reversed.plain F.entry_list_reversed (F.slot_list_reversed.check _ _ _ _ _ _ _ _ h2 (F.args_list_reversed_1 _) (vR l items n dd sl prog w A.in1 (λr s'=>r=.ok (.ret (.ref s.heap.objs.size))/\s'={s with heap:=s.heap.push (rO l ((items.size:Nat)-1))}) s ⟨j,rfl,rfl⟩))
 refine OE z λr s1 B=>?_;obtain⟨rfl,rfl⟩:=B;exact z4 q
theorem call_rev{items:Array i0}{n:Nat}{dd:Option Xc}{sl:Array (Option i0)}{Q:i0->s9->Prop}(G:s.heap.get? l=Z {cls:=.type "list",dict:=dd,data:=.seq items n,slots:=sl})(q:Q (.ref s.heap.objs.size) {s with heap:=s.heap.push (rO l ((items.size:Nat)-1))}):LR (model prog w) A (call (.type "reversed") [.ref l]) Q E s:=by
 have z:=rW;have j:=yE;have B:=Bj;have h1:(N1 "reversed"==N1 "type")=N2:=by decide
 have h2:=Bm;have J:=Bl (.ref l);refine Ts (codeAny_of_tree ?_);show LR _ _ (callAny (.type "reversed") _) _ _ _;refine z4 ⟨So _ (by decide +kernel),Pm F.entry_type_call ?_⟩
 rw[V4 (weight_type_call_type "reversed" [.ref l] []) (units_type_call_type "reversed" [.ref l] [])]
 repeat (any_goals (first|assumption|wp_step))
 have L:Pb (model prog w) A.in1 (.call (.builtin "reversed.__new__") ⟨[.type "reversed",.ref l],[]⟩) (λr s'=>r=.ok (.ret (.ref s.heap.objs.size))/\s'={s with heap:=s.heap.push (rO l ((items.size:Nat)-1))}) s:=RF vQ vP (OI (yF _) (FB (R:=λr s'=>r=.ok (.ret (.ref s.heap.objs.size))/\s'={s with heap:=s.heap.push (rO l ((items.size:Nat)-1))}) G ⟨rfl,rfl⟩))
 refine OE L λr s1 O=>?_;obtain⟨rfl,rfl⟩:=O;have U:SW {s with heap:=s.heap.push (rO l ((items.size:Nat)-1))} (.ref s.heap.objs.size) "list_reverseiterator":=⟨_,LF _ rfl,rfl⟩
 repeat (any_goals (first|assumption|wp_step))
theorem slot_next:Slot "list_reverseiterator" "__next__" "list_reverseiterator.__next__":=.of (owner:="list_reverseiterator") (n:="__next__") (by rw[QP,Pc];kernel_rfl) (by decide +kernel) (by decide +kernel) (by decide +kernel) (.inl (by decide +kernel)) (by rw[OK];kernel_rfl)
theorem mF:Slot "list_reverseiterator" "__iter__" "list_reverseiterator.__iter__":=.of (owner:="list_reverseiterator") (n:="__iter__") (by rw[QP,Pc];kernel_rfl) (by decide +kernel) (by decide +kernel) (by decide +kernel) (.inl (by decide +kernel)) (by rw[OK];kernel_rfl)
theorem bu:Vr table "list_reverseiterator.__next__"=Z NN.«list_reverseiterator.__next__»:=Rt (by kernel_rfl)
theorem tT:Vr table "list_reverseiterator.__iter__"=Z NN.«dict_keyiterator.__iter__»:=entryFor_alias (id':="dict_keyiterator.__iter__") (by kernel_rfl) (by first|rfl|decide +kernel|(unfold String.splitOn;simp +decide [String.splitOnAux])) (by decide +kernel) (by kernel_rfl)
theorem bI(a:i0):V5 "list_reverseiterator.__next__" ⟨[a],[]⟩:=by unfold V5;kernel_rfl
theorem vS(a:i0):V5 "list_reverseiterator.__iter__" ⟨[a],[]⟩:=by unfold V5;kernel_rfl
theorem nx_item{i:Nat}{xs:Array i0}{x:i0}{Q:Option i0->s9->Prop}(hi:s.heap.get? it=Z (rO l i))(B:s.heap.IsList l xs)(hx:xs[i]?=Z x)(q:∀h',h'.get? it=Z (rO l ((i:Int)-1))->NH it s.heap h'->Q (Z x) {s with heap:=h'}):LR (model prog w) A (OB (.ref it)) Q E s:=by
 have ty:s.TypeIs (.ref it) "list_reverseiterator":=⟨_,hi,rfl⟩;obtain⟨oq,j,_,nq,z⟩:=B;unfold OB;refine gV (Ol (Mw (name:=Mu "__next__") ty slot_next (MB slot_next ty bu ?_ (bI _))));refine gV (m:=field (.ref it) 1) (MR hi rfl (x:=.int i 0) rfl ?_);dsimp only;rw[if_neg (show ¬((i:Int)<0) by lia)]
 refine gV (m:=field (.ref it) 0) (MR hi rfl (x:=.ref l) rfl ?_);refine gV (m:=VL (.ref l)) (OJ j z ?_);simp only[LO,hx];refine gV (Ms hi (by simp) λh' e' s'=>z4 ⟨x,rfl,z4 (q h' e' s')⟩)
theorem nx_end{Q:Option i0->s9->Prop}(j:A.handled=Y)(hi:s.heap.get? it=Z (rO l (-1)))(q:∀h',(∀b o,s.heap.get? b=Z o->h'.get? b=Z o)->Q Y {s with heap:=h'}):LR (model prog w) A (OB (.ref it)) Q E s:=by
 have ty:s.TypeIs (.ref it) "list_reverseiterator":=⟨_,hi,rfl⟩;unfold OB;refine gV (Ol (Mw (name:=Mu "__next__") ty slot_next (MB slot_next ty bu ?_ (bI _))));refine gV (m:=field (.ref it) 1) (MR hi rfl (x:=.int (-1) 0) rfl ?_);dsimp only;rw[if_pos (show(-1:Int)<0 by lia)]
 refine gV (Oc (gV ?_));unfold Builtin.SmallTypes.stopIteration;refine gV (m:=V3 (.type "StopIteration") []) ?_;simp only[V3,Vn];refine gV (Nf ?_ (by size_fits))
 refine gV (m:=P9 _ _) (OI (a:=NZ) (by first|rfl|(simp only[P9];rfl)) (Nf ?_ (by size_fits)))
 simp only[Wx];refine gV (SU ?_)
 first|rw[show A.in1.handled=Y from j]|rw[j]
 refine gV (z4 (Uh ?_));exact gV (P0 (T:="StopIteration") (b:=F2) ⟨_,LF _ rfl,rfl⟩ R9 (z4 (q _ λb o e=>q7 _ (q7 _ e))))
theorem it_self{i:Int}{Q:i0->s9->Prop}(hi:s.heap.get? it=Z (rO l i))(h:Q (.ref it) s):LR (model prog w) A (Tq (.ref it)) Q E s:=by have ty:s.TypeIs (.ref it) "list_reverseiterator":=⟨_,hi,rfl⟩;refine SK ty mF (MB mF ty tT ?_ (vS _));exact z4 ⟨_,rfl,"list_reverseiterator",_,ty,slot_next.lookup,h⟩
end
end Rv
section
noncomputable abbrev NK:=List (Int ⊕ List Int)
noncomputable def FC(ks:List Int):Int:=reduceHash (Sz (ks.map hashInt))
noncomputable def FE:Int ⊕ List Int->Int
 |.inl i=>hashInt i
 |.inr ks=>FC ks
noncomputable def FF(ks:NK):Int:=reduceHash (Sz (ks.map FE))
noncomputable def Az(a:Xc)(xs:List (NK×Xc×i0)):Heap->Prop:=λh=>xs.length<=LK/\(a==O0)=N2 /\
 ∃o es ep,h.get? a=Z o/\o.ExactDict/\o.data=.dict es ep/\es.toList=xs.map (λx=>(⟨FF x.1,.ref x.2.1,x.2.2⟩:Nq))/\(xs.map (·.1)).Nodup
noncomputable def Kt1(H:Hp):Int ⊕ List Int->V->Prop
 |.inl i,v=>v=.int i
 |.inr ks,v=>∃b,v=.ref b/\H b=Z (.tup (ks.map V.int))
def Kt(H:Hp)(k:NK)(b:Xc):Prop:=∃vs,H b=Z (.tup vs)/\NA (Kt1 H) k vs
theorem Kt.keeps{k:NK}(x:Kt H k b)(j:∀b ys,H b=Z (.tup ys)->H' b=Z (.tup ys)):Kt H' k b:=by
 obtain⟨vs,e,p⟩:=x;refine⟨vs,j _ _ e,WU p λq v z=>?_⟩
 cases q with
 |inl i=>exact z
 |inr ks=>obtain⟨c,e,q⟩:=z;exact⟨c,e,j _ _ q⟩
end
namespace Mi
variable{a p:Xc}{K:Frag}{H H':Hp}{xs vs:List V}{i:Nat}{v:V}{σ:St}{ho:HO}{X:Cx}{e:Expr}
section
inductive D where
 |non|bl (b:Bool)|int (i:Int)|str (x:Str)|tup (ds:List D)|con (ds:List D)|ref (a:Xc)|fn (x:Str)
inductive O where
 |lst (ds:List D)
 |dct (t:Bool) (kvs:List (D×D))
 |fdc (kvs:List (D×D))
 |dcn (kvs:List (NK×D))
 |fdn (kvs:List (NK×D))
 |tab (pos:Pos) (q:Str)
noncomputable abbrev Mem:=Xc->Option O
noncomputable def fz:Option O->Bool
 |some (.lst _)=>N2
 |some (.dct _ _)=>N2
 |some (.dcn _)=>N2
 |some (.tab _ _)=>N2
 |_=>F2
noncomputable abbrev au:=List (Option D)
noncomputable def ag(M:Mem)(a:Xc)(o:O):Mem:=λb=>if b=a then Z o else M b
theorem ab{M:Mem}{o:O}:ag M a o a=Z o:=by unfold ag;rw[if_pos rfl]
theorem aC{M:Mem}{b:Xc}{o:O}(h:b≠a):ag M a o b=M b:=by unfold ag;rw[if_neg h]
def SqF(K:Frag)(H:Hp)(a:Xc)(xs:List V):Prop:=
 (∃o,H a=Z (.frz o (.lst xs))) ∨
  ∃(o:Obj) (its:Array i0) (n:Nat),K.lookup a=Z o/\o.cls=.type "list"/\o.dict=Y/\o.data=.seq its n/\its.size<=LK/\Vals xs its.toList
theorem SqF.sq(h:SqF K H a xs):SqL K H a xs:=by
 rcases h with⟨o,h⟩|h
 ·exact .inl (.inr ⟨o,h⟩)
 ·exact .inr h
noncomputable def fk2:Bool:=F2
noncomputable def fk3:Bool:=N2
noncomputable def fk:List D->Bool
 |[.int _,.int _,.int _]=>F2
 |[.tup _,_]=>F2
 |[.int _,_]=>fk2
 |[]=>N2
 |_=>fk3
def TupR(K:Frag)(H:Hp)(ds:List D)(a:Xc)(vs:List V):Prop:=H a=Z (.tup vs)∨(fk ds=N2/\SqT K H a vs)
theorem TupR.sq{ds:List D}(h:TupR K H ds a vs):SqT K H a vs:=h.elim SqT.of (·.2)
mutual
noncomputable def RD(K:Frag)(H:Hp):D->V->Prop
 |.non,v=>v=.non
 |.bl b,v=>v=.bl b
 |.int i,v=>v=.int i
 |.str x,v=>v=.str x
 |.tup ds,v=>∃a vs,v=.ref a/\TupR K H ds a vs/\RDs K H ds vs
 |.con ds,v=>∃a vs,v=.ref a/\SqF K H a vs/\RDs K H ds vs
 |.ref a,v=>v=.ref a
 |.fn x,v=>∃f,v=.ref f/\S9 K Nw x=Z (Z (.ref f))
noncomputable def RDs(K:Frag)(H:Hp):List D->List V->Prop
 |[],vs=>vs=[]
 |d::ds,vs=>∃v r,vs=v::r/\RD K H d v/\RDs K H ds r
end
structure Stab(H H':Hp):Prop where
 tup:∀a xs,H a=Z (.tup xs)->H' a=Z (.tup xs)
 frz:∀a o u,H a=Z (.frz o u)->H' a=Z (.frz o u)
theorem Stab.sqT(st:Stab H H')(h:SqT K H a xs):SqT K H' a xs:=by
 rcases h with(h|⟨o,h⟩)|h
 ·exact .inl (.inl (st.tup _ _ h))
 ·exact .inl (.inr ⟨o,st.frz _ _ _ h⟩)
 ·exact .inr h
theorem Stab.sqF(st:Stab H H')(h:SqF K H a xs):SqF K H' a xs:=by
 rcases h with⟨o,h⟩|h
 ·exact .inl ⟨o,st.frz _ _ _ h⟩
 ·exact .inr h
mutual
theorem RD.mono{K:Frag}{H H':Hp}(st:Stab H H'):∀{d:D} {v:V},RD K H d v->RD K H' d v
 |.non,_,h=>h
 |.bl _,_,h=>h
 |.int _,_,h=>h
 |.str _,_,h=>h
 |.tup ds,v,h=>by unfold RD at h⊢;obtain⟨a,vs,e,q,r⟩:=h;exact⟨a,vs,e,q.imp (st.tup _ _) (λz=>⟨z.1,st.sqT z.2⟩),RDs.mono st r⟩
 |.con ds,v,h=>by unfold RD at h⊢;obtain⟨a,vs,e,q,r⟩:=h;exact⟨a,vs,e,st.sqF q,RDs.mono st r⟩
 |.ref _,_,h=>h
 |.fn _,_,h=>by unfold RD at h⊢;exact h
theorem RDs.mono{K:Frag}{H H':Hp}(st:Stab H H'):∀{ds:List D} {vs:List V},RDs K H ds vs->RDs K H' ds vs
 |[],_,h=>h
 |d::ds,vs,h=>by unfold RDs at h⊢;obtain⟨v,r,e,h1,h2⟩:=h;exact⟨v,r,e,RD.mono st h1,RDs.mono st h2⟩
end
section
variable{K:Frag}{H H':Hp}
theorem WQ{i:Int}:RD K H (.int i) v↔v=.int i:=by unfold RD;exact Vs
theorem WT{b:Bool}:RD K H (.bl b) v↔v=.bl b:=by unfold RD;exact Vs
theorem WX:RD K H .non v↔v=.non:=by unfold RD;exact Vs
theorem WY{x:Str}:RD K H (.str x) v↔v=.str x:=by unfold RD;exact Vs
theorem WR:RD K H (.ref a) v↔v=.ref a:=by unfold RD;exact Vs
theorem X3{ds:List D}:RD K H (.tup ds) v↔∃a vs,v=.ref a/\TupR K H ds a vs/\RDs K H ds vs:=by rw[RD]
theorem WZ{ds:List D}(h:∃a vs,v=.ref a/\H a=Z (.tup vs)/\RDs K H ds vs):RD K H (.tup ds) v:=X3.mpr (let⟨a,vs,e,h,r⟩:=h; ⟨a,vs,e,.inl h,r⟩)
theorem WW{ds:List D}(h:RD K H (.tup ds) v):∃a vs,v=.ref a/\SqT K H a vs/\RDs K H ds vs:=let⟨a,vs,e,h,r⟩:=X3.mp h; ⟨a,vs,e,h.sq,r⟩
theorem Xb{ds:List D}(f:fk ds=F2)(h:RD K H (.tup ds) v):∃a vs,v=.ref a/\H a=Z (.tup vs)/\RDs K H ds vs:=let⟨a,vs,e,h,r⟩:=X3.mp h; ⟨a,vs,e,h.elim id λz=>(by rw[f]at z;cases z.1),r⟩
theorem WV{ds:List D}:RD K H (.con ds) v↔∃a vs,v=.ref a/\SqF K H a vs/\RDs K H ds vs:=by rw[RD]
theorem RDs.nil_iff:RDs K H [] vs↔vs=[]:=by rw[RDs]
theorem WS{d:D}{ds:List D}:RDs K H (d::ds) vs↔∃v r,vs=v::r/\RD K H d v/\RDs K H ds r:=by rw[RDs]
theorem RDs.nil:RDs K H [] []:=RDs.nil_iff.mpr rfl
theorem RDs.cons{d:D}{ds:List D}{v:V}{vs:List V}(h:RD K H d v)(r:RDs K H ds vs):RDs K H (d::ds) (v::vs):=WS.mpr ⟨v,vs,rfl,h,r⟩
theorem RDs.length:∀{ds:List D} {vs:List V},RDs K H ds vs->vs.length=ds.length
 |[],_,h=>by rw[RDs.nil_iff.mp h];rfl
 |d::ds,_,h=>by obtain⟨v,r,rfl,_,h2⟩:=WS.mp h;simp[RDs.length h2]
theorem RDs.get:∀{ds:List D} {vs:List V} {i:Nat} {d:D},RDs K H ds vs->ds[i]?=Z d->∃v,vs[i]?=Z v/\RD K H d v
 |[],_,_,_,_,e=>by simp at e
 |d::ds,_,0,d',h,e=>by obtain⟨v,r,rfl,h1,h2⟩:=WS.mp h;simp at e;subst e;exact⟨v,rfl,h1⟩
 |d::ds,_,i+1,d',h,e=>by
  obtain⟨v,r,rfl,h1,h2⟩:=WS.mp h;obtain⟨u,j,z⟩:=RDs.get (i:=i) (d:=d') h2 (by simpa using e)
  exact⟨u,by simpa using j,z⟩
theorem RDs.getV{ds:List D}(h:RDs K H ds vs)(e:vs[i]?=Z v):∃d,ds[i]?=Z d/\RD K H d v:=by
 have B:=h.length;have hi:i<vs.length:=(LP.mp e).1;obtain⟨d,hd⟩:∃d,ds[i]?=Z d:=⟨ds[i]'∅,z0 ∅⟩
 obtain⟨u,j,z⟩:=h.get hd;rw[e]at j;cases j;exact⟨d,hd,z⟩
theorem RDs.append:∀{ds es:List D} {vs us:List V},RDs K H ds vs->RDs K H es us->RDs K H (ds++es) (vs++us)
 |[],_,_,_,h,q=>by rw[RDs.nil_iff.mp h];exact q
 |d::ds,_,_,_,h,q=>by obtain⟨v,r,rfl,h1,h2⟩:=WS.mp h;exact RDs.cons h1 (RDs.append h2 q)
theorem RDs.take:∀{ds:List D} {vs:List V} (n:Nat),RDs K H ds vs->RDs K H (ds.take n) (vs.take n)
 |[],_,n,h=>by rw[RDs.nil_iff.mp h];simp;exact RDs.nil
 |_::_,_,0,h=>by simp;exact RDs.nil
 |d::ds,_,n+1,h=>by obtain⟨v,r,rfl,h1,h2⟩:=WS.mp h;exact RDs.cons h1 (RDs.take n h2)
theorem RDs.drop:∀{ds:List D} {vs:List V} (n:Nat),RDs K H ds vs->RDs K H (ds.drop n) (vs.drop n)
 |[],_,n,h=>by rw[RDs.nil_iff.mp h];simp;exact RDs.nil
 |d::ds,_,0,h=>h
 |d::ds,_,n+1,h=>by obtain⟨v,r,rfl,h1,h2⟩:=WS.mp h;exact RDs.drop n h2
theorem RDs.set:∀{ds:List D} {vs:List V} (n:Nat) {d:D} {v:V},RD K H d v->RDs K H ds vs->RDs K H (ds.set n d) (vs.set n v)
 |[],_,n,_,_,_,h=>by rw[RDs.nil_iff.mp h];exact RDs.nil
 |d::ds,_,0,_,_,q,h=>by obtain⟨v,r,rfl,h1,h2⟩:=WS.mp h;exact RDs.cons q h2
 |d::ds,_,n+1,_,_,q,h=>by obtain⟨v,r,rfl,h1,h2⟩:=WS.mp h;exact RDs.cons h1 (RDs.set n q h2)
theorem RDs.reverse{ds:List D}(h:RDs K H ds vs):RDs K H ds.reverse vs.reverse:=by
 induction ds generalizing vs with
 |nil=>rw[RDs.nil_iff.mp h];exact RDs.nil
 |cons d ds ih=>obtain⟨v,r,rfl,h1,h2⟩:=WS.mp h;rw[Qo,Qo];exact(ih h2).append (RDs.cons h1 RDs.nil)
theorem RDs.rep{ds:List D}(h:RDs K H ds vs):∀k:Nat,RDs K H (D1 k ds).flatten (D1 k vs).flatten
 |0=>RDs.nil
 |k+1=>by rw[Nk,Nk,Nr,Nr];exact h.append (h.rep k)
theorem X6:∀(ns:List Int),RDs K H (ns.map D.int) (ns.map V.int)
 |[]=>RDs.nil
 |n::ns=>RDs.cons (WQ.mpr rfl) (X6 ns)
end
mutual
noncomputable def D.eqb:D->D->Bool
 |.non,.non=>F2
 |.bl a,.bl b=>a==b
 |.int a,.int b=>decide (a=b)
 |.str a,.str b=>decide (a=b)
 |.tup a,.tup b=>D.eqbs a b
 |.con a,.con b=>D.eqbs a b
 |.ref a,.ref b=>decide (a=b)
 |.fn a,.fn b=>decide (a=b)
 |_,_=>N2
noncomputable def D.eqbs:List D->List D->Bool
 |[],[]=>F2
 |a::r,b::s=>D.eqb a b&&D.eqbs r s
 |_,_=>N2
end
mutual
theorem Xa:∀(a b:D),D.eqb a b=F2->a=b
 |.non,b,h=>by cases b<;>first|rfl|cases h
 |.bl a,b,h=>by cases b<;>first|exact congrArg D.bl (Pj h)|cases h
 |.int a,b,h=>by cases b<;>first|exact congrArg D.int (of_decide_eq_true h)|cases h
 |.str a,b,h=>by cases b<;>first|exact congrArg D.str (of_decide_eq_true h)|cases h
 |.tup a,b,h=>by cases b<;>first|exact congrArg D.tup (X4 a _ h)|cases h
 |.con a,b,h=>by cases b<;>first|exact congrArg D.con (X4 a _ h)|cases h
 |.ref a,b,h=>by cases b<;>first|exact congrArg D.ref (of_decide_eq_true h)|cases h
 |.fn a,b,h=>by cases b<;>first|exact congrArg D.fn (of_decide_eq_true h)|cases h
theorem X4:∀(a b:List D),D.eqbs a b=F2->a=b
 |[],b,h=>by cases b<;>first|rfl|cases h
 |a::r,b,h=>by
  cases b with
  |nil=>cases h
  |cons b s=>have h:=(r0 _ _).mp h;rw[Xa a b h.1,X4 r s h.2]
end
mutual
theorem X7:∀(a:D),D.eqb a a=F2
 |.non=>rfl
 |.bl a=>beq_self_eq_true a
 |.int _=>decide_eq_true rfl
 |.str _=>decide_eq_true rfl
 |.tup a=>X0 a
 |.con a=>X0 a
 |.ref _=>decide_eq_true rfl
 |.fn _=>decide_eq_true rfl
theorem X0:∀(a:List D),D.eqbs a a=F2
 |[]=>rfl
 |a::r=>(r0 _ _).mpr ⟨X7 a,X0 r⟩
end
noncomputable instance:DecidableEq D:=λa b=>if h:D.eqb a b=F2 then isTrue (Xa a b h)else isFalse λe=>h (by rw[e];exact X7 b)
noncomputable def RKey:D->Key->Prop
 |.int i,k=>k=.inl i
 |.str x,k=>k=.inr x
 |_,_=>False
noncomputable def RKeys:D->List Key->Prop
 |.tup ds,ks=>NA RKey ds ks
 |_,_=>False
noncomputable def dget(kvs:List (D×D))(k:D):Option D:=(kvs.find? λp=>decide (p.1=k)).map (·.2)
noncomputable def fq(kvs:List (D×D))(k v:D):List (D×D):=if(kvs.any λp=>decide (p.1=k))=F2 then kvs.map (λp=>if p.1=k then(p.1,v)else p)else kvs++[(k,v)]
noncomputable def fY:D->Bool
 |.int _=>F2
 |.str _=>F2
 |_=>N2
noncomputable def ed:D->Bool
 |.tup ds=>ds.all fY&&fk ds
 |_=>N2
noncomputable def eN(t:Bool)(k:D):Bool:=if t then ed k else fY k
theorem pE{k:D}(h:fY k=F2):∃q,RKey k q:=by cases k<;>first|(simp[fY]at h;done)|exact⟨_,rfl⟩
theorem rX:∀{ds:List D},ds.all fY=F2->∃ks,NA RKey ds ks
 |[],_=>⟨[],.nil⟩
 |d::ds,h=>by simp only[OG,r0]at h;obtain⟨k,j⟩:=pE h.1;obtain⟨ks,hs⟩:=rX h.2;exact⟨k::ks,.cons j hs⟩
theorem rY{k:D}(h:ed k=F2):∃q,RKeys k q:=by cases k<;>first|(simp[ed]at h;done)|exact rX (RG.mp h).1
theorem rZ{ds:List D}(h:ed (.tup ds)=F2):fk ds=F2:=(RG.mp h).2
noncomputable def RO(K:Frag)(H:Hp)(a:Xc):O->Prop
 |.lst ds=>∃vs,H a=Z (.lst vs)/\RDs K H ds vs
 |.dct N2 kvs=>∃ps,H a=Z (.dK ps)/\NA (λ(p:D×D) (q:Key×V)=>RKey p.1 q.1/\RD K H p.2 q.2) kvs ps
 |.dct F2 kvs=>∃ps,H a=Z (.dT ps)/\NA (λ(p:D×D) (q:List Key×V)=>RKeys p.1 q.1/\RD K H p.2 q.2) kvs ps
 |.fdc kvs=>∃o ps,H a=Z (.frz o (.dT ps))/\NA (λ(p:D×D) (q:List Key×V)=>RKeys p.1 q.1/\RD K H p.2 q.2) kvs ps
 |.dcn kvs=>∃xs,H a=Z (.ext (Az a xs))/\NA (λ(p:NK×D) (q:NK×Xc×i0)=>p.1=q.1/\Kt H q.1 q.2.1/\∃v,RelV v q.2.2/\RD K H p.2 v) kvs xs
 |.fdn kvs=>∃o xs,H a=Z (.frz o (.ext (Az a xs)))/\NA (λ(p:NK×D) (q:NK×Xc×i0)=>p.1=q.1/\Kt H q.1 q.2.1/\∃v,RelV v q.2.2/\RD K H p.2 v) kvs xs
 |.tab pos q=>pC H a pos q
def RM(K:Frag)(M:Mem)(H:Hp):Prop:=∀a o,M a=Z o->RO K H a o
def RS(K:Frag)(H:Hp)(σ:St)(ρ:au):Prop:=σ.length=ρ.length/\∀(i:Nat) (d:D),ρ[i]?=Z (Z d)->∃v,σ[i]?=Z (Z v)/\RD K H d v
structure Ext(M:Mem)(H:Hp)(M':Mem)(H':Hp):Prop where
 kp:∀a o,fz (M a)=F2->H a=Z o->H' a=Z o
 nw:∀a o,fz (M a)=F2->H a=Z o->M' a=M a
section
variable{K:Frag}{M M' M'':Mem}{H H' H'':Hp}
theorem Ext.keep(x:Ext M H M' H')(a:Xc)(o:HO)(n:M a=Y)(e:H a=Z o):H' a=Z o:=x.kp a o (by rw[n];rfl) e
theorem Ext.new(x:Ext M H M' H')(a:Xc)(o:HO)(n:M a=Y)(e:H a=Z o):M' a=Y:=(x.nw a o (by rw[n];rfl) e).trans n
theorem Ext.refl:Ext M H M H:=⟨λ_ _ _ h=>h,λ_ _ _ _=>rfl⟩
theorem Ext.trans(a:Ext M H M' H')(b:Ext M' H' M'' H''):Ext M H M'' H'':=⟨λc o n h=>b.kp c o (by rw[a.nw c o n h];exact n) (a.kp c o n h),λc o n h=>(b.nw c o (by rw[a.nw c o n h];exact n) (a.kp c o n h)).trans (a.nw c o n h)⟩
theorem RM.mut(r:RM K M H){o:O}(h:M a=Z o):∃ho,H a=Z ho/\(∀xs,ho≠.tup xs)/\(fz (Z o)=N2->∀ob u,ho≠.frz ob u):=by
 have q:=r a o h
 cases o with
 |lst ds=>obtain⟨vs,e,_⟩:=q;exact⟨_,e,λ_ z=>(by cases z),λ_ _ _ z=>(by cases z)⟩
 |dct t kvs=>
  cases t with
  |false=>obtain⟨ps,e,_⟩:=q;exact⟨_,e,λ_ z=>(by cases z),λ_ _ _ z=>(by cases z)⟩
  |true=>obtain⟨ps,e,_⟩:=q;exact⟨_,e,λ_ z=>(by cases z),λ_ _ _ z=>(by cases z)⟩
 |fdc kvs=>obtain⟨ob,ps,e,_⟩:=q;exact⟨_,e,λ_ z=>(by cases z),λz=>(by cases z)⟩
 |fdn kvs=>obtain⟨ob,ps,e,_⟩:=q;exact⟨_,e,λ_ z=>(by cases z),λz=>(by cases z)⟩
 |dcn kvs=>obtain⟨xs,e,_⟩:=q;exact⟨_,e,λ_ z=>(by cases z),λ_ _ _ z=>(by cases z)⟩
 |tab pos u=>obtain⟨ps,e,_⟩:=q;exact⟨_,e,λ_ z=>(by cases z),λ_ _ _ z=>(by cases z)⟩
theorem RM.fzT(r:RM K M H)(e:H a=Z (.tup xs)):M a=Y:=by
 cases q:M a with
 |none=>rfl
 |some o=>obtain⟨ho,j,z,_⟩:=r.mut q;rw[e]at j;cases j;exact absurd rfl (z xs)
theorem RM.fzF(r:RM K M H){ob:Obj}{u:HO}(e:H a=Z (.frz ob u)):fz (M a)=F2:=by
 cases q:M a with
 |none=>rfl
 |some o=>
  obtain⟨ho,j,_,B⟩:=r.mut q;rw[e]at j;cases j
  cases z:fz (Z o)with
  |true=>rfl
  |false=>exact absurd rfl (B z ob u)
theorem RM.out(r:RM K M H)(h:H a=Y):M a=Y:=by
 cases e:M a with
 |none=>rfl
 |some o=>obtain⟨ho,q,_⟩:=r.mut e;rw[h]at q;cases q
theorem Ext.stab(r:RM K M H)(x:Ext M H M' H'):Stab H H' where
 tup:=λa xs e=>x.keep a _ (r.fzT e) e
 frz:=λa o u e=>x.kp a _ (r.fzF e) e
theorem RS.mono(st:Stab H H'){ρ:au}(h:RS K H σ ρ):RS K H' σ ρ:=⟨h.1,λi d e=>let⟨v,q,r⟩:=h.2 i d e; ⟨v,q,r.mono st⟩⟩
theorem RS.set{ρ:au}(h:RS K H σ ρ)(i:Nat){d:D}(r:RD K H d v):RS K H (σ.set i (Z v)) (ρ.set i (Z d)):=by
 refine⟨by simp[h.1],λj e q=>?_⟩
 by_cases hij:i=j
 ·subst hij;have hi:i<ρ.length:=by
   have:=(LP.mp q).1;simpa using this
  rw[OU hi]at q
  cases q
  exact⟨v,by rw[OU (by rw[h.1];exact hi)],r⟩
 ·rw[Qr hij]at q⊢;exact h.2 j e q
noncomputable def tU(fr:List (Option Nat))(ρ:au):au:=fr.map λo=>o.bind λj=>(ρ[j]?).join
theorem RS.inh{ρ:au}(h:RS K H σ ρ)(fr:List (Option Nat)):RS K H (inh fr σ) (tU fr ρ):=by
 refine⟨by simp[L2.inh,tU],λi d e=>?_⟩
 unfold tU at e;unfold L2.inh;rw[LQ]at e⊢
 cases q:fr[i]? with
 |none=>rw[q]at e;cases e
 |some o=>
  rw[q]at e
  cases o with
  |none=>cases e
  |some j=>
   have e':Z ((ρ[j]?).join)=Z (Z d):=e
   cases q':ρ[j]? with
   |none=>rw[q']at e';cases e'
   |some w=>
    rw[q']at e'
    cases e'
    obtain⟨v,v1,v2⟩:=h.2 j d q';exact⟨v,by simp[v1],v2⟩
theorem RO.mono(st:Stab H H'){o:O}(h:RO K H a o)(e:∀ho,H a=Z ho->H' a=Z ho):RO K H' a o:=by
 cases o with
 |lst ds=>obtain⟨vs,q,r⟩:=h;exact⟨vs,e _ q,r.mono st⟩
 |dct t kvs=>
  cases t with
  |false=>obtain⟨ps,q,r⟩:=h;exact⟨ps,e _ q,WU r λ_ _ z=>⟨z.1,z.2.mono st⟩⟩
  |true=>obtain⟨ps,q,r⟩:=h;exact⟨ps,e _ q,WU r λ_ _ z=>⟨z.1,z.2.mono st⟩⟩
 |fdc kvs=>obtain⟨ob,ps,q,r⟩:=h;exact⟨ob,ps,e _ q,WU r λ_ _ z=>⟨z.1,z.2.mono st⟩⟩
 |fdn kvs=>obtain⟨ob,xs,q,r⟩:=h;exact⟨ob,xs,e _ q,WU r λ_ _ j=>(by obtain⟨B,F,v,G,J⟩:=j;exact⟨B,F.keeps st.tup,v,G,J.mono st⟩)⟩
 |dcn kvs=>obtain⟨xs,q,r⟩:=h;exact⟨xs,e _ q,WU r λ_ _ j=>(by obtain⟨B,F,v,G,J⟩:=j;exact⟨B,F.keeps st.tup,v,G,J.mono st⟩)⟩
 |tab pos u=>obtain⟨ps,L,U⟩:=h;exact⟨ps,e _ L,U.imp_right λj=>(by obtain⟨c',oc,vs,t,B,F,G⟩:=j;exact⟨c',oc,vs,t,B,st.frz _ _ _ F,G⟩)⟩
theorem RM.new(r:RM K M H)(n:H p=Y):RM K M (upd H p ho):=λa o e=>by
 have ne:a≠p:=λz=>by subst z;obtain⟨_,q,_⟩:=r.mut e;rw[n]at q;cases q
 refine(r a o e).mono ⟨λb xs q=>?_,λb o u q=>?_⟩ λj q=>by rw[ao ne];exact q
 ·rw[ao (bb q n)];exact q
 ·rw[ao (bb q n)];exact q
theorem X1(n:H p=Y):Ext M H M (upd H p ho):=⟨λa o _ e=>by rw[ao (bb e n)];exact e,λ_ _ _ _=>rfl⟩
theorem RM.lay{o:O}(r:RM K M H)(n:H p=Y)(h:RO K (upd H p ho) p o):RM K (ag M p o) (upd H p ho):=λa o' e=>by
 by_cases z:a=p
 ·subst z;rw[ab]at e;cases e;exact h
 ·rw[aC z]at e;exact r.new n a o' e
theorem Ext.lay{o:O}(n:H p=Y):Ext M H (ag M p o) (upd H p ho):=⟨λa u _ e=>by rw[ao (bb e n)];exact e,λa u m e=>by rw[aC (bb e n)]⟩
theorem RM.put{o o0:O}(r:RM K M H)(m:M p=Z o0)(h:RO K (upd H p ho) p o)(w:fz (Z o0)=N2:=by rfl):RM K (ag M p o) (upd H p ho):=λa o' e=>by
 by_cases z:a=p
 ·subst z;rw[ab]at e;cases e;exact h
 ·rw[aC z]at e;obtain⟨J,j,B,F⟩:=r.mut m;refine(r a o' e).mono ⟨λb xs q=>?_,λb o u q=>?_⟩ λG q=>by rw[ao z];exact q
  ·rw[ao (λz=>by subst z;rw[j]at q;cases q;exact B xs rfl)];exact q
  ·rw[ao (λz=>by subst z;rw[j]at q;cases q;exact F w o u rfl)];exact q
theorem Ext.put{o o0:O}(m:M p=Z o0)(w:fz (Z o0)=N2:=by rfl):Ext M H (ag M p o) (upd H p ho):=⟨λa u n e=>by rw[ao (λz=>by subst z;rw[m,w]at n;cases n)];exact e,λa u n e=>aC (λz=>by subst z;rw[m,w]at n;cases n)⟩
theorem RM.stabPut{o0:O}(r:RM K M H)(m:M p=Z o0)(w:fz (Z o0)=N2:=by rfl):Stab H (upd H p ho):=(Ext.put (o:=o0) (ho:=ho) m w).stab r
end
noncomputable abbrev QD:=D->Mem->Prop
noncomputable abbrev TEd:=au->Mem->QD->Prop
noncomputable abbrev TTd:=au->Mem->(Bool->Mem->Prop)->Prop
noncomputable abbrev TAd:=au->Mem->(List D->Mem->Prop)->Prop
structure bW where
 nx:au->Mem->Prop
 rt:QD
 bk:au->Mem->Prop:=λ_ _=>False
 ct:au->Mem->Prop:=λ_ _=>False
noncomputable abbrev TSd:=bW->au->Mem->Prop
def ad(T:TEd):Prop:=∀ρ M Q Q',(∀d M',Q d M'->Q' d M')->T ρ M Q->T ρ M Q'
def aO(T:TTd):Prop:=∀ρ M Q Q',(∀d M',Q d M'->Q' d M')->T ρ M Q->T ρ M Q'
def aR(T:TAd):Prop:=∀ρ M Q Q',(∀d M',Q d M'->Q' d M')->T ρ M Q->T ρ M Q'
structure LeD(a b:bW):Prop where
 nx:∀ρ M,a.nx ρ M->b.nx ρ M
 rt:∀d M,a.rt d M->b.rt d M
 bk:∀ρ M,a.bk ρ M->b.bk ρ M
 ct:∀ρ M,a.ct ρ M->b.ct ρ M
def aP(T:TSd):Prop:=∀a b ρ M,LeD a b->T a ρ M->T b ρ M
noncomputable def KE'(K:Frag)(M:Mem)(H:Hp)(Q:VK):QD:=λd M'=>∀v H',Ext M H M' H'->RM K M' H'->RD K H' d v->Q v H'
noncomputable def KT'(K:Frag)(M:Mem)(H:Hp)(Q:Bool->Hp->Prop):Bool->Mem->Prop:=λb M'=>∀H',Ext M H M' H'->RM K M' H'->Q b H'
noncomputable def KA'(K:Frag)(M:Mem)(H:Hp)(Q:List V->Hp->Prop):List D->Mem->Prop:=λds M'=>∀vs H',Ext M H M' H'->RM K M' H'->RDs K H' ds vs->Q vs H'
noncomputable def lE(K:Frag)(T:TEd):TE:=λσ H Q=>∃ρ M,RS K H σ ρ/\RM K M H/\T ρ M (KE' K M H Q)
noncomputable def lT(K:Frag)(T:TTd):TT:=λσ H Q=>∃ρ M,RS K H σ ρ/\RM K M H/\T ρ M (KT' K M H Q)
noncomputable def lA(K:Frag)(T:TAd):TA:=λσ H Q=>∃ρ M,RS K H σ ρ/\RM K M H/\T ρ M (KA' K M H Q)
structure Link(K:Frag)(M:Mem)(H:Hp)(a:bW)(b:bP):Prop where
 nx:∀ρ M' σ H',Ext M H M' H'->RS K H' σ ρ->RM K M' H'->a.nx ρ M'->b.nx σ H'
 rt:∀d M' v H',Ext M H M' H'->RM K M' H'->RD K H' d v->a.rt d M'->b.rt v H'
 bk:∀ρ M' σ H',Ext M H M' H'->RS K H' σ ρ->RM K M' H'->a.bk ρ M'->b.bk σ H'
 ct:∀ρ M' σ H',Ext M H M' H'->RS K H' σ ρ->RM K M' H'->a.ct ρ M'->b.ct σ H'
noncomputable def lS(K:Frag)(T:TSd):TS:=λD σ H=>∃ρ M A,RS K H σ ρ/\RM K M H/\Link K M H A D/\T A ρ M
theorem Link.ext{M M':Mem}{a:bW}{b:bP}(l:Link K M H a b)(x:Ext M H M' H'):Link K M' H' a b:=⟨λρ M2 σ H2 y=>l.nx ρ M2 σ H2 (x.trans y),λd M2 v H2 y=>l.rt d M2 v H2 (x.trans y),λρ M2 σ H2 y=>l.bk ρ M2 σ H2 (x.trans y),λρ M2 σ H2 y=>l.ct ρ M2 σ H2 (x.trans y)⟩
theorem PE.imp{t t':TE}(h:PE X e t)(i:∀σ H Q,t' σ H Q->t σ H Q):PE X e t':=λpins s σ H Q I q=>h pins s σ H Q I (i _ _ _ q)
theorem PT.imp{t t':TT}(h:PT X e t)(i:∀σ H Q,t' σ H Q->t σ H Q):PT X e t':=λpins s σ H Q I q=>h pins s σ H Q I (i _ _ _ q)
theorem PW.imp{t t':TT}(h:PW X e t)(i:∀σ H Q,t' σ H Q->t σ H Q):PW X e t':=λwh pins s σ H Q I q=>h wh pins s σ H Q I (i _ _ _ q)
theorem PA.imp{e:List Expr}{t t':TA}(h:PA X e t)(i:∀σ H Q,t' σ H Q->t σ H Q):PA X e t':=λp pins s σ H Q I q=>h p pins s σ H Q I (i _ _ _ q)
theorem PS.imp{e:Stmt}{t t':TS}(h:PS X e t)(i:∀D σ H,t' D σ H->t D σ H):PS X e t':=λpins s σ H D I q=>h pins s σ H D I (i _ _ _ q)
theorem PSs.imp{e:List Stmt}{t t':TS}(h:PSs X e t)(i:∀D σ H,t' D σ H->t D σ H):PSs X e t':=λpins s σ H D I q=>h pins s σ H D I (i _ _ _ q)
end
variable{M M':Mem}{ds:List D}{d:D}{Q:VK}{ta:TEd}{tr:TAd}{j:Nat}{es:List Expr}
section
theorem KE'.ext{M2:Mem}{H2:Hp}(x:Ext M H M2 H2)(h:KE' K M H Q d M'):KE' K M2 H2 Q d M':=λv H' y=>h v H' (x.trans y)
theorem KT'.ext{M2:Mem}{H2:Hp}{Q:Bool->Hp->Prop}{d:Bool}(x:Ext M H M2 H2)(h:KT' K M H Q d M'):KT' K M2 H2 Q d M':=λH' y=>h H' (x.trans y)
noncomputable abbrev R2d:=D->D->Mem->QD->Prop
noncomputable abbrev R1d:=D->Mem->QD->Prop
noncomputable abbrev RAd:=List D->Mem->QD->Prop
def aK(r:R2d):Prop:=∀x y M Q Q',(∀d M',Q d M'->Q' d M')->r x y M Q->r x y M Q'
def tV(r:R1d):Prop:=∀x M Q Q',(∀d M',Q d M'->Q' d M')->r x M Q->r x M Q'
def aM(r:RAd):Prop:=∀x M Q Q',(∀d M',Q d M'->Q' d M')->r x M Q->r x M Q'
noncomputable def l2(K:Frag)(rd:R2d):R2:=λv u H Q=>∃x y M,RM K M H/\RD K H x v/\RD K H y u/\rd x y M (KE' K M H Q)
noncomputable def l1(K:Frag)(rd:R1d):V->Hp->VK->Prop:=λv H Q=>∃x M,RM K M H/\RD K H x v/\rd x M (KE' K M H Q)
noncomputable def lR(K:Frag)(rd:RAd):List V->Hp->VK->Prop:=λvs H Q=>∃ds M,RM K M H/\RDs K H ds vs/\rd ds M (KE' K M H Q)
noncomputable def lMt(K:Frag)(rd:D->List D->Mem->QD->Prop):V->List V->Hp->VK->Prop:=λv vs H Q=>∃x ds M,RM K M H/\RD K H x v/\RDs K H ds vs/\rd x ds M (KE' K M H Q)
noncomputable def cS(i:Nat):TEd:=λρ M Q=>∃d,ρ[i]?=Z (Z d)/\Q d M
noncomputable def wC(d:D):TEd:=λ_ M Q=>Q d M
noncomputable def wOp(rd:R2d)(ta tb:TEd):TEd:=λρ M Q=>ta ρ M λx M1=>tb ρ M1 λy M2=>rd x y M2 Q
noncomputable def wUn(rd:R1d)(ta:TEd):TEd:=λρ M Q=>ta ρ M λx M1=>rd x M1 Q
noncomputable def aX:TAd:=λ_ M Q=>Q [] M
noncomputable def av(ta:TEd)(tr:TAd):TAd:=λρ M Q=>ta ρ M λx M1=>tr ρ M1 λxs M2=>Q (x::xs) M2
noncomputable def wAr(rd:RAd)(t:TAd):TEd:=λρ M Q=>t ρ M λds M1=>rd ds M1 Q
theorem yG:ad (cS i):=λ_ _ _ _ h j=>(by obtain⟨d,e,q⟩:=j;exact⟨d,e,h _ _ q⟩)
theorem pF:ad (wC d):=λ_ _ _ _ h q=>h _ _ q
theorem fE{rd:R2d}{tb:TEd}(j:aK rd)(z:ad ta)(B:ad tb):ad (wOp rd ta tb):=λρ M Q Q' h q=>z _ _ _ _ (λx J F=>B _ _ _ _ (λy M2 G=>j _ _ _ _ _ h G) F) q
theorem Bn{rd:R1d}(j:tV rd)(z:ad ta):ad (wUn rd ta):=λρ M Q Q' h q=>z _ _ _ _ (λx F B=>j _ _ _ _ h B) q
theorem ar:aR aX:=λ_ _ _ _ h q=>h _ _ q
theorem am(j:ad ta)(z:aR tr):aR (av ta tr):=λρ M Q Q' h q=>j _ _ _ _ (λx G B=>z _ _ _ _ (λxs M2 F=>h _ _ F) B) q
theorem fF{rd:RAd}{t:TAd}(j:aM rd)(z:aR t):ad (wAr rd t):=λρ M Q Q' h q=>z _ _ _ _ (λds F B=>j _ _ _ _ h B) q
section
variable{X:Cx}{a b:Expr}{ta tb:TEd}{pos:Pos}
theorem DN{x:Str}(B:X.N[i]?=Z x)(j:Vis X.env.scope x)(hd:(x==("__debug__":Str))=N2)(z:(x==("__classdict__":Str))=N2):PE X (.Name x pos) (lE X.K (cS i)):=by refine PE.imp (oR B j hd z) λσ H Q h=>?_;obtain⟨ρ,M,rs,rm,d,e,q⟩:=h;obtain⟨v,j,rd⟩:=rs.2 i d e;exact⟨v,j,q v H Ext.refl rm rd⟩
theorem DO{i:Int}:PE X (.Constant (.int i) j pos) (lE X.K (wC (.int i))):=PE.imp D6 λσ H Q g9=>(by obtain⟨ρ,M,rs,rm,q⟩:=g9;exact q _ H Ext.refl rm (WQ.mpr rfl))
theorem FG{i:Bool}:PE X (.Constant (.bool i) j pos) (lE X.K (wC (.bl i))):=PE.imp Fc λσ H Q g9=>(by obtain⟨ρ,M,rs,rm,q⟩:=g9;exact q _ H Ext.refl rm (WT.mpr rfl))
theorem DP:PE X (.Constant .none j pos) (lE X.K (wC .non)):=PE.imp D7 λσ H Q g9=>(by obtain⟨ρ,M,rs,rm,q⟩:=g9;exact q _ H Ext.refl rm (WX.mpr rfl))
theorem il{rd:R2d}(L:aK rd)(ma:ad ta)(mb:ad tb)(σ:St)(H:Hp)(Q:VK)(h:lE K (wOp rd ta tb) σ H Q):tOp (l2 K rd) (lE K ta) (lE K tb) σ H Q:=by obtain⟨ρ,M,rs,rm,q⟩:=h;refine⟨ρ,M,rs,rm,ma _ _ _ _ (λx O U v H1 G j z=>?_) q⟩;refine⟨ρ,O,rs.mono (G.stab rm),j,mb _ _ _ _ (λy M2 Fn u H2 J B F=>?_) U⟩;exact⟨x,y,M2,B,z.mono (J.stab j),F,L _ _ _ _ _ (λd M' k=>k.ext (G.trans J)) Fn⟩
theorem FH{op:Qs}{rd:R2d}(ho:OpR X (O7 op) (l2 X.K rd))(j:aK rd)(ma:ad ta)(mb:ad tb)(z:PE X a (lE X.K ta))(B:PE X b (lE X.K tb)):PE X (.BinOp a op b pos) (lE X.K (wOp rd ta tb)):=PE.imp (Fo ho z B) (il j ma mb)
theorem DQ{op:CmpOp}{rd:R2d}(ho:OpR X (Oy op) (l2 X.K rd))(j:aK rd)(ma:ad ta)(mb:ad tb)(z:PE X a (lE X.K ta))(B:PE X b (lE X.K tb))(hm:QI op b=N2):PE X (.Compare a [op] [b] pos) (lE X.K (wOp rd ta tb)):=PE.imp (B7 ho z B hm) (il j ma mb)
noncomputable def ef(t:TEd):TTd:=λρ M Q=>t ρ M λx M1=>∃k,x=.bl k/\Q k M1
theorem yH{t:TEd}(h:ad t):aO (ef t):=λρ M Q Q' i q=>h _ _ _ _ (λx B j=>(by obtain⟨k,e,z⟩:=j;exact⟨k,e,i _ _ z⟩)) q
theorem yI{t:TEd}(m:ad t)(σ:St)(H:Hp)(Q:Bool->Hp->Prop)(h:lT K (ef t) σ H Q):Aq (lE K t) σ H Q:=by obtain⟨ρ,M,rs,rm,q⟩:=h;refine⟨ρ,M,rs,rm,m _ _ _ _ (λx G g9 v H1 F j z=>?_) q⟩;obtain⟨k,e,B⟩:=g9;subst e;exact⟨k,WT.mp z,B H1 F j⟩
theorem DR{op:CmpOp}{rd:R2d}(ho:OpR X (Oy op) (l2 X.K rd))(j:aK rd)(ma:ad ta)(mb:ad tb)(z:PE X a (lE X.K ta))(B:PE X b (lE X.K tb))(hm:QI op b=N2):
 PT X (.Compare a [op] [b] pos) (lT X.K (ef (wOp rd ta tb))):=
 PT.imp (B8 ho z B hm) λσ H Q h=>by have h1:=yI (fE j ma mb) σ H Q h;exact il j ma mb σ H _ h1
theorem FI{op:UnaryOp}{rd:R1d}(ho:UnR X (unaryOp op) (l1 X.K rd))(B:tV rd)(ma:ad ta)(F:PE X a (lE X.K ta)):PE X (.UnaryOp op a pos) (lE X.K (wUn rd ta)):=PE.imp (Fp ho F) λσ H Q g9=>(by obtain⟨ρ,M,rs,rm,q⟩:=g9;exact⟨ρ,M,rs,rm,ma _ _ _ _ (λx G J v H1 L j z=>⟨x,G,j,z,B _ _ _ _ (λd M' k=>k.ext L) J⟩) q⟩)
theorem FJ{rd:R2d}(ho:IxR X (l2 X.K rd))(j:aK rd)(ma:ad ta)(mb:ad tb)(z:PE X a (lE X.K ta))(B:PE X b (lE X.K tb))(hs:kP b):PE X (.Subscript a b pos) (lE X.K (wOp rd ta tb)):=PE.imp (Fv ho z B hs) (il j ma mb)
theorem cT:PA X [] (lA X.K aX):=PA.imp jr λσ H Q g9=>(by obtain⟨ρ,M,rs,rm,q⟩:=g9;exact q _ H Ext.refl rm RDs.nil)
theorem mG(ma:ad ta)(mr:aR tr)(σ:St)(H:Hp)(Q:List V->Hp->Prop)(h:lA K (av ta tr) σ H Q):tN (lE K ta) (lA K tr) σ H Q:=by obtain⟨ρ,M,rs,rm,q⟩:=h;refine⟨ρ,M,rs,rm,ma _ _ _ _ (λx L O v H1 G j z=>?_) q⟩;refine⟨ρ,L,rs.mono (G.stab rm),j,mr _ _ _ _ (λxs M2 U vs H2 J B F=>?_) O⟩;exact U (v::vs) H2 (G.trans J) B (RDs.cons (z.mono (J.stab j)) F)
theorem bf(ma:ad ta)(mr:aR tr)(j:PE X e (lE X.K ta))(z:PA X es (lA X.K tr))(hs:Mk (e::es) X.env=(N2,eval e X.env)::Mk es X.env):PA X (e::es) (lA X.K (av ta tr)):=PA.imp (dQ j z hs) (mG ma mr)
theorem bF{rd:RAd}{t:TAd}(B:aM rd)(mt:aR t)(σ:St)(H:Hp)(Q:VK)(h:lE K (wAr rd t) σ H Q):tCB (lR K rd) (lA K t) σ H Q:=by obtain⟨ρ,M,rs,rm,q⟩:=h;exact⟨ρ,M,rs,rm,mt _ _ _ _ (λds F G vs H1 J j z=>⟨ds,F,j,z,B _ _ _ _ (λd M' k=>k.ext J) G⟩) q⟩
noncomputable def tW:RAd:=λds M Q=>ds.length<=LK/\Q (.tup ds) M
noncomputable def tX:RAd:=λds M Q=>ds.length<=LK/\∀p,M p=Y->Q (.ref p) (ag M p (.lst ds))
theorem vT:aM tW:=λ_ _ _ _ h j=>(by obtain⟨z,q⟩:=j;exact⟨z,h _ _ q⟩)
theorem vU:aM tX:=λ_ _ _ _ h j=>(by obtain⟨z,q⟩:=j;exact⟨z,λp n=>h _ _ (q p n)⟩)
theorem dR(rm:RM K M H)(rd:RDs K H ds vs)(q:KE' K M H Q (.tup ds) M)(n:H p=Y):Q (.ref p) (upd H p (.tup vs)):=by have x:Ext M H M (upd H p (.tup vs)):=X1 n;exact q (.ref p) _ x (rm.new n) (WZ ⟨p,vs,rfl,aB,rd.mono (x.stab rm)⟩)
theorem cm(rm:RM K M H)(rd:RDs K H ds vs)(q:∀p,M p=Y->KE' K M H Q (.ref p) (ag M p (.lst ds)))(n:H p=Y):Q (.ref p) (upd H p (.lst vs)):=by have x:Ext M H (ag M p (.lst ds)) (upd H p (.lst vs)):=Ext.lay n;have x0:Ext M H M (upd H p (.lst vs)):=X1 n;exact q p (rm.out n) (.ref p) _ x (rm.lay n ⟨vs,aB,rd.mono (x0.stab rm)⟩) (WR.mpr rfl)
theorem DS{t:TAd}{k:Nat}(mt:aR t)(h:PA X es (lA X.K t)):PE X (.Tuple es k pos) (lE X.K (wAr tW t)):=PE.imp (Dy h) λσ H Q B=>(by obtain⟨ρ,M,rs,rm,q⟩:=B;exact⟨ρ,M,rs,rm,mt _ _ _ _ (λds L B vs H1 G F j=>(by obtain⟨z,J⟩:=B;exact⟨by rw[j.length];exact z,λp n=>dR F j (J.ext G) n⟩)) q⟩)
theorem DT{t:TAd}(mt:aR t)(h:PA X es (lA X.K t)):PE X (.List es pos) (lE X.K (wAr tX t)):=PE.imp (Dz h) λσ H Q B=>(by obtain⟨ρ,M,rs,rm,q⟩:=B;exact⟨ρ,M,rs,rm,mt _ _ _ _ (λds L B vs H1 G F j=>(by obtain⟨z,J⟩:=B;exact⟨by rw[j.length];exact z,λp n=>cm F j (λp' n'=>(J p' n').ext G) n⟩)) q⟩)
end
end
end Mi
section
section
variable{X:Cx}
theorem gM:∀{ns:List Int} {ys:List i0},CarriedAll ys (ns.map PyData.int)->Vals (ns.map V.int) ys
 |[],ys,h=>by cases h;exact .nil
 |n::ns,ys,h=>by
  rw[LX]at h
  cases h with
  |cons h1 h2=>
   refine .cons ?_ (gM h2)
   cases h1
   exact⟨_,rfl⟩
end
namespace Mi
end Mi
end
section
theorem j5:fillsNumberSlot (.type "tuple") "mul"=pure N2:=PyProof.Rows.fillsNumberSlot_seq (id:="tuple.__mul__") (r:=Z (.builtin "tuple.__rmul__")) F.slot_tuple_mul.lookup (by decide +kernel) F.slot_tuple_rmul.lookup (by decide +kernel)
theorem pG:seqRepeat? (.type "tuple")=pure (Z (.builtin "tuple.__mul__")):=by
 unfold seqRepeat?;rw[Tc (T:="tuple") (name:="__mul__") (id:="tuple.__mul__") F.slot_tuple_mul.lookup (by decide +kernel),Tc (T:="tuple") (name:="__rmul__") (id:="tuple.__rmul__") F.slot_tuple_rmul.lookup (by decide +kernel)]
 rfl
theorem kS(a:Int)(t:Tok)(l:Xc)(items:Array i0)(n:Nat)(d:Option Xc)(sl:Array (Option i0)):
 Meets (NN.«int.__rmul__» ⟨[.int a t,.ref l],[]⟩) (λ_ R s=>s.heap.get? l=Z {cls:=.type "tuple",dict:=d,data:=.seq items n,slots:=sl}/\R (.ok (.ret Value.notImplemented)) s):=
 .of_wp λprog w A R s h=>by obtain⟨j,g,d,tk,os⟩:=s;obtain⟨z,h⟩:=h;wp_walk;exact⟨_,rfl,h⟩
open AutoSeq1 (wpAny_loadPart') in
theorem vW(l:Xc)(items:Array i0)(n:Nat)(dd:Option Xc)(sl:Array (Option i0))(x:Int)(u:Tok)(h1:-(2^63)<=x)(h2:x<2^63)(B:items.size*x.toNat<=LK):
 Meets (NN.«tuple.__mul__» ⟨[.ref l,.int x u],[]⟩) (λ_ R s=>s.heap.get? l=Z {cls:=.type "tuple",dict:=dd,data:=.seq items n,slots:=sl} /\
  (if items.isEmpty || x==1 then R (.ok (.ret (.ref l))) s else R (.ok (.ret (.ref s.heap.objs.size))) {s with heap:=s.heap.push {cls:=.type "tuple",data:=.seq ((D1 x.toNat items).foldl (· ++ ·) #[])}})):=
 .of_wp λprog w A R s h=>by
  obtain⟨U,g,d,tk,os⟩:=s;obtain⟨j,h⟩:=h;have f1:=AutoSeq1.idx_int;have F:(decide (x < -(2^63)) || decide (x≥2^63))=N2:=by rw[decide_eq_false ∅,decide_eq_false ∅];rfl
  wp_walk using Qc j
  refine Qe (decide_eq_false (by rw[F];decide)) ?_
  dsimp only
  by_cases e1:(items.isEmpty || x==1)=F2
  ·rw[if_pos e1]at h
   wp_walk using Qc j
   exact⟨_,rfl,h⟩
  ·rw[if_neg e1]at h
   wp_walk using Qc j
   simp only[RU,not_or]at e1
   by_cases e2:x<=0
   ·have z:(decide (x<=0) || items.isEmpty)=F2:=by rw[decide_eq_true e2];rfl
    rw[if_pos z];have G:x.toNat=0:=∅
    rw[G]at h
    wp_walk
    exact⟨_,rfl,h⟩
   ·have z:¬(decide (x<=0) || items.isEmpty)=F2:=by simp;exact⟨∅,by simpa using e1.1⟩
    rw[if_neg z];have hx:((items.size:Nat):Int)*x=((items.size*x.toNat:Nat):Int):=by rw[TZ,PF ∅]
    have hs:LK=16777216:=I7;have J:¬((items.size:Nat):Int)*x > (2^63-1) / 8:=by rw[hx];lia
    rw[if_neg J];have L:¬Sr (((items.size:Nat):Int)*x)=F2:=by rw[hx];unfold Sr;intro O;have Fn:=of_decide_eq_true O;lia
    rw[if_neg L]
    wp_walk
    have hsz:((D1 x.toNat items).foldl (· ++ ·) #[]).size<=LK:=by
     have:∀(k:Nat) (a:Array i0),((D1 k items).foldl (· ++ ·) a).size=a.size+items.size*k:=by
      intro k;induction k with
      |zero=>intro a;simp
      |succ k ih=>intro a;rw[Nk,TV,ih,Qp,Nat.mul_succ];lia
     rw[this];simpa using B
    refine Qe (decide_eq_false (Ww.mpr hsz)) ?_
    wp_walk
    exact⟨_,rfl,h⟩
end
section
section
variable{X:Cx}
noncomputable def AA(K:Frag):R2:=λx y H Q=>∃l k xs,x=.ref l/\y=.int k/\SqT K H l xs /\ -(2^63)<=k/\k<2^63/\xs.length*k.toNat<=LK /\
 ((xs=[]∨k=1)->Q (.ref l) H)/\(¬(xs=[]∨k=1)->∀p,H p=Y->Q (.ref p) (upd H p (.tup (D1 k.toNat xs).flatten)))
theorem Bo:OpR X (O7 .Mult) (AA X.K):=by
 intro pins s σ H x y v u Q I rx ry h;obtain⟨l,k,xs,rfl,rfl,G,h1,h2,j,J,L⟩:=h
 cases rx
 obtain⟨t,rfl⟩:=ry;obtain⟨its,r,O,_⟩:=I.tuple G;have Fn:=r.length;obtain⟨⟨cls,dd,dat,sl⟩,e,B,n,hd⟩:=O;dsimp only at B hd;subst B hd;have hlen:its.toArray.size*k.toNat<=LK:=by rw[LN,<-Fn];exact j
 have f0:∀m:Nat,Rp (λfv x2=>fv++x2) #[] (D1 m its.toArray)=(D1 m its).flatten.toArray:=λm=>by have:=gJ its m [];rw[QO]at this;exact this
 refine Sy (T:="tuple") (U:="int") (by decide) ⟨_,e,rfl⟩ (λs'=>Tz s' k t) j5 Wf RN pG F.slot_int_index.lookup
  (Rq RN (Tz s k t) VG (Vj _ _) (kS k t l its.toArray n dd sl)
    ⟨e,rfl,⟨_,e,rfl⟩,Rq F.slot_tuple_mul ⟨_,e,rfl⟩ F.entry_tuple_mul (F.args_tuple_mul_2 _ _) (vW l its.toArray n dd sl k t h1 h2 hlen) ⟨e,?_⟩⟩)
 have hi:(its.toArray.isEmpty || k==1)=F2↔(xs=[]∨k=1):=by rw[<-r.nil_iff];simp
 split
 ·next c=>exact⟨.ref l,H,I,rfl,J (hi.mp c)⟩
 ·next c=>rw[f0];refine⟨.ref s.heap.objs.size,_,I.laid (t':=s.toks) (o:=.tup (D1 k.toNat xs).flatten) (λb ob q=>q7 _ q) (LW _) ?_,rfl,L (λz=>c (hi.mpr z)) _ (I.hok.fresh (LW _))⟩;exact⟨by rw[rS,S2];exact j,_,r.rep k.toNat,Sf _ _⟩
end
end
section
section
variable{X:Cx}
theorem Bp:OpR X (O7 .Add) (λx y H Q=>∃a b ys,x=.ref a/\y=.ref b/\SqT X.K H a []/\SqT X.K H b ys/\Q (.ref b) H):=by
 intro pins s σ H x y v u Q I rx ry h;obtain⟨a,b,ys,rfl,rfl,U,Fn,q⟩:=h
 cases rx
 cases ry
 obtain⟨its,fv,p1,_⟩:=I.tuple U;obtain⟨j,r2,p2,_⟩:=I.tuple Fn;have e0:its=[]:=fv.nil_iff.mpr rfl;obtain⟨⟨cls,dd,data,sl⟩,ho,L,n,hd⟩:=id p1;obtain⟨⟨O,G,data2,J⟩,z,B,n2,hd2⟩:=id p2;simp only at L hd B hd2;subst L hd B hd2;exact Vg ⟨_,ho,rfl⟩ ⟨_,z,rfl⟩ T7 UG R6 QY (QJ _ _)
  (tuple_addW0 a b its.toArray j.toArray n n2 dd G sl J (by simp[e0])) ⟨ho,z,⟨.ref b,H,I,rfl,q⟩⟩
end
end
namespace Mi
variable{K:Frag}{M:Mem}{H:Hp}{Q:VK}{v:V}
section
def MulOk(i j:Int):Prop:=(-(2^64)<i/\i<2^64)∨(-(2^64)<j/\j<2^64)∨(QC i<=2^20/\QC j<=2^20)
theorem MulOk.ok{i j:Int}(h:MulOk i j):IntMulOk i j:=by
 rcases h with h|h|h
 ·exact IntMulOk.of_left (intBits_le_64 h.1 h.2)
 ·exact IntMulOk.of_right (intBits_le_64 h.1 h.2)
 ·exact IntMulOk.of_bits h.1 h.2
noncomputable def fu:R2d
 |.int i,.int j,M,Q=>Q (.int (i+j)) M
 |.tup a,.tup b,M,Q=>(a≠[]∨True)/\a.length+b.length<=LK/\Q (.tup (a++b)) M
 |.ref a,.ref b,M,Q=>∃xs ys,M a=Z (.lst xs)/\M b=Z (.lst ys)/\xs.length+ys.length<=LK/\∀p,M p=Y->Q (.ref p) (ag M p (.lst (xs++ys)))
 |.str x,.str y,M,Q=>x.length+y.length<=LK/\Q (.str (x++y)) M
 |_,_,_,_=>False
noncomputable def kT:R2d
 |.int i,.int j,M,Q=>Q (.int (i-j)) M
 |_,_,_,_=>False
noncomputable def gN:R2d
 |.int i,.int j,M,Q=>MulOk i j/\Q (.int (i*j)) M
 |.ref a,.int k,M,Q=>∃xs,M a=Z (.lst xs) /\ -(2^63)<=k/\k<2^63/\xs.length*k.toNat<=LK/\∀p,M p=Y->Q (.ref p) (ag M p (.lst (D1 k.toNat xs).flatten))
 |.tup ds,.int k,M,Q=>-(2^63)<=k/\k<2^63/\ds.length*k.toNat<=LK/\Q (.tup (D1 k.toNat ds).flatten) M
 |_,_,_,_=>False
noncomputable def jE:R2d
 |.int i,.int j,M,Q=>0<j/\j<2^256/\Q (.int (i / j)) M
 |_,_,_,_=>False
noncomputable def pH:R2d
 |.int i,.int j,M,Q=>0<j/\Q (.int (i%j)) M
 |_,_,_,_=>False
noncomputable def pI:R2d
 |.int i,.int j,M,Q=>0<=j/\j<=1000000/\i.natAbs<2^64/\Q (.int (i^j.toNat)) M
 |_,_,_,_=>False
theorem pJ:aK fu:=by
 intro x y M Q Q' h q
 cases x<;>cases y<;>first
  |exact q.elim
  |exact h _ _ q
  |exact⟨q.1,h _ _ q.2⟩
  |exact⟨q.1,q.2.1,h _ _ q.2.2⟩
  |(obtain⟨xs,ys,e1,e2,z,q⟩:=q;exact⟨xs,ys,e1,e2,z,λp n=>h _ _ (q p n)⟩)
theorem yJ:aK kT:=by
 intro x y M Q Q' h q
 cases x<;>cases y<;>first|exact q.elim|exact h _ _ q
theorem yK:aK gN:=by
 intro x y M Q Q' h q
 cases x<;>cases y<;>first
  |exact q.elim
  |exact⟨q.1,h _ _ q.2⟩
  |exact⟨q.1,q.2.1,q.2.2.1,h _ _ q.2.2.2⟩
  |(obtain⟨xs,e1,j,z,B,q⟩:=q;exact⟨xs,e1,j,z,B,λp n=>h _ _ (q p n)⟩)
theorem vX:aK jE:=by
 intro x y M Q Q' h q
 cases x<;>cases y<;>first|exact q.elim|exact⟨q.1,q.2.1,h _ _ q.2.2⟩
theorem yL:aK pH:=by
 intro x y M Q Q' h q
 cases x<;>cases y<;>first|exact q.elim|exact⟨q.1,h _ _ q.2⟩
theorem yM:aK pI:=by
 intro x y M Q Q' h q
 cases x<;>cases y<;>first|exact q.elim|exact⟨q.1,q.2.1,q.2.2.1,h _ _ q.2.2.2⟩
section
variable{X:Cx}
theorem OpR.of{f:i0->i0->Sem i0}{r r':R2}(h:OpR X f r)(i:∀v u H Q,r' v u H Q->r v u H Q):OpR X f r':=λpins s σ H x y v u Q I rx ry q=>h pins s σ H x y v u Q I rx ry (i _ _ _ _ q)
theorem IxR.of{r r':R2}(h:IxR X r)(i:∀v u H Q,r' v u H Q->r v u H Q):IxR X r':=λa b pins s σ H x y v u Q I rx ry q=>h a b pins s σ H x y v u Q I rx ry (i _ _ _ _ q)
theorem CallR.of{f:i0}{r r':List V->Hp->VK->Prop}(h:CallR X f r)(i:∀vs H Q,r' vs H Q->r vs H Q):CallR X f r':=λpins s σ H xs us Q I rx q=>h pins s σ H xs us Q I rx (i _ _ _ q)
theorem FK{a b:List D}{u:V}(rm:RM K M H)(rx:RD K H (.tup a) v)(ry:RD K H (.tup b) u)(q:fu (.tup a) (.tup b) M (KE' K M H Q)):Au K v u H Q∨∃a b ys,v=.ref a/\u=.ref b/\SqT K H a []/\SqT K H b ys/\Q (.ref b) H:=by
 obtain⟨a',vs,rfl,z,j⟩:=WW rx;obtain⟨b',us,rfl,B,F⟩:=WW ry;obtain⟨_,J,q⟩:=q;have l1:=j.length;have l2:=F.length
 by_cases G:a=[]
 ·subst G;have:vs=[]:=RDs.nil_iff.mp j;subst this;exact .inr ⟨a',b',us,rfl,rfl,z,B,q _ H Ext.refl rm ry⟩
 refine .inl ⟨a',b',vs,us,rfl,rfl,z,B,λe=>G (MZ.mp (by rw[<-l1,e];rfl)),∅,λe=>?_,λ_ p n=>dR rm (j.append F) q n⟩
 have eb:b=[]:=MZ.mp (by rw[<-l2,e];rfl)
 subst eb;rw[Np]at q;exact q _ H Ext.refl rm rx
theorem pK:OpR X (O7 .Add) (l2 X.K fu):=by
 refine OpR.of (op_add.or ((op_catT.or Bp).or (op_cat.or tM))) λv u H Q h=>?_;obtain⟨x,y,M,rm,rx,ry,q⟩:=h
 cases x<;>cases y<;>first
  |exact q.elim
  |(cases WQ.mp rx;cases WQ.mp ry;exact .inl ⟨_,_,rfl,rfl,q _ H Ext.refl rm (WQ.mpr rfl)⟩)
  |exact .inr (.inl (FK rm rx ry q))
  | (cases WR.mp rx;cases WR.mp ry
     obtain⟨xs,ys,e1,e2,z,q⟩:=q;obtain⟨vs,h1,j⟩:=rm _ _ e1;obtain⟨us,h2,B⟩:=rm _ _ e2;have l1:=j.length;have l2:=B.length;refine .inr (.inr (.inl ⟨_,_,vs,us,rfl,rfl,h1,h2,∅,λp n=>cm rm (j.append B) q n⟩)))
  |(cases WY.mp rx;cases WY.mp ry;exact .inr (.inr (.inr ⟨_,_,rfl,rfl,q.1,q.2 _ H Ext.refl rm (WY.mpr rfl)⟩)))
theorem yN:OpR X (O7 .Sub) (l2 X.K kT):=by
 refine OpR.of Dt λv u H Q h=>?_;obtain⟨x,y,M,rm,rx,ry,q⟩:=h
 cases x<;>cases y<;>first
  |exact q.elim
  |(cases WQ.mp rx;cases WQ.mp ry;exact⟨_,_,rfl,rfl,q _ H Ext.refl rm (WQ.mpr rfl)⟩)
theorem op_mul_i:OpR X (O7 .Mult) (rI MulOk λi j=>.int (i*j)):=opI λ_ _ _ _ _ _ _ z q=>mul_int q z.ok
theorem FL{a:List D}{k:Int}{u:V}(rm:RM K M H)(rx:RD K H (.tup a) v)(ry:RD K H (.int k) u)(q:gN (.tup a) (.int k) M (KE' K M H Q)):AA K v u H Q:=by
 obtain⟨a',vs,rfl,z,j⟩:=WW rx
 cases WQ.mp ry
 obtain⟨B,F,G,q⟩:=q;have l1:=j.length;refine⟨a',k,vs,rfl,rfl,z,B,F,by rw[l1];exact G,λe=>?_,λ_ p n=>dR rm (j.rep _) q n⟩
 have ea:(D1 k.toNat a).flatten=a:=by
  rcases e with e|e
  ·have:a=[]:=MZ.mp (by rw[<-l1,e];rfl)
   subst this;simp
  ·subst e;simp
 rw[ea]at q;exact q _ H Ext.refl rm rx
theorem yO:OpR X (O7 .Mult) (l2 X.K gN):=by
 refine OpR.of (op_mul_i.or (op_rep.or Bo)) λv u H Q h=>?_;obtain⟨x,y,M,rm,rx,ry,q⟩:=h
 cases x<;>cases y<;>first
  |exact q.elim
  |(cases WQ.mp rx;cases WQ.mp ry;exact .inl ⟨_,_,rfl,rfl,q.1,q.2 _ H Ext.refl rm (WQ.mpr rfl)⟩)
  | (cases WR.mp rx;cases WQ.mp ry
     obtain⟨xs,e1,z,B,F,q⟩:=q;obtain⟨vs,h1,j⟩:=rm _ _ e1;have l1:=j.length;exact .inr (.inl ⟨_,_,vs,rfl,rfl,h1,z,B,by rw[l1];exact F,λp n=>cm rm (j.rep _) q n⟩))
  |exact .inr (.inr (FL rm rx ry q))
theorem yP:OpR X (O7 .FloorDiv) (rI (λ_ j=>0<j/\j<2^256) λi j=>.int (i / j)):=L2.opI λi j _ _ _ _ _ z q=>by
 have h1:(0:Int)<j:=z.1;have h2:j<2^256:=z.2;have B:j.natAbs.log2<256:=(Nat.log2_lt ∅).mpr ∅
 exact floordiv_int ∅ (by rw[Int.fdiv_eq_ediv_of_nonneg i ∅];exact q) (.inl (PyProof.noPylong_of_log2 ∅))
theorem vY:OpR X (O7 .FloorDiv) (l2 X.K jE):=by
 refine OpR.of yP λv u H Q h=>?_;obtain⟨x,y,M,rm,rx,ry,q⟩:=h
 cases x<;>cases y<;>first
  |exact q.elim
  |(cases WQ.mp rx;cases WQ.mp ry;exact⟨_,_,rfl,rfl,⟨q.1,q.2.1⟩,q.2.2 _ H Ext.refl rm (WQ.mpr rfl)⟩)
theorem yQ:OpR X (O7 .Mod) (l2 X.K pH):=by
 refine OpR.of Du λv u H Q h=>?_;obtain⟨x,y,M,rm,rx,ry,q⟩:=h
 cases x<;>cases y<;>first
  |exact q.elim
  |(cases WQ.mp rx;cases WQ.mp ry;exact⟨_,_,rfl,rfl,q.1,q.2 _ H Ext.refl rm (WQ.mpr rfl)⟩)
theorem yR:OpR X (O7 .Pow) (l2 X.K pI):=by
 refine OpR.of Dv λv u H Q h=>?_;obtain⟨x,y,M,rm,rx,ry,q⟩:=h
 cases x<;>cases y<;>first
  |exact q.elim
  |(cases WQ.mp rx;cases WQ.mp ry;exact⟨_,_,rfl,rfl,⟨q.1,q.2.1,q.2.2.1⟩,q.2.2.2 _ H Ext.refl rm (WQ.mpr rfl)⟩)
noncomputable def pM:R1d
 |.int i,M,Q=>Q (.int (-i)) M
 |_,_,_=>False
theorem pN:tV pM:=by
 intro x M Q Q' h q
 cases x<;>first|exact q.elim|exact h _ _ q
theorem UnR.of{f:i0->Sem i0}{r r':V->Hp->VK->Prop}(h:UnR X f r)(i:∀v H Q,r' v H Q->r v H Q):UnR X f r':=λpins s σ H x v Q I rx q=>h pins s σ H x v Q I rx (i _ _ _ q)
theorem yS:UnR X (unaryOp .USub) (l1 X.K pM):=by
 refine UnR.of Dw λv H Q h=>?_;obtain⟨x,M,rm,rx,q⟩:=h
 cases x<;>first
  |exact q.elim
  |(cases WQ.mp rx;exact⟨_,rfl,q _ H Ext.refl rm (WQ.mpr rfl)⟩)
noncomputable def b9{α β:Type}(f:α->Option β):List α->Option (List β)
 |[]=>Z []
 |x::xs=>(f x).bind λy=>(b9 f xs).map (y :: ·)
noncomputable def rb:Nat->Mem->D->Option NM
 |_,_,.non=>Z .none
 |_,_,.bl b=>Z (.bool b)
 |_,_,.int i=>Z (.int i)
 |_,_,.str x=>if PyData.strOk x=F2 then Z (.str x)else Y
 |n+1,M,.tup ds=>(b9 (rb n M) ds).map PyData.tuple
 |n+1,M,.con ds=>(b9 (rb n M) ds).map PyData.list
 | n+1,M,.ref a=>match M a with
   |some (.lst ds)=>(b9 (rb n M) ds).map PyData.list
   |_=>Y
 |0,_,.tup _=>Y
 |0,_,.con _=>Y
 |0,_,.ref _=>Y
 |_,_,.fn _=>Y
theorem dI{n:Nat}{M:Mem}(ih:∀d p,rb n M d=Z p->p.depth<=n/\p.canLay0=F2):∀{ds:List D} {ps:List NM},b9 (rb n M) ds=Z ps->OQ ps<=n/\NR ps=F2
 |[],ps,h=>by simp[b9]at h;subst h;exact⟨Og _,rfl⟩
 |d::ds,ps,h=>by
  simp only[b9]at h
  cases e1:rb n M d with
  |none=>rw[e1]at h;cases h
  |some p=>
   rw[e1]at h
   cases e2:b9 (rb n M) ds with
   |none=>simp[e2]at h
   |some qs=>
    simp[e2]at h;subst h;obtain⟨a1,a2⟩:=ih d p e1;obtain⟨z,j⟩:=dI ih e2;refine⟨?_,?_⟩
    ·show max p.depth (OQ qs)<=n;lia
    ·show(p.canLay0&&NR qs)=F2;rw[a2,j];rfl
theorem cH{M:Mem}:∀(n:Nat) (d:D) (p:NM),rb n M d=Z p->p.depth<=n/\p.canLay0=F2
 |n,.non,p,h=>by simp[rb]at h;subst h;exact⟨Og _,rfl⟩
 |n,.bl b,p,h=>by simp[rb]at h;subst h;exact⟨Og _,rfl⟩
 |n,.int b,p,h=>by simp[rb]at h;subst h;exact⟨Og _,rfl⟩
 |n,.str x,p,h=>by simp[rb]at h;obtain⟨h1,h2⟩:=h;subst h2;exact⟨Og _,h1⟩
 |0,.tup _,p,h=>by simp[rb]at h
 |0,.con _,p,h=>by simp[rb]at h
 |0,.ref _,p,h=>by simp[rb]at h
 |n,.fn _,p,h=>by simp[rb]at h
 |n+1,.tup ds,p,h=>by
  simp only[rb]at h
  cases e:b9 (rb n M) ds with
  |none=>rw[e]at h;cases h
  |some ps=>rw[e]at h;cases h;obtain⟨a,b⟩:=dI (cH n) e;exact⟨Td a,b⟩
 |n+1,.con ds,p,h=>by
  simp only[rb]at h
  cases e:b9 (rb n M) ds with
  |none=>rw[e]at h;cases h
  |some ps=>rw[e]at h;cases h;obtain⟨a,b⟩:=dI (cH n) e;exact⟨Td a,b⟩
 |n+1,.ref a,p,h=>by
  simp only[rb]at h
  cases e0:M a with
  |none=>rw[e0]at h;cases h
  |some o=>
   rw[e0]at h
   cases o with
   |dct _ _=>cases h
   |fdc _=>cases h
   |dcn _=>cases h
   |tab _ _=>cases h
   |fdn _=>cases h
   |lst ds=>
    simp only at h
    cases e:b9 (rb n M) ds with
    |none=>rw[e]at h;cases h
    |some ps=>rw[e]at h;cases h;obtain⟨a,b⟩:=dI (cH n) e;exact⟨Td a,b⟩
theorem dJ{K:Frag}{H:Hp}{n:Nat}{M:Mem}{h:Heap}(ih:∀d p v u,rb n M d=Z p->RD K H d v->RelV v u->∃as,QK h u p as):
 ∀{ds:List D} {ps:List NM} {vs:List V} {us:List i0},b9 (rb n M) ds=Z ps->RDs K H ds vs->Vals vs us->∃as,Ul h us ps as
 |[],ps,vs,us,hm,r,rv=>by
  simp[b9]at hm;subst hm;rw[RDs.nil_iff.mp r]at rv
  cases rv
  exact⟨_,.nil⟩
 |d::ds,ps,vs,us,hm,r,rv=>by
  obtain⟨v,vr,rfl,j,z⟩:=WS.mp r
  cases rv with
  |cons B F=>
   simp only[b9]at hm
   cases e1:rb n M d with
   |none=>rw[e1]at hm;cases hm
   |some p=>
    rw[e1]at hm
    cases e2:b9 (rb n M) ds with
    |none=>simp[e2]at hm
    |some qs=>simp[e2]at hm;subst hm;obtain⟨as,ra⟩:=ih d p v _ e1 j B;obtain⟨bs,rbs⟩:=dJ ih e2 z F;exact⟨_,.cons ra rbs⟩
theorem bJ{pins:List (Xc×Obj)}{σ:St}{H:Hp}{s:s9}{M:Mem}(I:Inv X pins σ H s)(rm:RM X.K M H):∀(n:Nat) (d:D) (p:NM) (v:V) (u:i0),rb n M d=Z p->RD X.K H d v->RelV v u->∃as,QK s.heap u p as
 |n,.non,p,v,u,h,r,q=>by simp[rb]at h;subst h;cases WX.mp r;cases q;exact⟨_,.none⟩
 |n,.bl b,p,v,u,h,r,q=>by simp[rb]at h;subst h;cases WT.mp r;cases q;exact⟨_,.bool b⟩
 |n,.int b,p,v,u,h,r,q=>by simp[rb]at h;subst h;cases WQ.mp r;obtain⟨t,rfl⟩:=q;exact⟨_,.int b t⟩
 |n,.str x,p,v,u,h,r,q=>by simp[rb]at h;obtain⟨_,h2⟩:=h;subst h2;cases WY.mp r;obtain⟨t,rfl⟩:=q;exact⟨_,.str x t⟩
 |0,.tup _,p,_,_,h,_,_=>by simp[rb]at h
 |0,.con _,p,_,_,h,_,_=>by simp[rb]at h
 |0,.ref _,p,_,_,h,_,_=>by simp[rb]at h
 |n,.fn _,p,_,_,h,_,_=>by simp[rb]at h
 |n+1,.tup ds,p,v,u,h,r,q=>by
  simp only[rb]at h
  cases e:b9 (rb n M) ds with
  |none=>rw[e]at h;cases h
  |some ps=>
   rw[e]at h;cases h;obtain⟨a,vs,rfl,j,rs⟩:=WW r
   cases q
   obtain⟨its,rv,⟨o,ho,z,k,hd⟩,_⟩:=I.tuple j;obtain⟨as,ra⟩:=dJ (bJ I rm n) e rs rv;exact⟨_,.tuple ho z hd (by simpa using ra)⟩
 |n+1,.con ds,p,v,u,h,r,q=>by
  simp only[rb]at h
  cases e:b9 (rb n M) ds with
  |none=>rw[e]at h;cases h
  |some ps=>
   rw[e]at h;cases h;obtain⟨a,vs,rfl,j,rs⟩:=WV.mp r
   cases q
   obtain⟨its,rv,⟨o,k,ho,z,_,hd⟩,_⟩:=I.list j.sq;obtain⟨as,ra⟩:=dJ (bJ I rm n) e rs rv;exact⟨_,.list ho z hd (by simpa using ra)⟩
 |n+1,.ref a,p,v,u,h,r,q=>by
  simp only[rb]at h
  cases e0:M a with
  |none=>rw[e0]at h;cases h
  |some o=>
   rw[e0]at h
   cases o with
   |dct _ _=>cases h
   |fdc _=>cases h
   |dcn _=>cases h
   |tab _ _=>cases h
   |fdn _=>cases h
   |lst ds=>
    simp only at h
    cases e:b9 (rb n M) ds with
    |none=>rw[e]at h;cases h
    |some ps=>
     rw[e]at h;cases h
     cases WR.mp r
     cases q
     obtain⟨vs,j,rs⟩:=rm _ _ e0;obtain⟨its,rv,⟨o,k,ho,z,_,hd⟩,_⟩:=I.list (SqL.of j);obtain⟨as,ra⟩:=dJ (bJ I rm n) e rs rv;exact⟨_,.list ho z hd (by simpa using ra)⟩
noncomputable def wEq:R2d:=λx y M Q=>∃p q,rb 16 M x=Z p/\rb 16 M y=Z q/\Q (.bl (Oq p q)) M
noncomputable def wNe:R2d:=λx y M Q=>∃p q,rb 16 M x=Z p/\rb 16 M y=Z q/\Q (.bl (!PyData.eqv p q)) M
theorem Bq:aK wEq:=λ_ _ _ _ _ h j=>(by obtain⟨p,q,a,b,c⟩:=j;exact⟨p,q,a,b,h _ _ c⟩)
theorem Br:aK wNe:=λ_ _ _ _ _ h j=>(by obtain⟨p,q,a,b,c⟩:=j;exact⟨p,q,a,b,h _ _ c⟩)
theorem Bs(F:X.A.units+16<Po):OpR X (Oy .Eq) (l2 X.K wEq):=by intro pins s σ H x y v u Q I rx ry h;obtain⟨d,e,M,rm,rd,re,p,q,j,z,k⟩:=h;obtain⟨as,ra⟩:=bJ I rm _ _ _ _ _ j rd rx;obtain⟨bs,rb'⟩:=bJ I rm _ _ _ _ _ z re ry;obtain⟨G,p2⟩:=cH _ _ _ j;obtain⟨J,B⟩:=cH _ _ _ z;exact SeqAt.compareEq_reads ra rb' p2 B ∅ ⟨.bl _,H,I,rfl,k _ H Ext.refl rm (WT.mpr rfl)⟩
theorem Bt(F:X.A.units+16<Po):OpR X (Oy .NotEq) (l2 X.K wNe):=by intro pins s σ H x y v u Q I rx ry h;obtain⟨d,e,M,rm,rd,re,p,q,j,z,k⟩:=h;obtain⟨as,ra⟩:=bJ I rm _ _ _ _ _ j rd rx;obtain⟨bs,rb'⟩:=bJ I rm _ _ _ _ _ z re ry;obtain⟨G,p2⟩:=cH _ _ _ j;obtain⟨J,B⟩:=cH _ _ _ z;exact SeqAt.compareNe_reads ra rb' p2 B ∅ ⟨.bl _,H,I,rfl,k _ H Ext.refl rm (WT.mpr rfl)⟩
noncomputable def wLt:R2d
 |.int i,.int j,M,Q=>Q (.bl (decide (i<j))) M
 |_,_,_,_=>False
noncomputable def wGt:R2d
 |.int i,.int j,M,Q=>Q (.bl (decide (j<i))) M
 |_,_,_,_=>False
noncomputable def wGe:R2d
 |.int i,.int j,M,Q=>Q (.bl (decide (j<=i))) M
 |_,_,_,_=>False
theorem Bu:aK wLt:=by
 intro x y M Q Q' h q
 cases x<;>cases y<;>first|exact q.elim|exact h _ _ q
theorem Bv:aK wGt:=by
 intro x y M Q Q' h q
 cases x<;>cases y<;>first|exact q.elim|exact h _ _ q
theorem Bw:aK wGe:=by
 intro x y M Q Q' h q
 cases x<;>cases y<;>first|exact q.elim|exact h _ _ q
theorem By:OpR X (Oy .Lt) (l2 X.K wLt):=by
 refine OpR.of Fq λv u H Q h=>?_;obtain⟨x,y,M,rm,rx,ry,q⟩:=h
 cases x<;>cases y<;>first
  |exact q.elim
  |(cases WQ.mp rx;cases WQ.mp ry;exact⟨_,_,rfl,rfl,q _ H Ext.refl rm (WT.mpr rfl)⟩)
theorem Bz:OpR X (Oy .Gt) (l2 X.K wGt):=by
 refine OpR.of Fs λv u H Q h=>?_;obtain⟨x,y,M,rm,rx,ry,q⟩:=h
 cases x<;>cases y<;>first
  |exact q.elim
  |(cases WQ.mp rx;cases WQ.mp ry;exact⟨_,_,rfl,rfl,q _ H Ext.refl rm (WT.mpr rfl)⟩)
theorem BA:OpR X (Oy .GtE) (l2 X.K wGe):=by
 refine OpR.of Ft λv u H Q h=>?_;obtain⟨x,y,M,rm,rx,ry,q⟩:=h
 cases x<;>cases y<;>first
  |exact q.elim
  |(cases WQ.mp rx;cases WQ.mp ry;exact⟨_,_,rfl,rfl,q _ H Ext.refl rm (WT.mpr rfl)⟩)
end
end
variable{a:Xc}{ds:List D}{vs:List V}{d x:D}
section
noncomputable def wIx:R2d:=λx y M Q=>match x with
 |.tup ds=>∃i d,y=.int i/\atI ds i=Z d/\Q d M
 |.con ds=>∃i d,y=.int i/\atI ds i=Z d/\Q d M
 |.ref a=>(∃ds i d,M a=Z (.lst ds)/\y=.int i/\atI ds i=Z d/\Q d M)∨(∃t kvs d,M a=Z (.dct t kvs)/\eN t y=F2/\dget kvs y=Z d/\Q d M)∨∃kvs d,M a=Z (.fdc kvs)/\ed y=F2/\dget kvs y=Z d/\Q d M
 |_=>False
theorem sd:aK wIx:=by
 intro x y M Q Q' h q
 cases x with
 |tup ds=>obtain⟨i,d,e,e2,q⟩:=q;exact⟨i,d,e,e2,h _ _ q⟩
 |con ds=>obtain⟨i,d,e,e2,q⟩:=q;exact⟨i,d,e,e2,h _ _ q⟩
 |ref a=>
  rcases q with⟨ds,i,d,e1,e2,j,q⟩|⟨t,kvs,d,e1,e2,j,q⟩|⟨kvs,d,e1,e2,j,q⟩
  ·exact .inl ⟨ds,i,d,e1,e2,j,h _ _ q⟩
  ·exact .inr (.inl ⟨t,kvs,d,e1,e2,j,h _ _ q⟩)
  ·exact .inr (.inr ⟨kvs,d,e1,e2,j,h _ _ q⟩)
 |_=>exact q.elim
theorem jF{i:Int}(r:RDs K H ds vs)(e:atI ds i=Z d):∃v,atI vs i=Z v/\RD K H d v:=by
 unfold atI at e⊢;rw[r.length]
 cases q:ixN ds.length i with
 |none=>rw[q]at e;cases e
 |some j=>rw[q]at e;exact r.get e
theorem kU{k:D}{q:Key}(r:RKey k q)(h:RD K H k v):v=kV q:=by
 cases k<;>first
  |exact r.elim
  |(cases(show q=_ from r);first|exact WQ.mp h|exact WY.mp h)
theorem j6{K:Frag}{H:Hp}:∀{ds:List D} {ks:List Key} {vs:List V},NA RKey ds ks->RDs K H ds vs->vs=ks.map kV
 |_,_,vs,.nil,h=>by rw[RDs.nil_iff.mp h];rfl
 |_,_,vs,.cons r t,h=>by obtain⟨v,vr,rfl,h1,h2⟩:=WS.mp h;rw[kU r h1,j6 t h2];rfl
theorem RKey.inj{e:D}{k:Key}(a:RKey d k)(b:RKey e k):d=e:=by
 cases d<;>first
  |exact a.elim
  |(cases e<;>first|exact b.elim|(cases(show k=_ from a);injection (show _=_ from b)with z;rw[z])|(cases(show k=_ from a);cases(show _=_ from b)))
theorem RKeysP.inj:∀{d e:List D} {k:List Key},NA RKey d k->NA RKey e k->d=e
 |_,_,_,.nil,.nil=>rfl
 |_,_,_,.cons r t,.cons r' t'=>by rw[r.inj r',RKeysP.inj t t']
theorem RKeys.inj{e:D}{k:List Key}(a:RKeys d k)(b:RKeys e k):d=e:=by
 cases d<;>first
  |exact a.elim
  |(cases e<;>first|exact b.elim|exact congrArg D.tup (RKeysP.inj a b))
theorem RKey.fun{k k':Key}(a:RKey d k)(b:RKey d k'):k=k':=by
 cases d<;>first
  |exact a.elim
  |(cases(show k=_ from a);cases(show k'=_ from b);rfl)
theorem RKeysP.fun:∀{d:List D} {k k':List Key},NA RKey d k->NA RKey d k'->k=k'
 |_,_,_,.nil,.nil=>rfl
 |_,_,_,.cons r t,.cons r' t'=>by rw[r.fun r',RKeysP.fun t t']
theorem RKeys.fun{k k':List Key}(a:RKeys d k)(b:RKeys d k'):k=k':=by
 cases d<;>first
  |exact a.elim
  |exact RKeysP.fun a b
section
variable{κ:Type}[DecidableEq κ]{K:Frag}{H:Hp}{RK:D->κ->Prop}(inj:∀{d e:D} {k:κ},RK d k->RK e k->d=e)(fn:∀{d:D} {k k':κ},RK d k->RK d k'->k=k')
include inj fn
theorem j7{k:D}{q:κ}(j:RK k q):∀{kvs:List (D×D)} {ps:List (κ×V)},NA (λp r=>RK p.1 r.1/\RD K H p.2 r.2) kvs ps->
 (∀d,dget kvs k=Z d->∃v,cb ps q=Z v/\RD K H d v)/\(dget kvs k=Y->cb ps q=Y)
 |_,_,.nil=>⟨λd e=>by simp[dget]at e,λ_=>rfl⟩
 |_,_,.cons (a:=p) (b:=r) (l₂:=ps) B t=>by
  obtain⟨F,G⟩:=j7 j t
  by_cases e:p.1=k
  ·have e':r.1=q:=by
    have h1:=B.1;rw[e]at h1;exact fn h1 j
   refine⟨λd he=>?_,λhe=>?_⟩
   ·simp[dget,NW,e]at he;subst he;exact⟨r.2,fU e',B.2⟩
   ·simp[dget,NW,e]at he
  ·have e':¬r.1=q:=fun z=>e (by
    have h1:=B.1;rw[z]at h1;exact inj h1 j)
   have eq1:∀l:List (D×D),dget (p::l) k=dget l k:=λl=>by simp[dget,NW,e]
   have eq2:cb (r::ps) q=cb ps q:=fV e';refine⟨λd he=>?_,λhe=>?_⟩
   ·rw[eq1]at he;rw[eq2];exact F d he
   ·rw[eq1]at he;rw[eq2];exact G he
end
section
variable{X:Cx}
theorem pO{ps:List (List Key×V)}{kvs:List (D×D)}{k:D}(B:Rd H a (.dT ps))(pr:NA (λ(p:D×D) (q:List Key×V)=>RKeys p.1 q.1/\RD K H p.2 q.2) kvs ps)(ok:ed k=F2)(rk:RD K H k v):
 ∃o,DGet H a v o/\(∀d,dget kvs k=Z d->∃w,o=Z w/\RD K H d w)/\(dget kvs k=Y->o=Y):=by
 obtain⟨q,j⟩:=rY ok;obtain⟨g1,g2⟩:=j7 (RK:=RKeys) RKeys.inj RKeys.fun j pr;refine⟨cb ps q,?_,g1,g2⟩
 cases k<;>first
  |exact j.elim
  | (obtain⟨b,us,rfl,z,ru⟩:=Xb (rZ ok) rk
     rw[j6 j ru]at z;exact .inr ⟨ps,q,b,B,rfl,z,rfl⟩)
theorem kW{t:Bool}{kvs:List (D×D)}{k:D}(rm:RM K M H)(e:M a=Z (.dct t kvs))(ok:eN t k=F2)(rk:RD K H k v):
 ∃o,DGet H a v o/\(∀d,dget kvs k=Z d->∃w,o=Z w/\RD K H d w)/\(dget kvs k=Y->o=Y):=by
 have ro:=rm a _ e
 cases t with
 |false=>obtain⟨ps,j,pr⟩:=ro;obtain⟨q,z⟩:=pE (show fY k=F2 from ok);obtain⟨g1,g2⟩:=j7 (RK:=RKey) RKey.inj RKey.fun z pr;refine⟨cb ps q,?_,g1,g2⟩;rw[kU z rk];exact DGet.k j
 |true=>obtain⟨ps,j,pr⟩:=ro;exact pO (.inl j) pr ok rk
theorem BB(j:X.A.units+1<Po):IxR X (λx y H Q=>∃a v,x=.ref a/\DGet H a y (Z v)/\Q v H):=by
 intro value slice pins s σ H x y v u Q I rx ry h hs;obtain⟨a,w,rfl,g,q⟩:=h
 cases rx
 have hd:IsD H a:=by
  rcases g with⟨kvs,k,e,_⟩|⟨kvs,k,b,e,_⟩
  ·exact .inl ⟨kvs,e⟩
  ·exact .inr ⟨kvs,e⟩
 obtain⟨z,_⟩:=jz I hd;exact tail_any z PySem.F.slot_dict_getitem.lookup (vI j I g ry λw' s' I' r'=>⟨w,H,I',r',q⟩) hs
theorem GX(B:X.A.units+1<Po):IxR X (l2 X.K wIx):=by
 refine IxR.of (ix_list.or (ix_tup.or (BB B))) λv u H Q h=>?_;obtain⟨x,y,M,rm,rx,ry,q⟩:=h
 cases x with
 |tup ds=>
  obtain⟨i,d,rfl,e,q⟩:=q;obtain⟨a,vs,rfl,j,rs⟩:=WW rx
  cases WQ.mp ry
  obtain⟨w,hw,rw'⟩:=jF rs e;exact .inr (.inl ⟨a,vs,i,w,rfl,rfl,j,hw,q w H Ext.refl rm rw'⟩)
 |con ds=>
  obtain⟨i,d,rfl,e,q⟩:=q;obtain⟨a,vs,rfl,j,rs⟩:=WV.mp rx
  cases WQ.mp ry
  obtain⟨w,hw,rw'⟩:=jF rs e;exact .inl ⟨a,vs,i,w,rfl,rfl,j.sq,hw,q w H Ext.refl rm rw'⟩
 |ref a=>
  cases WR.mp rx
  rcases q with⟨ds,i,d,e1,rfl,z,q⟩|⟨t,kvs,d,e1,e2,z,q⟩|⟨kvs,d,e1,e2,z,q⟩
  ·cases WQ.mp ry
   obtain⟨vs,j,rs⟩:=rm _ _ e1;obtain⟨w,hw,rw'⟩:=jF rs z;exact .inl ⟨a,vs,i,w,rfl,rfl,SqL.of j,hw,q w H Ext.refl rm rw'⟩
  ·obtain⟨o,g,g1,_⟩:=kW rm e1 e2 ry;obtain⟨w,rfl,rw'⟩:=g1 d z;exact .inr (.inr ⟨a,w,rfl,g,q w H Ext.refl rm rw'⟩)
  ·obtain⟨ob,ps,F,pr⟩:=rm _ _ e1;obtain⟨o,g,g1,_⟩:=pO (.inr ⟨ob,F⟩) pr e2 ry;obtain⟨w,rfl,rw'⟩:=g1 d z;exact .inr (.inr ⟨a,w,rfl,g,q w H Ext.refl rm rw'⟩)
 |_=>exact q.elim
noncomputable def pQ(M:Mem):D->Option Nat
 |.tup ds=>Z ds.length
 |.con ds=>Z ds.length
 |.ref a=>match M a with
  |some (.lst ds)=>Z ds.length
  |_=>Y
 |_=>Y
noncomputable def fw:RAd:=λxs M Q=>∃x n,xs=[x]/\pQ M x=Z n/\Q (.int n) M
theorem pS:aM fw:=λ_ _ _ _ h j=>(by obtain⟨x,n,e,l,q⟩:=j;exact⟨x,n,e,l,h _ _ q⟩)
theorem RDs.one(h:RDs K H [d] vs):∃v,vs=[v]/\RD K H d v:=by obtain⟨v,r,rfl,h1,h2⟩:=WS.mp h;rw[RDs.nil_iff.mp h2];exact⟨v,rfl,h1⟩
theorem RDs.two{e:D}(h:RDs K H [d,e] vs):∃v u,vs=[v,u]/\RD K H d v/\RD K H e u:=by obtain⟨v,r,rfl,h1,h2⟩:=WS.mp h;obtain⟨u,rfl,j⟩:=RDs.one h2;exact⟨v,u,rfl,h1,j⟩
theorem tY:CallR X (.builtin "len") (lR X.K fw):=by
 refine CallR.of yj λvs H Q h=>?_;obtain⟨ds,M,rm,rs,x,n,rfl,l,q⟩:=h;obtain⟨v,rfl,r⟩:=rs.one;refine⟨v,n,rfl,?_,q _ H Ext.refl rm (WQ.mpr rfl)⟩
 cases x with
 |tup ds=>
  cases l
  obtain⟨a,us,rfl,j,ru⟩:=WW r;exact .inr ⟨us,j,ru.length.symm⟩
 |con ds=>
  cases l
  obtain⟨a,us,rfl,j,ru⟩:=WV.mp r;exact .inl ⟨us,j.sq,ru.length.symm⟩
 |ref a=>
  cases WR.mp r
  simp only[pQ]at l
  cases e:M a with
  |none=>rw[e]at l;cases l
  |some o=>
   rw[e]at l
   cases o with
   |dct _ _=>cases l
   |fdc _=>cases l
   |dcn _=>cases l
   |tab _ _=>cases l
   |fdn _=>cases l
   |lst ds=>
    cases l
    obtain⟨us,j,ru⟩:=rm _ _ e;exact .inl ⟨us,SqL.of j,ru.length.symm⟩
 |_=>cases l
noncomputable def kX:RAd:=λxs M Q=>∃i,xs=[.int i]/\Q (.int (if i<0 then -i else i)) M
noncomputable def jG:RAd:=λxs M Q=>∃i j,xs=[.int i,.int j]/\Q (.int (if j > i then j else i)) M
noncomputable def jH:RAd:=λxs M Q=>∃i j,xs=[.int i,.int j]/\Q (.int (if j<i then j else i)) M
noncomputable def kY:RAd:=λxs M Q=>(∃i,xs=[.int i]/\Q (.int i) M)∨∃k,xs=[.bl k]/\Q (.int (if k then 1 else 0)) M
theorem pT:aM kX:=λ_ _ _ _ h j=>(by obtain⟨i,e,q⟩:=j;exact⟨i,e,h _ _ q⟩)
theorem mH:aM jG:=λ_ _ _ _ h z=>(by obtain⟨i,j,e,q⟩:=z;exact⟨i,j,e,h _ _ q⟩)
theorem mJ:aM jH:=λ_ _ _ _ h z=>(by obtain⟨i,j,e,q⟩:=z;exact⟨i,j,e,h _ _ q⟩)
theorem pU:aM kY:=λ_ _ _ _ h q=>q.elim (λj=>(by obtain⟨i,e,q⟩:=j;exact .inl ⟨i,e,h _ _ q⟩)) λj=>(by obtain⟨i,e,q⟩:=j;exact .inr ⟨i,e,h _ _ q⟩)
theorem tZ:CallR X (.builtin "abs") (lR X.K kX):=by
 refine CallR.of yi λvs H Q h=>?_;obtain⟨ds,M,rm,rs,i,rfl,q⟩:=h;obtain⟨v,rfl,r⟩:=rs.one
 cases WQ.mp r
 exact⟨i,rfl,q _ H Ext.refl rm (WQ.mpr rfl)⟩
theorem rq(z:X.calm=F2):CallR X (.builtin "max") (lR X.K jG):=by
 refine CallR.of (vy z) λvs H Q h=>?_;obtain⟨ds,M,rm,rs,i,j,rfl,q⟩:=h;obtain⟨v,u,rfl,B,F⟩:=rs.two
 cases WQ.mp B
 cases WQ.mp F
 exact⟨i,j,rfl,q _ H Ext.refl rm (WQ.mpr rfl)⟩
theorem rA(z:X.calm=F2):CallR X (.builtin "min") (lR X.K jH):=by
 refine CallR.of (vz z) λvs H Q h=>?_;obtain⟨ds,M,rm,rs,i,j,rfl,q⟩:=h;obtain⟨v,u,rfl,B,F⟩:=rs.two
 cases WQ.mp B
 cases WQ.mp F
 exact⟨i,j,rfl,q _ H Ext.refl rm (WQ.mpr rfl)⟩
theorem u5:CallR X (.type "int") (lR X.K kY):=by
 refine CallR.of vA λvs H Q h=>?_;obtain⟨ds,M,rm,rs,⟨i,rfl,q⟩|⟨i,rfl,q⟩⟩:=h
 ·obtain⟨v,rfl,r⟩:=rs.one
  cases WQ.mp r
  exact .inl ⟨i,rfl,q _ H Ext.refl rm (WQ.mpr rfl)⟩
 ·obtain⟨v,rfl,r⟩:=rs.one
  cases WT.mp r
  exact .inr ⟨i,rfl,q _ H Ext.refl rm (WQ.mpr rfl)⟩
noncomputable def aN(M:Mem):D->Option (List D)
 |.tup ds=>Z ds
 |.con ds=>Z ds
 |.ref a=>match M a with
  |some (.lst ds)=>Z ds
  |_=>Y
 |_=>Y
theorem pV(rm:RM K M H)(r:RD K H x v)(e:aN M x=Z ds):∃p vs,v=.ref p/\(SqL K H p vs∨SqT K H p vs)/\RDs K H ds vs:=by
 cases x with
 |tup es=>
  cases e
  obtain⟨a,us,rfl,j,ru⟩:=WW r;exact⟨a,us,rfl,.inr j,ru⟩
 |con es=>
  cases e
  obtain⟨a,us,rfl,j,ru⟩:=WV.mp r;exact⟨a,us,rfl,.inl j.sq,ru⟩
 |ref a=>
  cases WR.mp r
  simp only[aN]at e
  cases e0:M a with
  |none=>rw[e0]at e;cases e
  |some o=>
   rw[e0]at e
   cases o with
   |dct _ _=>cases e
   |fdc _=>cases e
   |dcn _=>cases e
   |tab _ _=>cases e
   |fdn _=>cases e
   |lst es=>
    cases e
    obtain⟨us,j,ru⟩:=rm _ _ e0;exact⟨a,us,rfl,.inl (SqL.of j),ru⟩
 |_=>cases e
noncomputable def nY:RAd:=λxs M Q=>∃x ds,xs=[x]/\aN M x=Z ds/\∀p,M p=Y->Q (.ref p) (ag M p (.lst ds))
noncomputable def jI:RAd:=λxs M Q=>∃x ds,xs=[x]/\aN M x=Z ds/\Q (.tup ds) M
theorem mK:aM nY:=λ_ _ _ _ h j=>(by obtain⟨x,ds,e,l,q⟩:=j;exact⟨x,ds,e,l,λp n=>h _ _ (q p n)⟩)
theorem jJ:aM jI:=λ_ _ _ _ h j=>(by obtain⟨x,ds,e,l,q⟩:=j;exact⟨x,ds,e,l,h _ _ q⟩)
theorem rB:CallR X (.type "list") (lR X.K nY):=by refine CallR.of p8 λvs H Q h=>?_;obtain⟨ds,M,rm,rs,x,es,rfl,l,q⟩:=h;obtain⟨v,rfl,r⟩:=rs.one;obtain⟨p,us,rfl,sq,ru⟩:=pV rm r l;exact⟨p,us,rfl,sq,λl' n=>cm rm ru q n⟩
theorem pW:CallR X (.type "tuple") (lR X.K jI):=by
 refine CallR.of nS λvs H Q h=>?_;obtain⟨ds,M,rm,rs,x,es,rfl,l,q⟩:=h;obtain⟨v,rfl,r⟩:=rs.one
 cases x with
 |tup ds'=>
  cases l
  obtain⟨a,us,rfl,j,ru⟩:=WW r;exact⟨a,us,rfl,.inr ⟨j,q _ H Ext.refl rm r⟩⟩
 |con ds'=>
  cases l
  obtain⟨a,us,rfl,j,ru⟩:=WV.mp r;exact⟨a,us,rfl,.inl ⟨j.sq,λl' n=>dR rm ru q n⟩⟩
 |ref a=>
  cases WR.mp r
  simp only[aN]at l
  cases e0:M a with
  |none=>rw[e0]at l;cases l
  |some o=>
   rw[e0]at l
   cases o with
   |dct _ _=>cases l
   |fdc _=>cases l
   |dcn _=>cases l
   |tab _ _=>cases l
   |fdn _=>cases l
   |lst es'=>
    cases l
    obtain⟨us,j,ru⟩:=rm _ _ e0;exact⟨a,us,rfl,.inl ⟨SqL.of j,λl' n=>dR rm ru q n⟩⟩
 |_=>cases l
end
end
variable{e:Expr}{tA:TTd}
section
section
variable{X:Cx}
theorem RDs.ints_eq{K:Frag}{H:Hp}:∀{ns:List Int} {vs:List V},RDs K H (ns.map D.int) vs->vs=ns.map V.int
 |[],_,h=>RDs.nil_iff.mp h
 |n::ns,_,h=>by obtain⟨v,r,rfl,h1,h2⟩:=WS.mp h;rw[WQ.mp h1,RDs.ints_eq h2];rfl
noncomputable def yT(M:Mem):D->Option Bool
 |.non=>Z N2
 |.bl b=>Z b
 |.int i=>Z (i != 0)
 |.tup ds=>Z (!ds.isEmpty)
 |.con ds=>Z (!ds.isEmpty)
 |.ref a=>match M a with
  |some (.lst ds)=>Z (!ds.isEmpty)
  |_=>Y
 |_=>Y
noncomputable def u6(t:TEd):TTd:=λρ M Q=>t ρ M λx M1=>∃b,yT M1 x=Z b/\Q b M1
theorem yU{t:TEd}(h:ad t):aO (u6 t):=λρ M Q Q' i q=>h _ _ _ _ (λx B j=>(by obtain⟨k,e,z⟩:=j;exact⟨k,e,i _ _ z⟩)) q
theorem DU{b:Bool}(rm:RM K M H)(r:RD K H x v)(e:yT M x=Z b):yg K v H b:=by
 have emp:∀{ds:List D} {vs:List V},RDs K H ds vs->(!ds.isEmpty) = !vs.isEmpty:=λ{ds vs} h=>by
  have l:=h.length
  cases ds<;>cases vs<;>first|rfl|(simp at l)
 cases x with
 |non=>cases e;cases WX.mp r;rfl
 |bl k=>cases e;cases WT.mp r;rfl
 |int i=>cases e;cases WQ.mp r;rfl
 |tup ds=>
  cases e
  obtain⟨a,vs,rfl,j,rs⟩:=WW r;exact .inr (.inl ⟨vs,j,emp rs⟩)
 |con ds=>
  cases e
  obtain⟨a,vs,rfl,j,rs⟩:=WV.mp r;exact .inl ⟨vs,j.sq,emp rs⟩
 |ref a=>
  cases WR.mp r
  simp only[yT]at e
  cases e0:M a with
  |none=>rw[e0]at e;cases e
  |some o=>
   rw[e0]at e
   cases o with
   |dct _ _=>cases e
   |fdc _=>cases e
   |dcn _=>cases e
   |tab _ _=>cases e
   |fdn _=>cases e
   |lst ds=>
    cases e
    obtain⟨vs,j,rs⟩:=rm _ _ e0;exact .inl ⟨vs,SqL.of j,emp rs⟩
 |str _=>cases e
 |fn _=>cases e
variable{a b:Expr}{ta tb:TEd}{pos:Pos}
theorem DV(m:ad ta)(B:PE X a (lE X.K ta))(he:∀whole,isTrue a X.env whole=(do let v <-whole;SF a.pos;holding [v] (truthy v))):PT X a (lT X.K (u6 ta)):=by refine PT.imp (yh B he) λσ H Q h=>?_;obtain⟨ρ,M,rs,rm,q⟩:=h;exact⟨ρ,M,rs,rm,m _ _ _ _ (λx L F v H1 G j z=>(by obtain⟨k,e,J⟩:=F;exact⟨k,DU j z e,J H1 G j⟩)) q⟩
noncomputable def nZ(t:TTd):TTd:=λρ M Q=>t ρ M λc M1=>Q (!c) M1
theorem vZ{t:TTd}(h:aO t):aO (nZ t):=λρ M Q Q' i q=>h _ _ _ _ (λc z j=>i _ _ j) q
theorem DW(m:aO tA)(j:PT X a (lT X.K tA)):PT X (.UnaryOp .Not a pos) (lT X.K (nZ tA)):=by refine PT.imp (Da j) λσ H Q h=>?_;obtain⟨ρ,M,rs,rm,q⟩:=h;exact⟨ρ,M,rs,rm,m _ _ _ _ (λc B z=>z) q⟩
noncomputable def jK(t u:TTd):TTd:=λρ M Q=>t ρ M λc M1=>if c=F2 then u ρ M1 Q else Q N2 M1
noncomputable def u7(t u:TTd):TTd:=λρ M Q=>t ρ M λc M1=>if c=F2 then Q F2 M1 else u ρ M1 Q
theorem w4{t u:TTd}(h:aO t)(k:aO u):aO (jK t u):=λρ M Q Q' i q=>h _ _ _ _ (λc z j=>by
 cases c with
 |true=>rw[if_pos rfl]at j⊢;exact k _ _ _ _ i j
 |false=>rw[if_neg LJ]at j⊢;exact i _ _ j) q
theorem yV{t u:TTd}(h:aO t)(k:aO u):aO (u7 t u):=λρ M Q Q' i q=>h _ _ _ _ (λc z j=>by
 cases c with
 |true=>rw[if_pos rfl]at j⊢;exact i _ _ j
 |false=>rw[if_neg LJ]at j⊢;exact k _ _ _ _ i j) q
theorem BC(j:PT X a (lT X.K tA)):PW X (.BoolOp .And [a] pos) (lT X.K tA):=AZ j
theorem DX(j:PT X a (lT X.K tA)):PW X (.BoolOp .Or [a] pos) (lT X.K tA):=D8 j
theorem DY{tB:TTd}{rest:List Expr}(mA:aO tA)(mB:aO tB)(F:PT X a (lT X.K tA))(G:PW X (.BoolOp .And (b::rest) pos) (lT X.K tB)):PW X (.BoolOp .And (a::b::rest) pos) (lT X.K (jK tA tB)):=by
 refine PW.imp (D9 F G) λσ H Q h=>?_;obtain⟨ρ,M,rs,rm,q⟩:=h;refine⟨ρ,M,rs,rm,mA _ _ _ _ (λc J z H1 B j=>?_) q⟩
 cases c with
 |true=>rw[if_pos rfl]at z⊢;exact⟨ρ,J,rs.mono (B.stab rm),j,mB _ _ _ _ (λd M2 k=>k.ext B) z⟩
 |false=>rw[if_neg LJ]at z⊢;exact z H1 B j
theorem FM{tB:TTd}{rest:List Expr}(mA:aO tA)(mB:aO tB)(F:PT X a (lT X.K tA))(G:PW X (.BoolOp .Or (b::rest) pos) (lT X.K tB)):PW X (.BoolOp .Or (a::b::rest) pos) (lT X.K (u7 tA tB)):=by
 refine PW.imp (Fd F G) λσ H Q h=>?_;obtain⟨ρ,M,rs,rm,q⟩:=h;refine⟨ρ,M,rs,rm,mA _ _ _ _ (λc J z H1 B j=>?_) q⟩
 cases c with
 |true=>rw[if_pos rfl]at z⊢;exact z H1 B j
 |false=>rw[if_neg LJ]at z⊢;exact⟨ρ,J,rs.mono (B.stab rm),j,mB _ _ _ _ (λd M2 k=>k.ext B) z⟩
noncomputable def og(ta tb:TEd):TEd:=λρ M Q=>ta ρ M λx M1=>∃c,x=.bl c/\if c=F2 then tb ρ M1 Q else Q (.bl N2) M1
noncomputable def u8(ta tb:TEd):TEd:=λρ M Q=>ta ρ M λx M1=>∃c,x=.bl c/\if c=F2 then Q (.bl F2) M1 else tb ρ M1 Q
noncomputable def oh(ta:TEd):TEd:=λρ M Q=>ta ρ M λx M1=>∃c,x=.bl c/\Q (.bl (!c)) M1
theorem w5(h:ad ta)(k:ad tb):ad (og ta tb):=λρ M Q Q' i q=>h _ _ _ _ (λx z ⟨c,e,j⟩=>⟨c,e,by
 cases c with
 |true=>rw[if_pos rfl]at j⊢;exact k _ _ _ _ i j
 |false=>rw[if_neg LJ]at j⊢;exact i _ _ j⟩) q
theorem yW(h:ad ta)(k:ad tb):ad (u8 ta tb):=λρ M Q Q' i q=>h _ _ _ _ (λx z ⟨c,e,j⟩=>⟨c,e,by
 cases c with
 |true=>rw[if_pos rfl]at j⊢;exact i _ _ j
 |false=>rw[if_neg LJ]at j⊢;exact k _ _ _ _ i j⟩) q
theorem w6(h:ad ta):ad (oh ta):=λρ M Q Q' i q=>h _ _ _ _ (λx B j=>(by obtain⟨c,e,z⟩:=j;exact⟨c,e,i _ _ z⟩)) q
theorem w8{op:BoolOp}{t:TEd}(h:PE X a (lE X.K t)):PE X (.BoolOp op [a] pos) (lE X.K t):=Db h
theorem DZ{rest:List Expr}(ma:ad ta)(mb:ad tb)(G:PE X a (lE X.K ta))(J:PE X (.BoolOp .And (b::rest) pos) (lE X.K tb)):PE X (.BoolOp .And (a::b::rest) pos) (lE X.K (og ta tb)):=by
 refine PE.imp (Dc G J) λσ H Q h=>?_;obtain⟨ρ,M,rs,rm,q⟩:=h;refine⟨ρ,M,rs,rm,ma _ _ _ _ (λx L g9 v H1 B j F=>?_) q⟩;obtain⟨c,e,z⟩:=g9;subst e;refine⟨c,WT.mp F,?_⟩
 cases c with
 |true=>rw[if_pos rfl]at z⊢;exact⟨ρ,L,rs.mono (B.stab rm),j,mb _ _ _ _ (λd M2 k=>k.ext B) z⟩
 |false=>rw[if_neg LJ]at z⊢;exact z _ H1 B j (WT.mpr rfl)
theorem FN{rest:List Expr}(ma:ad ta)(mb:ad tb)(G:PE X a (lE X.K ta))(J:PE X (.BoolOp .Or (b::rest) pos) (lE X.K tb)):PE X (.BoolOp .Or (a::b::rest) pos) (lE X.K (u8 ta tb)):=by
 refine PE.imp (Fh G J) λσ H Q h=>?_;obtain⟨ρ,M,rs,rm,q⟩:=h;refine⟨ρ,M,rs,rm,ma _ _ _ _ (λx L g9 v H1 B j F=>?_) q⟩;obtain⟨c,e,z⟩:=g9;subst e;refine⟨c,WT.mp F,?_⟩
 cases c with
 |true=>rw[if_pos rfl]at z⊢;exact z _ H1 B j (WT.mpr rfl)
 |false=>rw[if_neg LJ]at z⊢;exact⟨ρ,L,rs.mono (B.stab rm),j,mb _ _ _ _ (λd M2 k=>k.ext B) z⟩
theorem E1(ma:ad ta)(B:PE X a (lE X.K ta)):PE X (.UnaryOp .Not a pos) (lE X.K (oh ta)):=by refine PE.imp (Dd B) λσ H Q h=>?_;obtain⟨ρ,M,rs,rm,q⟩:=h;refine⟨ρ,M,rs,rm,ma _ _ _ _ (λx J g9 v H1 G j z=>?_) q⟩;obtain⟨c,e,F⟩:=g9;subst e;exact⟨c,WT.mp z,F _ H1 G j (WT.mpr rfl)⟩
noncomputable def wIf(t:TTd)(ta tb:TEd):TEd:=λρ M Q=>t ρ M λc M1=>if c=F2 then ta ρ M1 Q else tb ρ M1 Q
theorem BD{t:TTd}(h:aO t)(z:ad ta)(B:ad tb):ad (wIf t ta tb):=λρ M Q Q' i q=>h _ _ _ _ (λc F j=>by
 cases c with
 |true=>rw[if_pos rfl]at j⊢;exact z _ _ _ _ i j
 |false=>rw[if_neg LJ]at j⊢;exact B _ _ _ _ i j) q
theorem FO{c:Expr}{t:TTd}(mt:aO t)(ma:ad ta)(mb:ad tb)(G:PT X c (lT X.K t))(J:PE X a (lE X.K ta))(L:PE X b (lE X.K tb)):PE X (.IfExp c a b pos) (lE X.K (wIf t ta tb)):=by
 refine PE.imp (y9 G J L) λσ H Q h=>?_;obtain⟨ρ,M,rs,rm,q⟩:=h;refine⟨ρ,M,rs,rm,mt _ _ _ _ (λx F z H1 B j=>?_) q⟩
 cases x with
 |true=>rw[if_pos rfl]at z⊢;exact⟨ρ,F,rs.mono (B.stab rm),j,ma _ _ _ _ (λd M2 k=>k.ext B) z⟩
 |false=>rw[if_neg LJ]at z⊢;exact⟨ρ,F,rs.mono (B.stab rm),j,mb _ _ _ _ (λd M2 k=>k.ext B) z⟩
noncomputable def cc(xs:List D)(lo hi:Option Int):List D:=(xs.drop (HT.sIx xs.length 0 lo)).take (HT.sIx xs.length xs.length hi-HT.sIx xs.length 0 lo)
theorem pX(r:RDs K H ds vs)(lo hi:Option Int):RDs K H (cc ds lo hi) (gI vs lo hi):=by unfold cc gI;rw[r.length];exact(r.drop _).take _
noncomputable abbrev TOd:=au->Mem->(Option Int->Mem->Prop)->Prop
def dL(T:TOd):Prop:=∀ρ M Q Q',(∀d M',Q d M'->Q' d M')->T ρ M Q->T ρ M Q'
noncomputable def im:TOd:=λ_ M Q=>Q Y M
noncomputable def io(t:TEd):TOd:=λρ M Q=>t ρ M λx M1=>∃i,x=.int i/\Q (Z i) M1
theorem rC:dL im:=λ_ _ _ _ h q=>h _ _ q
theorem gO(h:ad ta):dL (io ta):=λρ M Q Q' i q=>h _ _ _ _ (λx B j=>(by obtain⟨c,e,z⟩:=j;exact⟨c,e,i _ _ z⟩)) q
noncomputable def lO(K:Frag)(T:TOd):TO:=λσ H Q=>∃ρ M,RS K H σ ρ/\RM K M H/\T ρ M (λo M'=>∀H',Ext M H M' H'->RM K M' H'->Q o H')
theorem BE:PO X Y (lO X.K im):=λpins s σ H Q I h=>by obtain⟨ρ,M,rs,rm,q⟩:=h;exact Bb pins s σ H Q I (q H Ext.refl rm)
theorem se(m:ad ta)(h:PE X e (lE X.K ta)):PO X (Z e) (lO X.K (io ta)):=λpins s σ H Q I hq=>by obtain⟨ρ,M,rs,rm,q⟩:=hq;refine Bc h pins s σ H Q I ⟨ρ,M,rs,rm,m _ _ _ _ (λx G g9 v H1 F j z=>?_) q⟩;obtain⟨i,e,B⟩:=g9;subst e;exact⟨i,WQ.mp z,B H1 F j⟩
noncomputable def gP:D->Option Int->Option Int->Mem->QD->Prop:=λx lo hi M Q=>match x with
 |.tup ds=>Q (.tup (cc ds lo hi)) M
 |.ref a=>∃ds,M a=Z (.lst ds)/\∀p,M p=Y->Q (.ref p) (ag M p (.lst (cc ds lo hi)))
 |.con ds=>∀p,M p=Y->Q (.ref p) (ag M p (.lst (cc ds lo hi)))
 |_=>False
noncomputable def wSl(te:TEd)(tl th:TOd):TEd:=λρ M Q=>te ρ M λx M1=>tl ρ M1 λl M2=>th ρ M2 λu M3=>gP x l u M3 Q
theorem u9{lo hi:Option Int}{Q Q':QD}(h:∀d M',Q d M'->Q' d M')(q:gP x lo hi M Q):gP x lo hi M Q':=by
 cases x with
 |tup ds=>exact h _ _ q
 |ref a=>obtain⟨ds,e,q⟩:=q;exact⟨ds,e,λp n=>h _ _ (q p n)⟩
 |con ds=>exactλp n=>h _ _ (q p n)
 |_=>exact q.elim
theorem BG{tl th:TOd}(m:ad ta)(ml:dL tl)(mh:dL th):ad (wSl ta tl th):=λρ M Q Q' i q=>m _ _ _ _ (λx F j=>ml _ _ _ _ (λl M2 z=>mh _ _ _ _ (λu G B=>u9 i B) z) j) q
theorem FQ{lo hi:Option Expr}{tl th:TOd}{p2:Pos}(m:ad ta)(ml:dL tl)(mh:dL th)(he:PE X e (lE X.K ta))(hl:PO X lo (lO X.K tl))(hu:PO X hi (lO X.K th)):
 PE X (.Subscript e (.Slice lo hi Y p2) pos) (lE X.K (wSl ta tl th)):=by
 refine PE.imp (yo (sl_tup.or (sl_list.or yp)) he hl hu) λσ H Q h=>?_;obtain⟨ρ,M,rs,rm,q⟩:=h;refine⟨ρ,M,rs,rm,m _ _ _ _ (λx M1 q1 v H1 O G U=>?_) q⟩;refine⟨ρ,M1,rs.mono (O.stab rm),G,ml _ _ _ _ (λl M2 q2 H2 Fn L=>?_) q1⟩;refine⟨ρ,M2,(rs.mono (O.stab rm)).mono (Fn.stab G),L,mh _ _ _ _ (λu M3 z H3 fv j=>?_) q2⟩;have B:=O.trans (Fn.trans fv);have F:=(U.mono (Fn.stab G)).mono (fv.stab L)
 cases x with
 |tup ds=>
  obtain⟨a,vs,rfl,J,r⟩:=WW F
  by_cases hw:HT.sIx vs.length 0 l=0/\HT.sIx vs.length vs.length u=vs.length
  ·refine .inr (.inr ⟨a,vs,rfl,J,hw,?_⟩);have e:cc ds l u=ds:=by
    unfold cc;rw[<-r.length,hw.1,hw.2,r.length];simp
   simp only[gP]at z;rw[e]at z;exact z.ext B _ H3 Ext.refl j F
  ·simp only[gP]at z;exact .inl ⟨a,vs,rfl,J,hw,λp n=>dR j (pX r l u) (z.ext B) n⟩
 |ref a=>
  cases WR.mp F
  obtain⟨ds,e,z⟩:=z;obtain⟨vs,J,r⟩:=j _ _ e;exact .inr (.inl ⟨a,vs,rfl,SqL.of J,λp n=>cm j (pX r l u) (λp' n'=>(z p' n').ext B) n⟩)
 |con ds=>obtain⟨a,vs,rfl,J,r⟩:=WV.mp F;exact .inr (.inl ⟨a,vs,rfl,J.sq,λp n=>cm j (pX r l u) (λp' n'=>(z p' n').ext B) n⟩)
 |_=>exact z.elim
end
end
variable{ta:TEd}{p pos:Pos}{tg:Expr}{H1:Hp}
section
section
variable{X:Cx}
noncomputable def tyN(M:Mem):D->Option String
 |.non=>Z "NoneType"
 |.bl _=>Z "bool"
 |.int _=>Z "int"
 |.str _=>Z "str"
 |.tup _=>Z "tuple"
 |.ref a=>match M a with
  |some (.lst _)=>Z "list"
  |some (.dct _ _)=>Z "dict"
  |_=>Y
 |.con _=>Y
 |.fn _=>Y
noncomputable def yX(T t:String):Bool:=t==T || (t=="bool"&&T=="int")
theorem FR{t:String}(rm:RM K M H)(r:RD K H x v)(e:tyN M x=Z t):cN K H v (.type t):=by
 cases x with
 |non=>cases e;cases WX.mp r;exact .non
 |bl k=>cases e;cases WT.mp r;exact .bl k
 |int i=>cases e;cases WQ.mp r;exact .int i
 |str i=>cases e;cases WY.mp r;exact .str i
 |tup ds=>
  cases e
  obtain⟨a,vs,rfl,j,rs⟩:=WW r;exact .tup j
 |con ds=>cases e
 |fn _=>cases e
 |ref a=>
  cases WR.mp r
  simp only[tyN]at e
  cases e0:M a with
  |none=>rw[e0]at e;cases e
  |some o=>
   rw[e0]at e
   cases o with
   |lst ds=>
    cases e
    obtain⟨vs,j,rs⟩:=rm _ _ e0;exact .lst j
   |dct t kvs=>
    cases e
    have ro:=rm _ _ e0
    cases t with
    |false=>obtain⟨ps,j,_⟩:=ro;exact .dK j
    |true=>obtain⟨ps,j,_⟩:=ro;exact .dT j
   |fdc kvs=>cases e
   |dcn _=>cases e
   |tab _ _=>cases e
   |fdn _=>cases e
noncomputable def dS:List String:=["NoneType","bool","int","str","tuple","list","dict"]
theorem BH(K:Frag):∀T∈["bool","int","str","tuple","list","dict"],∀t∈dS,PySem.W.kitOne K (.type t) (.type T)=Z (yX T t):=by
 intro T j t z;simp only[dS,LI,MM,or_false]at j z
 rcases j with rfl|rfl|rfl|rfl|rfl|rfl<;>rcases z with rfl|rfl|rfl|rfl|rfl|rfl|rfl<;>rfl
noncomputable def oi(T:String)(ta:TEd):TEd:=λρ M Q=>ta ρ M λx M1=>∃t,tyN M1 x=Z t/\Q (.bl (yX T t)) M1
theorem w9{T:String}(h:ad ta):ad (oi T ta):=λρ M Q Q' i q=>h _ _ _ _ (λx B j=>(by obtain⟨t,e,z⟩:=j;exact⟨t,e,i _ _ z⟩)) q
theorem BI{t:String}(e:tyN M x=Z t):t∈dS:=by
 cases x with
 |ref a=>
  simp only[tyN]at e
  cases e0:M a with
  |none=>rw[e0]at e;cases e
  |some o=>rw[e0]at e;cases o<;>cases e<;>simp[dS]
 |con _=>cases e
 |fn _=>cases e
 |_=>cases e;simp[dS]
theorem wa(T:String)(j:T∈["bool","int","str","tuple","list","dict"]):CallR X (.builtin "isinstance") (λvs H Q=>∃v t,vs=[v,.ty T]/\cN X.K H v (.type t)/\t∈dS/\Q (.bl (yX T t)) H):=by
 intro pins s σ H xs us Q I r h;obtain⟨v,t,rfl,ty,z,q⟩:=h;obtain⟨u,c,rfl,ru,rc⟩:=nV r
 cases rc
 exact vC I ru ty (BH X.K T j t z) λtk=>⟨.bl _,H,I.tok tk,rfl,q⟩
theorem BJ{T:String}{y:Str}{p2:Pos}(L:T∈["bool","int","str","tuple","list","dict"])(m:ad ta)(he:PE X e (lE X.K ta))(O:Gl X "isinstance")(hm:X.mg "isinstance"=Y)(z:Gl X y)(B:X.mg y=Y)(U:PR y=Z (.type T))(Fn:y≠"__name__")(F:(y==("__debug__":Str))=N2)(hs:Mk [e,.Name y p2] X.env=(N2,eval e X.env)::Mk [.Name y p2] X.env)(G:(PV pos (Mk [.Name y p2] X.env)).any (·.1)=N2):
 PE X (.Call (.Name "isinstance" p) [e,.Name y p2] [] pos) (lE X.K (oi T ta)):=by
 have h2:PE X (.Name y p2) (tC (.ty T)):=AY z B U rfl Fn F;refine PE.imp (ca (wa T L) O hm (by decide +kernel) (dQ he (dQ h2 jr rfl) hs) (by decide) (by decide) hs G) λσ H Q h=>?_
 obtain⟨ρ,M,rs,rm,q⟩:=h;exact⟨ρ,M,rs,rm,m _ _ _ _ (λx M1 fv v H1 x1 j J=>(by obtain⟨t,e,q1⟩:=fv;exact⟨v,t,rfl,FR j J e,BI e,q1 _ H1 x1 j (WT.mpr rfl)⟩)) q⟩
noncomputable def wBM(rd:D->List D->Mem->QD->Prop)(to:TEd)(t:TAd):TEd:=λρ M Q=>to ρ M λx M1=>(∃a xs,x=.ref a/\M1 a=Z (.lst xs))/\t ρ M1 λds M2=>rd x ds M2 Q
def jL(rd:D->List D->Mem->QD->Prop):Prop:=∀x ds M Q Q',(∀d M',Q d M'->Q' d M')->rd x ds M Q->rd x ds M Q'
theorem sg{rd:D->List D->Mem->QD->Prop}{to:TEd}{t:TAd}(j:jL rd)(mo:ad to)(mt:aR t):ad (wBM rd to t):=λρ M Q Q' i q=>mo _ _ _ _ (λx G z=>(by obtain⟨e,B⟩:=z;exact⟨e,mt _ _ _ _ (λds M2 F=>j _ _ _ _ _ i F) B⟩)) q
theorem FS(rm:RM K M H)(r:RD K H x v)(h:∃a xs,x=.ref a/\M a=Z (.lst xs)):tyV K "list" v H:=by
 obtain⟨a,xs,rfl,e⟩:=h
 cases WR.mp r
 obtain⟨vs,j,_⟩:=rm _ _ e;exact .inl ⟨rfl,vs,SqL.of j⟩
theorem si{rd:D->List D->Mem->QD->Prop}{r:V->List V->Hp->VK->Prop}{to:TEd}{t:TAd}(L:jL rd)(mo:ad to)(mt:aR t)(O:∀v vs H Q,lMt K rd v vs H Q->r v vs H Q)(σ:St)(H:Hp)(Q:VK)(h:lE K (wBM rd to t) σ H Q):tBM K "list" r (lE K to) (lA K t) σ H Q:=by obtain⟨ρ,M,rs,rm,q⟩:=h;refine⟨ρ,M,rs,rm,mo _ _ _ _ (λx U ⟨e,Fn⟩ v H1 G j z=>⟨FS j z e,?_⟩) q⟩;refine⟨ρ,U,rs.mono (G.stab rm),j,mt _ _ _ _ (λds M2 fv vs H2 J B F=>?_) Fn⟩;exact O v vs H2 Q ⟨x,ds,M2,B,z.mono (J.stab j),F,L _ _ _ _ _ (λd M' k=>k.ext (G.trans J)) fv⟩
noncomputable def iq:D->List D->Mem->QD->Prop:=λx ds M Q=>∃a xs y,x=.ref a/\ds=[y]/\M a=Z (.lst xs)/\xs.length<LK/\Q .non (ag M a (.lst (xs++[y])))
theorem iV:jL iq:=λ_ _ _ _ _ h j=>(by obtain⟨a,xs,y,e1,e2,B,z,q⟩:=j;exact⟨a,xs,y,e1,e2,B,z,h _ _ q⟩)
theorem kZ{o0:O}(rm:RM K M H)(m:M a=Z o0)(rd:RDs K H ds vs)(r:RD K H d v)(q:KE' K M H Q d (ag M a (.lst ds)))(w:fz (Z o0)=N2:=by rfl):
 Q v (upd H a (.lst vs)):=by
 have st:Stab H (upd H a (.lst vs)):=rm.stabPut m w;exact q v _ (Ext.put m w) (rm.put m ⟨vs,aB,rd.mono st⟩ w) (r.mono st)
theorem yY(v:V)(vs:List V)(H:Hp)(Q:VK)(h:lMt K iq v vs H Q):rR v vs H Q:=by
 obtain⟨x,ds,M,rm,rx,rs,a,xs,y,rfl,rfl,e,z,q⟩:=h
 cases WR.mp rx
 obtain⟨w,rfl,rw'⟩:=rs.one;obtain⟨us,j,ru⟩:=rm _ _ e;exact⟨a,us,w,rfl,rfl,j,by rw[ru.length];exact z,kZ rm e (ru.append (RDs.cons rw' RDs.nil)) (WX.mpr rfl) q⟩
noncomputable abbrev BT:=D->au->Option au
noncomputable abbrev BTs:=List D->au->Option au
noncomputable def cU(i:Nat):BT:=λd ρ=>Z (ρ.set i (Z d))
noncomputable def j8:BTs:=λds ρ=>match ds with|[]=>Z ρ|_=>Y
noncomputable def cC(b:BT)(bs:BTs):BTs:=λds ρ=>match ds with|d::r=>(b d ρ).bind λρ'=>bs r ρ'|[]=>Y
noncomputable def yZ(bs:BTs):BT:=λd ρ=>match d with|.tup ds=>bs ds ρ|_=>Y
noncomputable def lG(K:Frag)(b:BT):TG:=λv σ H Q=>∃d ρ ρ',RD K H d v/\RS K H σ ρ/\b d ρ=Z ρ'/\∀σ',RS K H σ' ρ'->Q σ' H
noncomputable def lGs(K:Frag)(b:BTs):TGs:=λvs σ H Q=>∃ds ρ ρ',RDs K H ds vs/\RS K H σ ρ/\b ds ρ=Z ρ'/\∀σ',RS K H σ' ρ'->Q σ' H
theorem PG.imp{t t':TG}(h:PG X e t)(i:∀v σ H Q,t' v σ H Q->t v σ H Q):PG X e t':=λpins s σ H v u Q I r q=>h pins s σ H v u Q I r (i _ _ _ _ q)
theorem PGs.imp{e:List Expr}{t t':TGs}(h:PGs X e t)(i:∀v σ H Q,t' v σ H Q->t v σ H Q):PGs X e t':=λpins s σ H v u Q I r q=>h pins s σ H v u Q I r (i _ _ _ _ q)
theorem BK{i:Nat}{x:Str}(j:X.N.Nodup)(hi:X.N[i]?=Z x)(hx:Loc X.env.scope x)(hf:X.fn x=F2∨X.env.scope.names.lookup x=Z .local):PG X (.Name x pos) (lG X.K (cU i)):=
 PG.imp (rM j hi hx hf) λv σ H Q ⟨d,ρ,ρ',r,rs,e,q⟩=>by
  cases e
  exact q _ (rs.set i r)
theorem BM:PGs X [] (lGs X.K j8):=PGs.imp B3 λvs σ H Q ⟨ds,ρ,ρ',r,rs,e,q⟩=>by
 cases ds with
 |nil=>cases e;exact⟨RDs.nil_iff.mp r,q σ rs⟩
 |cons _ _=>cases e
theorem za{es:List Expr}{b:BT}{bs:BTs}(h1:PG X e (lG X.K b))(h2:PGs X es (lGs X.K bs))(hs:(NB (e::es) X.env).map (·.2)=assign e X.env::(NB es X.env).map (·.2)):
 PGs X (e::es) (lGs X.K (cC b bs)):=PGs.imp (yc h1 h2 hs) λvs σ H Q ⟨ds,ρ,ρ',r,rs,e,q⟩=>by
 cases ds with
 |nil=>cases e
 |cons d ds=>
  obtain⟨v,vr,rfl,j,z⟩:=WS.mp r;simp only[cC]at e
  cases e1:b d ρ with
  |none=>rw[e1]at e;cases e
  |some ρ1=>rw[e1]at e;exact⟨v,vr,rfl,d,ρ,ρ1,j,rs,e1,λσ' rs'=>⟨ds,ρ1,ρ',z,rs',e,q⟩⟩
theorem E2{es:List Expr}{k:Nat}{bs:BTs}{n:Nat}(z:X.calm=F2)(hlen:∀ds ρ ρ',bs ds ρ=Z ρ'->ds.length=n)(h:PGs X es (lGs X.K bs))(B:(NB es X.env).length=n)(j:(NB es X.env).findIdx? (·.1)=Y):
 PG X (.Tuple es k pos) (lG X.K (yZ bs)):=PG.imp (Dj z h B j) λv σ H Q ⟨d,ρ,ρ',r,rs,e,q⟩=>by
 cases d with
 |tup ds=>obtain⟨a,vs,rfl,F,rv⟩:=WW r;exact⟨a,vs,rfl,F,by rw[rv.length];exact hlen _ _ _ e,ds,ρ,ρ',rv,rs,e,q⟩
 |_=>cases e
noncomputable abbrev TId:=au->Mem->(List D->(Mem->Prop)->Mem->Prop)->Prop
def cn(T:TId):Prop:=∀ρ M Q Q',(∀xs c M',Q xs c M'->Q' xs c M')->T ρ M Q->T ρ M Q'
def Yl(H H':Hp):Prop:=H'=H∨∃q vs,H q=Y/\H'=upd H q (.tup vs)
def gQ(K:Frag)(H1:Hp)(xs:List D)(chk:Mem->Prop)(J:It):Prop:=∀M H,Stab H1 H->RM K M H->chk M->∀i,(xs.length<=i->J.stop i H)/\(i<xs.length->J.go i H /\
 ∀x H',J.yld i H x H'->Yl H H'/\∃d,xs[i]?=Z d/\RD K H' d x)
noncomputable def lI(K:Frag)(T:TId):TI:=λσ H R=>∃ρ M,RS K H σ ρ/\RM K M H/\T ρ M (λxs chk M1=>∀J H1,Ext M H M1 H1->RM K M1 H1->gQ K H1 xs chk J->R J H1)
theorem PI.imp{t t':TI}(h:PI X tg e t)(i:∀σ H Q,t' σ H Q->t σ H Q):PI X tg e t':=λpins s σ H Q I q=>h pins s σ H Q I (i _ _ _ q)
theorem Yl.ext{H':Hp}(rm:RM K M H)(y:Yl H H'):Ext M H M H'/\RM K M H':=by
 rcases y with rfl|⟨q,vs,n,rfl⟩
 ·exact⟨Ext.refl,rm⟩
 ·exact⟨X1 n,rm.new n⟩
noncomputable def GY(K:Frag)(tl:TE):TI:=λσ H R=>tl σ H λx H1=>∃a,x=.ref a/\(((∃xs,SqL K H1 a xs)/\R (Itl K a) H1)∨((∃xs,SqT K H1 a xs)/\R (Itt K a) H1))
theorem E3{l:Expr}{tl:TE}(F:PE X l tl):PI X tg l (GY X.K tl):=by
 intro pins s σ H R I h;refine thn (F pins s σ H _ I h) λv s1 G=>?_;obtain⟨x,H1,j,J,L⟩:=G;obtain⟨a,e,q⟩:=L;subst e
 cases J
 rcases q with⟨⟨xs,z⟩,q⟩|⟨⟨xs,z⟩,q⟩
 ·obtain⟨its,rv,p,O⟩:=j.list z;refine Oo p.isList ?_;refine⟨s1.heap.objs.size,[s1.heap.objs.size],_,_,H1,rfl,j.kept (t':=s1.toks) λb o e=>q7 _ e,vq a _,⟨_,LF _ rfl,rfl,rfl⟩,λb B=>?_,q⟩;have e:b=s1.heap.objs.size:=by simpa using B
  subst e;exact j.fpOk (LW _) (j.hok.fresh (LW _))
 ·obtain⟨its,rv,p,O⟩:=j.tuple z;refine Od (show s1.heap.IsTuple a its.toArray from p) ?_;refine⟨s1.heap.objs.size,[s1.heap.objs.size],_,_,H1,rfl,j.kept (t':=s1.toks) λb o e=>q7 _ e,tI a _,⟨_,LF _ rfl,rfl,rfl⟩,λb B=>?_,q⟩;have e:b=s1.heap.objs.size:=by simpa using B
  subst e;exact j.fpOk (LW _) (j.hok.fresh (LW _))
noncomputable def ua(ta:TEd):TId:=λρ M R=>ta ρ M λx M1=>∃ds,aN M1 x=Z ds/\R ds (λM=>aN M x=Z ds) M1
theorem zb(h:ad ta):cn (ua ta):=λρ M Q Q' i q=>h _ _ _ _ (λx B j=>(by obtain⟨ds,e,z⟩:=j;exact⟨ds,e,i _ _ _ z⟩)) q
theorem wb{chk:Mem->Prop}(h:∀M H,Stab H1 H->RM K M H->chk M->∃vs,SqL K H a vs/\RDs K H ds vs):gQ K H1 ds chk (Itl K a):=λM H st rm c i=>by
 obtain⟨vs,sq,r⟩:=h M H st rm c;have l:=r.length;refine⟨λhi=>⟨vs,sq,∅⟩,λhi=>⟨⟨vs,vs[i]'∅,sq,z0 ∅⟩,λx H' y=>?_⟩⟩
 obtain⟨e,y⟩:=y;subst e;exact⟨.inl rfl,r.getV (y vs sq)⟩
theorem E4{chk:Mem->Prop}(h:∀M H,Stab H1 H->RM K M H->chk M->∃vs,SqT K H a vs/\RDs K H ds vs):gQ K H1 ds chk (Itt K a):=λM H st rm c i=>by
 obtain⟨vs,sq,r⟩:=h M H st rm c;have l:=r.length;refine⟨λhi=>⟨vs,sq,∅⟩,λhi=>⟨⟨vs,vs[i]'∅,sq,z0 ∅⟩,λx H' y=>?_⟩⟩
 obtain⟨e,y⟩:=y;subst e;exact⟨.inl rfl,r.getV (y vs sq)⟩
theorem E5{l:Expr}(m:ad ta)(G:PE X l (lE X.K ta)):PI X tg l (lI X.K (ua ta)):=by
 refine PI.imp (E3 G) λσ H R h=>?_;obtain⟨ρ,M,rs,rm,q⟩:=h;refine⟨ρ,M,rs,rm,m _ _ _ _ (λx L g9 v H1 F j rd1=>?_) q⟩;obtain⟨ds,e,B⟩:=g9
 cases x with
 |tup es=>
  cases e
  obtain⟨a,vs,rfl,z,rv⟩:=WW rd1;exact⟨a,rfl,.inr ⟨⟨vs,z⟩,B _ H1 F j (E4 λM' H' st _ _=>⟨vs,st.sqT z,rv.mono st⟩)⟩⟩
 |con es=>
  cases e
  obtain⟨a,vs,rfl,z,rv⟩:=WV.mp rd1;exact⟨a,rfl,.inl ⟨⟨vs,z.sq⟩,B _ H1 F j (wb λM' H' st _ _=>⟨vs,(st.sqF z).sq,rv.mono st⟩)⟩⟩
 |ref a=>
  cases WR.mp rd1
  have get:∀{M':Mem} {es:List D},aN M' (.ref a)=Z es->M' a=Z (.lst es):=λ{M' es} e=>by
   simp only[aN]at e
   cases e0:M' a with
   |none=>rw[e0]at e;cases e
   |some o=>
    rw[e0]at e
    cases o with
    |dct _ _=>cases e
    |fdc _=>cases e
    |dcn _=>cases e
    |tab _ _=>cases e
    |fdn _=>cases e
    |lst es'=>cases e;rfl
  obtain⟨vs,z,rv⟩:=j _ _ (get e);exact⟨a,rfl,.inl ⟨⟨vs,SqL.of z⟩,B _ H1 F j (wb λM' H' st rm' c=>by obtain⟨us,J,ru⟩:=rm' _ _ (get c);exact⟨us,SqL.of J,ru⟩)⟩⟩
 |_=>cases e
noncomputable def cA(lo:Int)(n:Nat):List D:=(D0 n).map λi=>.int (lo+(i:Nat))
theorem wc{lo:Int}{n:Nat}:gQ K H1 (cA lo n) (λ_=>True) (Itr lo n):=λM H st rm c i=>by
 have l:(cA lo n).length=n:=by simp[cA]
 refine⟨λhi=>by show n<=i;lia,λhi=>⟨by show i<n;lia,λx H' y=>?_⟩⟩
 obtain⟨e,y⟩:=y;subst e y;refine⟨.inl rfl,.int (lo+i),?_,WQ.mpr rfl⟩;simp only[cA,LQ,MD (show i<n by lia),Pk]
noncomputable def oj(ta:TAd):TId:=λρ M R=>ta ρ M λds M1=>∃j:Int,ds=[.int j] /\ -(2^62)<=j/\j<2^62/\R (cA 0 j.toNat) (λ_=>True) M1
noncomputable def oo(ta:TAd):TId:=λρ M R=>ta ρ M λds M1=>∃i j:Int,ds=[.int i,.int j]/\(-(2^62)<=i/\i<2^62 /\ -(2^62)<=j/\j<2^62)/\R (cA i (j-i).toNat) (λ_=>True) M1
theorem wd{ta:TAd}(h:aR ta):cn (oj ta):=λρ M Q Q' i q=>h _ _ _ _ (λx F z=>(by obtain⟨j,e,a,b,B⟩:=z;exact⟨j,e,a,b,i _ _ _ B⟩)) q
theorem we{ta:TAd}(h:aR ta):cn (oo ta):=λρ M Q Q' i q=>h _ _ _ _ (λx F z=>(by obtain⟨k,j,e,a,B⟩:=z;exact⟨k,j,e,a,i _ _ _ B⟩)) q
theorem BN{a:Expr}{ta:TAd}(m:aR ta)(B:Gl X "range")(hm:X.mg "range"=Y)(F:PA X [a] (lA X.K ta))(hs:Mk [a] X.env=[(N2,eval a X.env)]):PI X tg (.Call (.Name "range" p) [a] [] pos) (lI X.K (oj ta)):=by
 refine PI.imp (vt B hm F hs) λσ H R h=>?_;obtain⟨ρ,M,rs,rm,q⟩:=h;refine⟨ρ,M,rs,rm,m _ _ _ _ (λds U g9 vs H1 O z rd1=>?_) q⟩;obtain⟨j,e,G,J,L⟩:=g9;subst e;obtain⟨v,rfl,r⟩:=rd1.one
 cases WQ.mp r
 exact⟨j,rfl,G,J,L _ H1 O z wc⟩
theorem BO{a b:Expr}{ta:TAd}(m:aR ta)(G:Gl X "range")(hm:X.mg "range"=Y)(J:PA X [a,b] (lA X.K ta))(hs:Mk [a,b] X.env=[(N2,eval a X.env),(N2,eval b X.env)])(B:Mk [b] X.env=[(N2,eval b X.env)]):
 PI X tg (.Call (.Name "range" p) [a,b] [] pos) (lI X.K (oo ta)):=by
 refine PI.imp (vw G hm J hs B) λσ H R h=>?_;obtain⟨ρ,M,rs,rm,q⟩:=h;refine⟨ρ,M,rs,rm,m _ _ _ _ (λds fv g9 vs H1 O F rd1=>?_) q⟩;obtain⟨i,j,e,z,L⟩:=g9;subst e;obtain⟨v,u,rfl,U,Fn⟩:=rd1.two
 cases WQ.mp U
 cases WQ.mp Fn
 exact⟨i,j,rfl,z,L _ H1 O F wc⟩
end
end
end Mi
section
section
variable{X:Cx}
theorem zc{a b:Expr}{p2 j:Pos}(O:X.calm=F2)(U:PA X [a,b] ta)(Fn:Gl X "list")(hm:X.mg "list"=Y)(G:Gl X "range")(J:X.mg "range"=Y)(hs:Mk [a,b] X.env=[(N2,eval a X.env),(N2,eval b X.env)])(z:Mk [b] X.env=[(N2,eval b X.env)]):
 PE X (.Call (.Name "list" p) [.Call (.Name "range" p2) [a,b] [] j] [] pos) (λσ H Q=>ta σ H λvs H1=>∃(i:Int) (n:Nat),vs=[.int i,.int (i+n)]/\0<=i/\i<=1000000/\n<=1000000/\∀q,H1 q=Y->Q (.ref q) (upd H1 q (.lst ((D0 n).map λk=>V.int (i+(k:Nat)))))):=by
 intro pins s σ H Q I h;refine NI (bZ I Fn hm (u:=.type "list") (by decide +kernel) ?_ (by decide) (by decide))
 refine Nc ?_ rfl rfl;refine P4 ?_;refine NI (bZ I G J (u:=.type "range") Wq ?_ (by decide) (by decide))
 refine Nc (thn (U j pins s σ H _ I h) λus s1 fv=>?_) (by rw[hs,z]) (by rw[z];rfl)
 obtain⟨vs,H1,B,r1,q1⟩:=fv;obtain⟨i,n,rfl,h0,hi,hn,q⟩:=q1;obtain⟨u1,u2,t,t',rfl,rfl,rfl⟩:∃u1 u2 t t',us=[u1,u2]/\u1=.int i t/\u2=.int (i+(n:Nat)) t':=by
  cases r1 with
  |cons r rr=>
   cases rr with
   |cons r' rr=>
    cases rr
    obtain⟨t,rfl⟩:=r;obtain⟨t',rfl⟩:=r';exact⟨_,_,t,t',rfl,rfl,rfl⟩
 refine call_range_2 (Qn ?_);have I2:Inv X pins σ H1 {s1 with heap:=s1.heap.push {cls:=.type "range",data:=.fields #[.int i t,.int (i+(n:Nat)) t',.int 1 s1.toks]},toks:=s1.toks+1}:=B.kept (t':=s1.toks+1) λb ob q=>q7 _ q
 obtain⟨m,F⟩:=I2.fr;have hsz:QX i (i+(n:Nat)) 1=((n:Nat):Int):=by
  unfold QX;rw[if_pos (by decide)]
  by_cases h0:i<i+(n:Nat)
  ·rw[if_pos h0];lia
  ·rw[if_neg h0];lia
 refine list_rangeD (news:=[]) (B.ok.hd O) F (λ_ hp=>by cases hp) (LF _ rfl) ?_ hsz ∅ λh' tk ys _ _ kp _ _ np car=>?_
 ·exact small_one ∅ ∅ ∅ ∅
 ·have L:=gM car;have er:(rangeInts i 1 n).map V.int=(D0 n).map fun k=>V.int (i+(k:Nat)):=by
   unfold rangeInts;rw[NJ];exact MV λi _=>by simp
  rw[er]at L;obtain⟨⟨c',e'⟩,_⟩:=np;have e2:(s1.heap.push {cls:=.type "range",data:=.fields #[.int i t,.int (i+(n:Nat)) t',.int 1 s1.toks]}).objs.size=s1.heap.objs.size+1:=NT ..;have kp':∀b o,s1.heap.get? b=Z o->h'.get? b=Z o:=λb o e=>kp b o (q7 _ e);refine⟨.ref (s1.heap.push {cls:=.type "range",data:=.fields #[.int i t,.int (i+(n:Nat)) t',.int 1 s1.toks]}).objs.size,_,B.laid (t':=tk) (o:=.lst ((D0 n).map λk=>V.int (i+(k:Nat)))) kp' (by rw[e2];lia) ?_,rfl,q _ (B.hok.fresh (by rw[e2];lia))⟩
  exact⟨by rw[tv,Mx,I7];lia,ys,c',L,e'⟩
end
namespace Mi
variable{K:Frag}{H:Hp}{a:Expr}{p pos:Pos}
section
variable{X:Cx}
noncomputable def jM(ta:TAd):TEd:=λρ M Q=>ta ρ M λds M1=>∃(i:Int) (n:Nat),ds=[.int i,.int (i+n)]/\0<=i/\i<=1000000/\n<=1000000/\∀p,M1 p=Y->Q (.ref p) (ag M1 p (.lst ((D0 n).map λk=>D.int (i+(k:Nat)))))
theorem ub{ta:TAd}(h:aR ta):ad (jM ta):=λρ M Q Q' i q=>h _ _ _ _ (λds F z=>(by obtain⟨j,n,e,e0,e1,e2,B⟩:=z;exact⟨j,n,e,e0,e1,e2,λp n=>i _ _ (B p n)⟩)) q
theorem uc(i:Int)(n:Nat):RDs K H ((D0 n).map λk=>D.int (i+(k:Nat))) ((D0 n).map λk=>V.int (i+(k:Nat))):=by have:=X6 (K:=K) (H:=H) ((D0 n).map λk=>i+((k:Nat):Int));rw[NJ,NJ]at this;exact this
theorem ze{b:Expr}{ta:TAd}{p2 j:Pos}(m:aR ta)(L:X.calm=F2)(O:PA X [a,b] (lA X.K ta))(U:Gl X "list")(hm:X.mg "list"=Y)(B:Gl X "range")(F:X.mg "range"=Y)(hs:Mk [a,b] X.env=[(N2,eval a X.env),(N2,eval b X.env)])(G:Mk [b] X.env=[(N2,eval b X.env)]):
 PE X (.Call (.Name "list" p) [.Call (.Name "range" p2) [a,b] [] j] [] pos) (lE X.K (jM ta)):=by
 refine PE.imp (zc L O U hm B F hs G) λσ H Q h=>?_;obtain⟨ρ,M,rs,rm,q⟩:=h;refine⟨ρ,M,rs,rm,m _ _ _ _ (λds M1 g9 vs H1 x1 J rd1=>?_) q⟩;obtain⟨i,n,e,h0,hi,Fn,fv⟩:=g9;subst e;obtain⟨v,u,rfl,r1,r2⟩:=rd1.two
 cases WQ.mp r1
 cases WQ.mp r2
 exact⟨i,n,rfl,h0,hi,Fn,λp z=>cm J (uc i n) (λp' n'=>(fv p' n').ext x1) z⟩
end
variable{ta:TEd}{M:Mem}{x:D}{H1:Hp}{xs:List D}{pos':Pos}
section
section
variable{X:Cx}
noncomputable def isT:D->Bool|.tup _=>F2|_=>N2
theorem fG{ds:List D}{v:V}(rm:RM K M H)(r:RD K H x v)(e:aN M x=Z ds):∃p vs,v=.ref p/\SqV K (isT x) H p vs/\RDs K H ds vs:=by
 cases x with
 |tup es=>
  cases e
  obtain⟨a,vs,rfl,j,rv⟩:=WW r;exact⟨a,vs,rfl,j,rv⟩
 |con es=>
  cases e
  obtain⟨a,vs,rfl,j,rv⟩:=WV.mp r;exact⟨a,vs,rfl,j.sq,rv⟩
 |ref a=>
  cases WR.mp r
  simp only[aN]at e
  cases e0:M a with
  |none=>rw[e0]at e;cases e
  |some o=>
   rw[e0]at e
   cases o with
   |dct _ _=>cases e
   |fdc _=>cases e
   |dcn _=>cases e
   |tab _ _=>cases e
   |fdn _=>cases e
   |lst es=>
    cases e
    obtain⟨vs,j,rv⟩:=rm _ _ e0;exact⟨a,vs,rfl,SqL.of j,rv⟩
 |_=>cases e
noncomputable def ir(x y:D):D:=.tup [x,y]
noncomputable def lc(ta tb:TEd):TId:=λρ M R=>av ta (av tb aX) ρ M λds M1=>∃x y xs ys,ds=[x,y]/\aN M1 x=Z xs/\aN M1 y=Z ys/\R (Ra ir xs ys) (λM=>aN M x=Z xs/\aN M y=Z ys) M1
theorem zf{tb:TEd}(j:ad ta)(z:ad tb):cn (lc ta tb):=λρ M Q Q' i q=>am j (am z ar) _ _ _ _ (λds G B=>(by obtain⟨x,y,xs,ys,e,e1,e2,F⟩:=B;exact⟨x,y,xs,ys,e,e1,e2,i _ _ _ F⟩)) q
theorem pY{p:Xc}{o:HO}(n:H p=Y):Stab H (upd H p o):=⟨λa xs e=>by rw[ao (λz=>by rw[z,n]at e;cases e)];exact e,λa o u e=>by rw[ao (λz=>by rw[z,n]at e;cases e)];exact e⟩
theorem E6{y:D}{ys:List D}{a b:Xc}(rx:RD K H1 x (.ref a))(ry:RD K H1 y (.ref b)):gQ K H1 (Ra ir xs ys) (λM=>aN M x=Z xs/\aN M y=Z ys) (Itz K (isT x) (isT y) a b):=λM H st rm c i=>by
 obtain⟨U,vs,e1,j,J⟩:=fG rm (rx.mono st) c.1;obtain⟨p2,us,e2,z,L⟩:=fG rm (ry.mono st) c.2
 cases e1
 cases e2
 have l1:=J.length;have l2:=L.length;have lz:(Ra ir xs ys).length=min xs.length ys.length:=List.length_zipWith;refine⟨λhi=>⟨vs,us,j,z,∅⟩,λhi=>⟨⟨vs,us,vs[i]'∅,us[i]'∅,j,z,z0 ∅,z0 ∅⟩,λv H' O=>?_⟩⟩
 obtain⟨p,v1,v2,n,rfl,rfl,g⟩:=O;obtain⟨g1,g2⟩:=g vs us j z;obtain⟨d1,B,F⟩:=J.getV g1;obtain⟨d2,hd2,G⟩:=L.getV g2;have sb:=pY (o:=.tup [v1,v2]) n;refine⟨.inr ⟨p,[v1,v2],n,rfl⟩,.tup [d1,d2],?_,WZ ⟨p,[v1,v2],rfl,aB,RDs.cons (F.mono sb) (RDs.cons (G.mono sb) RDs.nil)⟩⟩;rw[List.getElem?_zipWith,B,hd2];rfl
theorem E7{elts:List Expr}{cx}{b:Expr}{tb:TEd}(ma:ad ta)(mb:ad tb)(G:Gl X "zip")(hm:X.mg "zip"=Y)(J:PA X [a,b] (lA X.K (av ta (av tb aX))))(hs:Mk [a,b] X.env=[(N2,eval a X.env),(N2,eval b X.env)])(z:Mk [b] X.env=[(N2,eval b X.env)]):
 PI X (.Tuple elts cx pos) (.Call (.Name "zip" p) [a,b] [] pos') (lI X.K (lc ta tb)):=by
 refine PI.imp (DL G hm J hs z) λσ H R h=>?_;obtain⟨ρ,M,rs,rm,q⟩:=h;refine⟨ρ,M,rs,rm,am ma (am mb ar) _ _ _ _ (λds Fn g9 vs H1 O j rd1=>?_) q⟩;obtain⟨x,y,xs,ys,e,e1,e2,L⟩:=g9;subst e;obtain⟨v,u,rfl,B,F⟩:=rd1.two;obtain⟨U,vs,rfl,s1,_⟩:=fG j B e1;obtain⟨p2,us,rfl,s2,_⟩:=fG j F e2;exact⟨U,p2,isT x,isT y,vs,us,rfl,s1,s2,L _ H1 O j (E6 B F)⟩
end
end
section
section
variable{X:Cx}
noncomputable def fZ(xs:List D):List D:=xs.mapIdx λi x=>.tup [.int (i:Nat),x]
noncomputable def ot(ta:TEd):TId:=λρ M R=>ta ρ M λx M1=>∃xs,aN M1 x=Z xs/\R (fZ xs) (λM=>aN M x=Z xs) M1
theorem wf(h:ad ta):cn (ot ta):=λρ M Q Q' i q=>h _ _ _ _ (λx B j=>(by obtain⟨ds,e,z⟩:=j;exact⟨ds,e,i _ _ _ z⟩)) q
theorem E8{a:Xc}(rx:RD K H1 x (.ref a)):gQ K H1 (fZ xs) (λM=>aN M x=Z xs) (Ite K (isT x) a):=λM H st rm c i=>by
 obtain⟨J,vs,e1,j,F⟩:=fG rm (rx.mono st) c
 cases e1
 have l1:=F.length;have lz:(fZ xs).length=xs.length:=by simp[fZ]
 refine⟨λhi=>⟨vs,j,∅⟩,λhi=>⟨⟨vs,vs[i]'∅,j,z0 ∅⟩,λv H' G=>?_⟩⟩
 obtain⟨p,v1,n,rfl,rfl,g⟩:=G;obtain⟨d1,z,B⟩:=F.getV (g vs j);have sb:=pY (o:=.tup [.int (i:Nat),v1]) n;refine⟨.inr ⟨p,[.int (i:Nat),v1],n,rfl⟩,.tup [.int (i:Nat),d1],?_,WZ ⟨p,[.int (i:Nat),v1],rfl,aB,RDs.cons (WQ.mpr rfl) (RDs.cons (B.mono sb) RDs.nil)⟩⟩;simp[fZ,Um,z]
theorem BP{elts:List Expr}{cx}(ma:ad ta)(B:Gl X "enumerate")(hm:X.mg "enumerate"=Y)(F:PA X [a] (lA X.K (av ta aX)))(hs:Mk [a] X.env=[(N2,eval a X.env)]):
 PI X (.Tuple elts cx pos) (.Call (.Name "enumerate" p) [a] [] pos') (lI X.K (ot ta)):=by
 refine PI.imp (Bi B hm F hs) λσ H R h=>?_;obtain⟨ρ,M,rs,rm,q⟩:=h;refine⟨ρ,M,rs,rm,ma _ _ _ _ (λx O g9 vs H1 J j rd1=>?_) q⟩;obtain⟨xs,e1,G⟩:=g9;obtain⟨v,rfl,z⟩:=rd1.one;obtain⟨L,us,rfl,s1,_⟩:=fG j z e1;exact⟨L,isT x,us,rfl,s1,G _ H1 J j (E8 z)⟩
end
end
variable{b:BT}{vs:List V}{te:TEd}{src:TId}
section
noncomputable abbrev NC:=au->Mem->List D->Prop
noncomputable abbrev TCd:=au->Mem->List D->NC->Prop
def cq(T:TCd):Prop:=∀ρ M acc N N',(∀ρ' M' acc',N ρ' M' acc'->N' ρ' M' acc')->T ρ M acc N->T ρ M acc N'
structure ExtP(p:Xc)(M:Mem)(H:Hp)(M':Mem)(H':Hp):Prop where
 kp:∀a o,a≠p->fz (M a)=F2->H a=Z o->H' a=Z o
 nw:∀a o,fz (M a)=F2->H a=Z o->M' a=M a
section
variable{K:Frag}{M M' M'':Mem}{H H' H'':Hp}{p:Xc}
theorem ExtP.new(x:ExtP p M H M' H')(a:Xc)(o:HO)(n:M a=Y)(e:H a=Z o):M' a=Y:=(x.nw a o (by rw[n];rfl) e).trans n
theorem Ext.toP(x:Ext M H M' H'):ExtP p M H M' H':=⟨λa o _=>x.kp a o,x.nw⟩
theorem ExtP.refl:ExtP p M H M H:=⟨λ_ _ _ _ h=>h,λ_ _ _ _=>rfl⟩
theorem ExtP.trans(a:ExtP p M H M' H')(B:H p=Z (.lst vs))(j:∃vs',H' p=Z (.lst vs'))(b:ExtP p M' H' M'' H''):ExtP p M H M'' H'':=
 ⟨fun c o ne n h=>b.kp c o ne (by rw[a.nw c o n h];exact n) (a.kp c o ne n h),fun c o n h=>by
  have n':fz (M' c)=F2:=by rw[a.nw c o n h];exact n
  refine Eq.trans ?_ (a.nw c o n h)
  by_cases z:c=p
  ·subst z;obtain⟨vs',e⟩:=j;exact b.nw c _ n' e
  ·exact b.nw c o n' (a.kp c o z n h)⟩
theorem ExtP.stab(r:RM K M H)(j:H p=Z (.lst vs))(x:ExtP p M H M' H'):Stab H H' where
 tup:=λa xs e=>x.kp a _ (λz=>by subst z;rw[j]at e;cases e) (by rw[r.fzT e];rfl) e
 frz:=λa o u e=>x.kp a _ (λz=>by subst z;rw[j]at e;cases e) (r.fzF e) e
theorem pZ{ho:HO}(j:H p=Z (.lst vs)):Stab H (upd H p ho):=⟨λa xs e=>by rw[ao (λz=>by subst z;rw[j]at e;cases e)];exact e,λa o u e=>by rw[ao (λz=>by subst z;rw[j]at e;cases e)];exact e⟩
theorem RM.side{ho:HO}(r:RM K M H)(n:M p=Y)(j:H p=Z (.lst vs)):RM K M (upd H p ho):=λa o e=>by
 have ne:a≠p:=λz=>by subst z;rw[n]at e;cases e
 exact(r a o e).mono (pZ j) λB q=>by rw[ao ne];exact q
end
def iu(K:Frag)(H:Hp)(p:Xc)(acc:List D):Prop:=∃vs,H p=Z (.lst vs)/\RDs K H acc vs
noncomputable def KC(K:Frag)(p:Xc)(M:Mem)(H:Hp)(N:St->Hp->Prop):NC:=λρ' M' acc'=>∀σ' H',ExtP p M H M' H'->RS K H' σ' ρ'->RM K M' H'->iu K H' p acc'->N σ' H'
noncomputable def lC(K:Frag)(p:Xc)(T:TCd):TC:=λσ H N=>∃ρ M acc,RS K H σ ρ/\RM K M H/\M p=Y/\iu K H p acc/\T ρ M acc (KC K p M H N)
theorem KC.ext{p:Xc}{M2 M':Mem}{H2:Hp}{N:St->Hp->Prop}{ρ:au}{acc:List D}(z:H p=Z (.lst vs))(j:∃vs',H2 p=Z (.lst vs'))(x:ExtP p M H M2 H2)(h:KC K p M H N ρ M' acc):KC K p M2 H2 N ρ M' acc:=λσ' H' y=>h σ' H' (x.trans z j y)
noncomputable def eO(te:TEd):TCd:=λρ M acc N=>te ρ M λx M1=>acc.length<LK/\N ρ M1 (acc++[x])
noncomputable def br:List TTd->TCd->TCd
 |[],tb=>tb
 |t::r,tb=>λρ M acc N=>t ρ M λb M1=>if b=F2 then br r tb ρ M1 acc N else N ρ M1 acc
noncomputable def cD(b:BT)(tb:TCd)(chk:Mem->Prop)(N:NC):List D->NC
 |[]=>λρ M acc=>chk M/\N ρ M acc
 |x::xs=>λρ M acc=>chk M/\∃ρ',b x ρ=Z ρ'/\tb ρ' M acc (cD b tb chk N xs)
noncomputable def dU(src:TId)(b:BT)(tb:TCd):TCd:=λρ M acc N=>src ρ M λxs chk M1=>cD b tb chk N xs ρ M1 acc
noncomputable def iw(fr:List (Option Nat))(src:TId)(b:BT)(tb:TCd):TEd:=λρ M Q=>src ρ M λxs chk M1=>cD b tb chk (λ_ M' acc=>∀p,M' p=Y->Q (.ref p) (ag M' p (.lst acc))) xs (tU fr ρ) M1 []
theorem bQ(h:ad te):cq (eO te):=λρ M acc N N' i q=>h _ _ _ _ (λx F j=>(by obtain⟨z,B⟩:=j;exact⟨z,i _ _ _ B⟩)) q
theorem aV{tb:TCd}(z:cq tb):∀{ts:List TTd},(∀t∈ts,aO t)->cq (br ts tb)
 |[],_=>z
 |t::r,h=>fun ρ M acc N N' i q=>h t Mr _ _ _ _ (fun b F j=>by
  cases b with
  |true=>rw[if_pos rfl]at j⊢;exact aV z (λt' B=>h t' (Mg _ B)) _ _ _ _ _ i j
  |false=>rw[if_neg LJ]at j⊢;exact i _ _ _ j) q
theorem gR{b:BT}{tb:TCd}(z:cq tb){chk:Mem->Prop}{N N':NC}(i:∀ρ' M' acc',N ρ' M' acc'->N' ρ' M' acc'):∀(xs:List D) (ρ:au) (M:Mem) (acc:List D),cD b tb chk N xs ρ M acc->cD b tb chk N' xs ρ M acc
 |[],ρ,M,acc,h=>⟨h.1,i _ _ _ h.2⟩
 |x::xs,ρ,M,acc,⟨c,ρ',e,q⟩=>⟨c,ρ',e,z _ _ _ _ _ (λρ2 M2 j B=>gR z i xs ρ2 M2 j B) q⟩
theorem iW{tb:TCd}(hs:cn src)(j:cq tb):cq (dU src b tb):=λρ M acc N N' i q=>hs _ _ _ _ (λxs c B z=>gR j i xs _ _ _ z) q
theorem mL{fr:List (Option Nat)}{tb:TCd}(hs:cn src)(j:cq tb):ad (iw fr src b tb):=λρ M Q Q' i q=>hs _ _ _ _ (λxs c F z=>gR j (λ_ M' acc B p n=>i _ _ (B p n)) xs _ _ _ z) q
section
variable{K:Frag}{p:Xc}
theorem gT(m:ad te)(σ:St)(H:Hp)(N:St->Hp->Prop)(h:lC K p (eO te) σ H N):Ay p (lE K te) σ H N:=by
 obtain⟨ρ,M,acc,rs,rm,n,⟨vs,L,ra⟩,q⟩:=h;refine⟨ρ,M,rs,rm,m _ _ _ _ (λx Fn g9 v H1 F G J=>?_) q⟩;obtain⟨z,O⟩:=g9;have j:=F.keep p _ n L;have U:=F.new p _ n L;have st:=F.stab rm;have B:Stab H1 (upd H1 p (.lst (vs++[v]))):=pZ j;refine⟨vs,j,by rw[ra.length];exact z,O σ _ ⟨λa o ne m' e=>?_,F.nw⟩ ((rs.mono st).mono B) (G.side U j) ⟨vs++[v],aB,((ra.mono st).mono B).append (RDs.cons (J.mono B) RDs.nil)⟩⟩
 rw[ao ne];exact F.kp a o m' e
theorem jN{tb:TCd}(mb:cq tb):∀{ts:List TTd},(∀t∈ts,aO t)->∀(σ:St) (H:Hp) (N:St->Hp->Prop),lC K p (br ts tb) σ H N->jA (ts.map (lT K)) (lC K p tb) σ H N
 |[],_,σ,H,N,h=>h
 |t::r,hm,σ,H,N,h=>by
  obtain⟨ρ,M,acc,rs,rm,n,⟨vs,G,ra⟩,q⟩:=h;refine⟨ρ,M,rs,rm,hm t Mr _ _ _ _ (λb L F H1 z B=>?_) q⟩;have j:=z.keep p _ n G;have O:=z.new p _ n G;have st:=z.stab rm
  cases b with
  |false=>rw[if_neg LJ]at F;dsimp only;rw[if_neg LJ];exact F σ H1 z.toP (rs.mono st) B ⟨vs,j,ra.mono st⟩
  |true=>
   rw[if_pos rfl]at F;dsimp only;rw[if_pos rfl];exact jN mb (λt' J=>hm t' (Mg _ J)) σ H1 N ⟨ρ,L,acc,rs.mono st,B,O,⟨vs,j,ra.mono st⟩,
    aV mb (λt' J=>hm t' (Mg _ J)) _ _ _ _ _ (λρ' M' acc' k=>k.ext G ⟨vs,j⟩ z.toP) F⟩
theorem mM{tb:TCd}(mb:cq tb){chk:Mem->Prop}{J:It}{B:Mem}{Nd:NC}{N:St->Hp->Prop}{σ:St}{ρ:au}{acc:List D}(it:gQ K H1 xs chk J)(rs:RS K H1 σ ρ)(rm:RM K B H1)(n:B p=Y)(ac:iu K H1 p acc)(q:cD b tb chk Nd xs ρ B acc)(hN:∀ρ' M' acc' σ' H',ExtP p B H1 M' H'->RS K H' σ' ρ'->RM K M' H'->iu K H' p acc'->Nd ρ' M' acc'->N σ' H'):
 cO J (lG K b) (lC K p tb) N σ H1:=by
 obtain⟨Jm,F,_⟩:=id ac;refine⟨λi m σ H=>m=xs.length-i/\i<=xs.length/\∃ρ M acc,RS K H σ ρ/\RM K M H/\M p=Y/\iu K H p acc/\ExtP p B H1 M H/\cD b tb chk Nd (xs.drop i) ρ M acc,⟨xs.length,by simp,Og _,ρ,B,acc,rs,rm,n,ac,ExtP.refl,q⟩,?_⟩
 rintro i m σ H ⟨rfl,hi,ρ,M,acc,rs,j,n,ac,x,q⟩;have st:=x.stab rm F;obtain⟨vs,hp,ra⟩:=id ac
 by_cases z:i<xs.length
 ·rw[NF z]at q;obtain⟨c,ρ',hb,q⟩:=q;obtain⟨go,yl⟩:=(it M H st j c i).2 z;refine .inr ⟨go,λσ' H'=>∃m',m'<xs.length-i/\(m'=xs.length-(i+1)/\i+1<=xs.length/\∃ρ M acc,RS K H' σ' ρ/\RM K M H'/\M p=Y/\iu K H' p acc/\ExtP p B H1 M H'/\cD b tb chk Nd (xs.drop (i+1)) ρ M acc),λσ' H' h=>h,λx' H' y=>?_⟩;obtain⟨yy,d,hd,rd⟩:=yl x' H' y;rw[z0 z]at hd
  cases hd
  obtain⟨xy,rmy⟩:=yy.ext j;have sty:=xy.stab j;have G:=xy.keep p _ n hp;refine⟨_,ρ,ρ',rd,rs.mono sty,hb,λσ2 O=>?_⟩;refine⟨ρ',M,acc,O,rmy,n,⟨vs,G,ra.mono sty⟩,mb _ _ _ _ _ (λρ3 M3 L q3 σ3 H3 x3 U Fn fv=>?_) q⟩;have n3:M3 p=Y:=x3.new p _ n G;exact⟨xs.length-(i+1),∅,rfl,z,ρ3,M3,L,U,Fn,n3,fv,(x.trans F ⟨vs,hp⟩ xy.toP).trans F ⟨vs,G⟩ x3,q3⟩
 ·have e:i=xs.length:=by lia
  subst e;rw[VR]at q;exact .inl ⟨(it M H st j q.1 _).1 (LW _),hN ρ M acc σ H x rs j ac q.2⟩
theorem iX{tb:TCd}(ms:cn src)(mb:cq tb)(σ:St)(H:Hp)(N:St->Hp->Prop)(h:lC K p (dU src b tb) σ H N):(lI K src) σ H λJ H1=>cO J (lG K b) (lC K p tb) N σ H1:=by obtain⟨ρ,M,acc,rs,rm,n,⟨vs,B,ra⟩,q⟩:=h;refine⟨ρ,M,rs,rm,ms _ _ _ _ (λxs chk O G J H1 z F it=>?_) q⟩;have j:=z.keep p _ n B;have L:=z.new p _ n B;have st:=z.stab rm;exact mM mb it (rs.mono st) F L ⟨vs,j,ra.mono st⟩ G λρ' M' acc' σ' H' x2 rs' rm' ac' k=>k σ' H' (z.toP.trans B ⟨vs,j⟩ x2) rs' rm' ac'
theorem eQ{fr:List (Option Nat)}{tb:TCd}(ms:cn src)(mb:cq tb)(σ:St)(H:Hp)(Q:VK)(h:lE K (iw fr src b tb) σ H Q):tS (lI K src) (lG K b) (λp=>lC K p tb) fr σ H Q:=by
 obtain⟨ρ,M,rs,rm,q⟩:=h;refine⟨ρ,M,rs,rm,ms _ _ _ _ (λxs chk F O J H1 B j it p n=>?_) q⟩;have st:=B.stab rm;have xn:Ext F H1 F (upd H1 p (.lst [])):=X1 n;have stn:=xn.stab j;have L:F p=Y:=j.out n;refine mM (p:=p) mb (xs:=xs) (chk:=chk) (λM' H' st'=>it M' H' ⟨λa xs e=>st'.tup _ _ (stn.tup _ _ e),λa o u e=>st'.frz _ _ _ (stn.frz _ _ _ e)⟩) (((rs.mono st).mono stn).inh fr) (j.new n) L ⟨[],aB,RDs.nil⟩ O λρ' M' acc' σ' H' G rs' rm' ac' k=>?_;obtain⟨vs,U,ra⟩:=ac';have n':M' p=Y:=G.new p _ L aB;refine k p n' (.ref p) H' ⟨λa o m e=>?_,λa o m e=>?_⟩ (λa o e=>?_) (WR.mpr rfl)
 ·have e1:=B.kp a o m e;have ne:a≠p:=λz=>by subst z;rw[n]at e1;cases e1
  exact G.kp a o ne (by rw[B.nw a o m e];exact m) (by rw[ao ne];exact e1)
 ·have e1:=B.kp a o m e;have ne:a≠p:=λz=>by subst z;rw[n]at e1;cases e1
  rw[aC ne];exact(G.nw a o (by rw[B.nw a o m e];exact m) (by rw[ao ne];exact e1)).trans (B.nw a o m e)
 ·by_cases z:a=p
  ·subst z;rw[ab]at e;cases e;exact⟨vs,U,ra⟩
  ·rw[aC z]at e;exact rm' a o e
end
end
variable{u:TSd}{c:TTd}{i:Nat}
section
noncomputable def jO:TSd:=λD ρ M=>D.nx ρ M
noncomputable def zg(t u:TSd):TSd:=λD ρ M=>t {D with nx:=u D} ρ M
noncomputable def jP:TSd:=λD ρ M=>D.bk ρ M
noncomputable def ou:TSd:=λD ρ M=>D.ct ρ M
noncomputable def ox(te:TEd):TSd:=λD ρ M=>te ρ M λ_ M1=>D.nx ρ M1
noncomputable def ud(te:TEd):TSd:=λD ρ M=>te ρ M D.rt
noncomputable def sIf(c:TTd)(t u:TSd):TSd:=λD ρ M=>c ρ M λb M1=>if b=F2 then t D ρ M1 else u D ρ M1
noncomputable def lf(te:TEd)(b:BT):TSd:=λD ρ M=>te ρ M λx M1=>∃ρ',b x ρ=Z ρ'/\D.nx ρ' M1
noncomputable def ue(ta:TAd)(bs:BTs):TSd:=λD ρ M=>ta ρ M λxs M1=>∃ρ',bs xs ρ=Z ρ'/\D.nx ρ' M1
noncomputable def ce(b:BT)(tb:TSd)(chk:Mem->Prop)(D:bW):List Mi.D->au->Mem->Prop
 |[]=>λρ M=>chk M/\D.nx ρ M
 |x::xs=>λρ M=>chk M/\∃ρ',b x ρ=Z ρ'/\tb {D with nx:=ce b tb chk D xs,ct:=ce b tb chk D xs,bk:=D.nx} ρ' M
noncomputable def uf(src:TId)(b:BT)(tb:TSd):TSd:=λD ρ M=>src ρ M λxs chk M1=>ce b tb chk D xs ρ M1
noncomputable def aD(c:TTd)(tb:TSd)(D:bW):Nat->au->Mem->Prop
 |0=>λ_ _=>False
 |n+1=>λρ M=>c ρ M λb M1=>if b=F2 then tb {D with nx:=aD c tb D n,ct:=aD c tb D n,bk:=D.nx} ρ M1 else D.nx ρ M1
noncomputable def jQ(c:TTd)(tb:TSd):TSd:=λD ρ M=>∃n,aD c tb D n ρ M
theorem mN:aP jO:=λ_ _ _ _ h q=>h.nx _ _ q
theorem ug:aP jP:=λ_ _ _ _ h q=>h.bk _ _ q
theorem wg:aP ou:=λ_ _ _ _ h q=>h.ct _ _ q
theorem wj{t:TSd}(j:aP t)(z:aP u):aP (zg t u):=λa b ρ M h q=>j {a with nx:=u a} {b with nx:=u b} _ _ ⟨λρ' M' q'=>z _ _ _ _ h q',h.rt,h.bk,h.ct⟩ q
theorem wk(h:ad te):aP (ox te):=λa b ρ M i q=>h _ _ _ _ (λ_ z j=>i.nx _ _ j) q
theorem zh(h:ad te):aP (ud te):=λa b ρ M i q=>h _ _ _ _ (λd z j=>i.rt _ _ j) q
theorem zi{t:TSd}(z:aO c)(B:aP t)(F:aP u):aP (sIf c t u):=λa b ρ M i q=>z _ _ _ _ (λk G j=>by
 cases k with
 |true=>rw[if_pos rfl]at j⊢;exact B _ _ _ _ i j
 |false=>rw[if_neg LJ]at j⊢;exact F _ _ _ _ i j) q
theorem zj{bt:BT}(h:ad te):aP (lf te bt):=λa b ρ M i q=>h _ _ _ _ (λd B j=>(by obtain⟨ρ',e,z⟩:=j;exact⟨ρ',e,i.nx _ _ z⟩)) q
theorem zk{ta:TAd}{bs:BTs}(h:aR ta):aP (ue ta bs):=λa b ρ M i q=>h _ _ _ _ (λd B j=>(by obtain⟨ρ',e,z⟩:=j;exact⟨ρ',e,i.nx _ _ z⟩)) q
theorem gU{bt:BT}{tb:TSd}(j:aP tb){chk:Mem->Prop}{a b:bW}(i:LeD a b):∀(xs:List D) (ρ:au) (M:Mem),ce bt tb chk a xs ρ M->ce bt tb chk b xs ρ M
 |[],ρ,M,h=>⟨h.1,i.nx _ _ h.2⟩
 |x::xs,ρ,M,⟨c,ρ',e,q⟩=>⟨c,ρ',e,j {a with nx:=ce bt tb chk a xs,ct:=ce bt tb chk a xs,bk:=a.nx} {b with nx:=ce bt tb chk b xs,ct:=ce bt tb chk b xs,bk:=b.nx} _ _ ⟨λρ2 M2 z=>gU j i xs ρ2 M2 z,i.rt,i.nx,λρ2 M2 z=>gU j i xs ρ2 M2 z⟩ q⟩
theorem zm{bt:BT}{tb:TSd}(hs:cn src)(j:aP tb):aP (uf src bt tb):=λa b ρ M i q=>hs _ _ _ _ (λxs c B z=>gU j i xs _ _ z) q
theorem fA{c:TTd}{tb:TSd}(z:aO c)(B:aP tb){a b:bW}(i:LeD a b):∀(n:Nat) (ρ:au) (M:Mem),aD c tb a n ρ M->aD c tb b n ρ M
 |0,ρ,M,h=>h
 |n+1,ρ,M,h=>z _ _ _ _ (fun k G j=>by
  cases k with
  |true=>rw[if_pos rfl]at j⊢;exact B {a with nx:=aD c tb a n,ct:=aD c tb a n,bk:=a.nx} {b with nx:=aD c tb b n,ct:=aD c tb b n,bk:=b.nx} _ _ ⟨λρ2 M2 F=>fA z B i n ρ2 M2 F,i.rt,i.nx,λρ2 M2 F=>fA z B i n ρ2 M2 F⟩ j
  |false=>rw[if_neg LJ]at j⊢;exact i.nx _ _ j) h
theorem uh{tb:TSd}(j:aO c)(z:aP tb):aP (jQ c tb):=λa b ρ M i g9=>(by obtain⟨n,q⟩:=g9;exact⟨n,fA j z i n _ _ q⟩)
section
variable{K:Frag}
theorem mP(D:bP)(σ:St)(H:Hp)(h:lS K jO D σ H):tH D σ H:=by obtain⟨ρ,M,A,rs,rm,l,q⟩:=h;exact l.nx ρ M σ H Ext.refl rs rm q
theorem ui(D:bP)(σ:St)(H:Hp)(h:lS K jP D σ H):vm D σ H:=by obtain⟨ρ,M,A,rs,rm,l,q⟩:=h;exact l.bk ρ M σ H Ext.refl rs rm q
theorem wl(D:bP)(σ:St)(H:Hp)(h:lS K ou D σ H):Ao D σ H:=by obtain⟨ρ,M,A,rs,rm,l,q⟩:=h;exact l.ct ρ M σ H Ext.refl rs rm q
theorem zn{t:TSd}(mt:aP t)(mu:aP u)(D:bP)(σ:St)(H:Hp)(h:lS K (zg t u) D σ H):De (lS K t) (lS K u) D σ H:=by obtain⟨ρ,M,A,rs,rm,l,q⟩:=h;exact⟨ρ,M,{A with nx:=u A},rs,rm,⟨λρ' M' σ' H' x rs' rm' q'=>⟨ρ',M',A,rs',rm',l.ext x,q'⟩,l.rt,l.bk,l.ct⟩,q⟩
theorem wm(m:ad te)(D:bP)(σ:St)(H:Hp)(h:lS K (ox te) D σ H):Ap (lE K te) D σ H:=by obtain⟨ρ,M,A,rs,rm,l,q⟩:=h;exact⟨ρ,M,rs,rm,m _ _ _ _ (λd B F v H1 z j G=>l.nx ρ B σ H1 z (rs.mono (z.stab rm)) j F) q⟩
theorem zo(m:ad te)(D:bP)(σ:St)(H:Hp)(h:lS K (ud te) D σ H):Df (lE K te) D σ H:=by obtain⟨ρ,M,A,rs,rm,l,q⟩:=h;exact⟨ρ,M,rs,rm,m _ _ _ _ (λd B F v H1 G j z=>l.rt d B v H1 G j z F) q⟩
theorem BQ{t:TSd}(mc:aO c)(D:bP)(σ:St)(H:Hp)(h:lS K (sIf c t u) D σ H):Di (lT K c) (lS K t) (lS K u) D σ H:=by
 obtain⟨ρ,M,A,rs,rm,l,q⟩:=h;refine⟨ρ,M,rs,rm,mc _ _ _ _ (λk F z H1 B j=>?_) q⟩
 cases k with
 |true=>rw[if_pos rfl]at z⊢;exact⟨ρ,F,A,rs.mono (B.stab rm),j,l.ext B,z⟩
 |false=>rw[if_neg LJ]at z⊢;exact⟨ρ,F,A,rs.mono (B.stab rm),j,l.ext B,z⟩
theorem zp(m:ad te)(D:bP)(σ:St)(H:Hp)(h:lS K (lf te b) D σ H):oS (lE K te) (lG K b) D σ H:=by obtain⟨ρ,M,A,rs,rm,l,q⟩:=h;refine⟨ρ,M,rs,rm,m _ _ _ _ (λd F g9 v H1 B j z=>?_) q⟩;obtain⟨ρ',e,G⟩:=g9;exact⟨d,ρ,ρ',z,rs.mono (B.stab rm),e,λσ' rs'=>l.nx ρ' F σ' H1 B rs' j G⟩
theorem mQ(m:ad te)(D:bP)(σ:St)(H:Hp)(h:lS K (lf te (cU i)) D σ H):oS (lE K te) (jn i) D σ H:=by
 obtain⟨ρ,M,A,rs,rm,l,q⟩:=h;refine⟨ρ,M,rs,rm,m _ _ _ _ (λd z g9 v H1 j rm1 rd1=>?_) q⟩;obtain⟨ρ',e,B⟩:=g9
 cases e
 exact l.nx _ z _ H1 j ((rs.mono (j.stab rm)).set i rd1) rm1 B
theorem zq{tb:TSd}(ms:cn src)(mb:aP tb)(D:bP)(σ:St)(H:Hp)(h:lS K (uf src b tb) D σ H):Dq (lI K src) (lG K b) (lS K tb) D σ H:=by
 obtain⟨ρ,M,A,rs,rm,l,q⟩:=h;refine⟨ρ,M,rs,rm,ms _ _ _ _ (λxs chk M1 q1 J H1 x1 G it=>?_) q⟩;refine⟨λi m σ H'=>m=xs.length-i/\i<=xs.length/\∃ρ M2,RS K H' σ ρ/\RM K M2 H'/\Ext M1 H1 M2 H'/\ce b tb chk A (xs.drop i) ρ M2,⟨xs.length,by simp,Og _,ρ,M1,rs.mono (x1.stab rm),G,Ext.refl,q1⟩,?_⟩
 rintro i m σ2 H2 ⟨rfl,hi,ρ2,M2,L,j,x2,O⟩;have U:=x2.stab G
 by_cases B:i<xs.length
 ·rw[NF B]at O;obtain⟨c,ρ',hb,q3⟩:=O;obtain⟨go,yl⟩:=(it M2 H2 U j c i).2 B;refine .inr ⟨go,λσ' H'=>∃m',m'<xs.length-i/\(m'=xs.length-(i+1)/\i+1<=xs.length/\∃ρ M,RS K H' σ' ρ/\RM K M H'/\Ext M1 H1 M H'/\ce b tb chk A (xs.drop (i+1)) ρ M),λσ' H' h=>h,λx' H' y=>?_⟩;obtain⟨yy,d,hd,rd⟩:=yl x' H' y;rw[z0 B]at hd
  cases hd
  obtain⟨xy,rmy⟩:=yy.ext j;have Fn:=x1.trans (x2.trans xy);refine⟨_,ρ2,ρ',rd,L.mono (xy.stab j),hb,λσ3 Jm=>?_⟩;have nx:∀ρ5 F σ5 z,Ext M2 H' F z->RS K z σ5 ρ5->RM K F z->ce b tb chk A (xs.drop (i+1)) ρ5 F->∃m',m'<xs.length-i/\(m'=xs.length-(i+1)/\i+1<=xs.length/\∃ρ M,RS K z σ5 ρ/\RM K M z/\Ext M1 H1 M z/\ce b tb chk A (xs.drop (i+1)) ρ M):=λρ5 F σ5 z fv Jn Jo q5=>⟨xs.length-(i+1),∅,rfl,B,ρ5,F,Jn,Jo,(x2.trans xy).trans fv,q5⟩
  refine⟨ρ',M2,{A with nx:=ce b tb chk A (xs.drop (i+1)),ct:=ce b tb chk A (xs.drop (i+1)),bk:=A.nx},Jm,rmy,⟨nx,λd F v z fv=>l.rt d F v z (Fn.trans fv),λρ5 F σ5 z fv=>l.nx ρ5 F σ5 z (Fn.trans fv),nx⟩,q3⟩
 ·have e:i=xs.length:=by lia
  subst e;rw[VR]at O;exact .inl ⟨(it M2 H2 U j O.1 _).1 (LW _),l.nx ρ2 M2 σ2 H2 (x1.trans x2) L j O.2⟩
theorem uj{tb:TSd}(mc:aO c)(mb:aP tb)(D:bP)(σ:St)(H:Hp)(h:lS K (jQ c tb) D σ H):vp (lT K c) (lS K tb) D σ H:=by
 obtain⟨ρ,M,A,rs,rm,l,n,q⟩:=h;refine⟨λm σ' H'=>∃ρ' M',RS K H' σ' ρ'/\RM K M' H'/\Ext M H M' H'/\aD c tb A m ρ' M',⟨n,ρ,M,rs,rm,Ext.refl,q⟩,?_⟩;rintro m σ1 H1 ⟨ρ1,M1,J,L,x1,q1⟩
 cases m with
 |zero=>exact q1.elim
 |succ m=>
  refine⟨ρ1,M1,J,L,mc _ _ _ _ (λk M2 fv H2 x2 O=>?_) q1⟩;have j:=x1.trans x2;have U:=J.mono (x2.stab L)
  cases k with
  |false=>rw[if_neg LJ]at fv;dsimp only;rw[if_neg LJ];exact l.nx ρ1 M2 σ1 H2 j U O fv
  |true=>
   rw[if_pos rfl]at fv;dsimp only;rw[if_pos rfl];refine⟨λσ' H'=>∃ρ' M',RS K H' σ' ρ'/\RM K M' H'/\Ext M H M' H'/\aD c tb A m ρ' M',λσ' H' h=>⟨m,Te m,h⟩,ρ1,M2,{A with nx:=aD c tb A m,ct:=aD c tb A m,bk:=A.nx},U,O,⟨?_,λd z v Fn B=>l.rt d z v Fn (j.trans B),λρ5 z σ5 Fn B=>l.nx ρ5 z σ5 Fn (j.trans B),?_⟩,fv⟩
   ·exactλρ5 z σ5 Fn B F G q5=>⟨ρ5,z,F,G,j.trans B,q5⟩
   ·exactλρ5 z σ5 Fn B F G q5=>⟨ρ5,z,F,G,j.trans B,q5⟩
end
noncomputable def gc:D->D->D->Mem->(Mem->Prop)->Prop:=λo i v M Q=>∃a,o=.ref a /\
 ((∃xs k j,i=.int k/\M a=Z (.lst xs)/\ixN xs.length k=Z j/\Q (ag M a (.lst (xs.set j v)))) ∨
  ∃t kvs,M a=Z (.dct t kvs)/\eN t i=F2/\kvs.length<LK/\Q (ag M a (.dct t (fq kvs i v))))
noncomputable def uk(te to ti:TEd):TSd:=λD ρ M=>te ρ M λv M1=>to ρ M1 λo M2=>ti ρ M2 λi M3=>gc o i v M3 λM4=>D.nx ρ M4
theorem mR{o i v:D}{Q Q':Mem->Prop}(h:∀M',Q M'->Q' M')(q:gc o i v M Q):gc o i v M Q':=by
 obtain⟨a,e,⟨xs,k,j,e1,e2,z,q⟩|⟨t,kvs,e1,e2,z,q⟩⟩:=q
 ·exact⟨a,e,.inl ⟨xs,k,j,e1,e2,z,h _ q⟩⟩
 ·exact⟨a,e,.inr ⟨t,kvs,e1,e2,z,h _ q⟩⟩
theorem zr{to ti:TEd}(he:ad te)(ho:ad to)(hi:ad ti):aP (uk te to ti):=λa b ρ M i q=>he _ _ _ _ (λv F j=>ho _ _ _ _ (λo M2 z=>hi _ _ _ _ (λk G B=>mR (λM' q'=>i.nx _ _ q') B) z) j) q
section
variable{X:Cx}{K:Frag}
theorem q8(j:X.A.units+1<Po):PSet X (λo i v H Q=>∃a H',o=.ref a/\DPut H a i v H'/\Q H'):=by
 intro pins s σ H o i v ov iv u Q I ro ri rv h;obtain⟨a,H',rfl,g,q⟩:=h
 cases ro
 exact vJ j I g ri rv λs' I'=>⟨H',I',q⟩
theorem PSet.or{t t':kM}(h:PSet X t)(h':PSet X t'):PSet X (λo i v H Q=>t o i v H Q∨t' o i v H Q):=by
 intro pins s σ H o i v ov iv u Q I ro ri rv q
 rcases q with q|q
 ·exact h pins s σ H o i v ov iv u Q I ro ri rv q
 ·exact h' pins s σ H o i v ov iv u Q I ro ri rv q
section
variable{κ:Type}[DecidableEq κ]{H:Hp}{RK:D->κ->Prop}(inj:∀{d e:D} {k:κ},RK d k->RK e k->d=e)(fn:∀{d:D} {k k':κ},RK d k->RK d k'->k=k')
include inj fn
theorem sj{k:D}{q:κ}(j:RK k q):∀{kvs:List (D×D)} {ps:List (κ×V)},NA (λp r=>RK p.1 r.1/\RD K H p.2 r.2) kvs ps->
 (kvs.any λp=>decide (p.1=k))=(ps.any λp=>decide (p.1=q))
 |_,_,.nil=>rfl
 |_,_,.cons (a:=p) (b:=r) hr t=>by
  rw[Oj,Oj,sj j t];congr 1
  by_cases e:p.1=k
  ·have e':r.1=q:=by have h1:=hr.1;rw[e]at h1;exact fn h1 j
   rw[decide_eq_true e,decide_eq_true e']
  ·have e':¬r.1=q:=λz=>e (by have h1:=hr.1;rw[z]at h1;exact inj h1 j)
   rw[decide_eq_false e,decide_eq_false e']
theorem sk{k:D}{q:κ}(B:RK k q){d:D}{v:V}(F:RD K H d v):∀{kvs:List (D×D)} {ps:List (κ×V)},NA (λp r=>RK p.1 r.1/\RD K H p.2 r.2) kvs ps->
 NA (λp r=>RK p.1 r.1/\RD K H p.2 r.2) (kvs.map λp=>if p.1=k then(p.1,d)else p) (ps.map λp=>if p.1=q then(p.1,v)else p)
 |_,_,.nil=>.nil
 |_,_,.cons (a:=p) (b:=r) j t=>by
  refine .cons ?_ (sk B F t)
  by_cases e:p.1=k
  ·have e':r.1=q:=by have h1:=j.1;rw[e]at h1;exact fn h1 B
   dsimp only;rw[if_pos e,if_pos e'];exact⟨j.1,F⟩
  ·have e':¬r.1=q:=λz=>e (by have h1:=j.1;rw[z]at h1;exact inj h1 B)
   dsimp only;rw[if_neg e,if_neg e'];exact j
theorem q9{k:D}{q:κ}(j:RK k q){d:D}{v:V}(z:RD K H d v){kvs:List (D×D)}{ps:List (κ×V)}(r:NA (λp r=>RK p.1 r.1/\RD K H p.2 r.2) kvs ps):
 NA (λp r=>RK p.1 r.1/\RD K H p.2 r.2) (fq kvs k d) (cw ps q v):=by
 unfold fq cw;rw[sj (K:=K) (H:=H) (RK:=RK) inj fn j r]
 by_cases e:(ps.any λp=>decide (p.1=q))=F2
 ·rw[if_pos e,if_pos e];exact sk (RK:=RK) inj fn j z r
 ·rw[if_neg e,if_neg e];exact r.snoc ⟨j,z⟩
end
theorem qa{o i v:D}{ov iv vv:V}{Qd:Mem->Prop}{Q:Hp->Prop}(rm:RM K M H)(ro:RD K H o ov)(ri:RD K H i iv)(rv:RD K H v vv)(h:gc o i v M Qd)(J:∀M' H',Ext M H M' H'->RM K M' H'->Qd M'->Q H'):
 Av ov iv vv H Q∨∃a H',ov=.ref a/\DPut H a iv vv H'/\Q H':=by
 obtain⟨a,rfl,⟨xs,k,j,rfl,e2,G,q⟩|⟨t,kvs,e1,e2,G,q⟩⟩:=h
 ·cases WR.mp ro
  cases WQ.mp ri
  obtain⟨vs,U,rs⟩:=rm _ _ e2;have st:Stab H (upd H a (.lst (vs.set j vv))):=rm.stabPut e2;exact .inl ⟨a,vs,k,j,rfl,rfl,U,by rw[rs.length];exact G,J _ _ (Ext.put e2) (rm.put (o:=.lst (xs.set j v)) e2 ⟨_,aB,(rs.set j rv).mono st⟩) q⟩
 ·cases WR.mp ro
  have ro':=rm _ _ e1
  cases t with
  |false=>obtain⟨ps,L,pr⟩:=ro';obtain⟨kq,F⟩:=pE (show fY i=F2 from e2);have st:Stab H (upd H a (.dK (cw ps kq vv))):=rm.stabPut e1;have B:=q9 (RK:=RKey) RKey.inj RKey.fun F rv pr;rw[kU F ri];refine .inr ⟨a,_,rfl,DPut.k L (by rw[<-QG pr];exact G),J _ _ (Ext.put e1) (rm.put (o:=.dct N2 (fq kvs i v)) e1 ⟨_,aB,WU B λ_ _ z=>⟨z.1,z.2.mono st⟩⟩) q⟩
  |true=>
   obtain⟨ps,L,pr⟩:=ro';obtain⟨kq,F⟩:=rY (show ed i=F2 from e2);have st:Stab H (upd H a (.dT (cw ps kq vv))):=rm.stabPut e1;have B:=q9 (RK:=RKeys) RKeys.inj RKeys.fun F rv pr
   cases i<;>first
    |exact F.elim
    | (obtain⟨b,us,rfl,O,ru⟩:=Xb (rZ e2) ri
       rw[j6 F ru]at O;exact .inr ⟨a,_,rfl,DPut.t L O (by rw[<-QG pr];exact G),J _ _ (Ext.put e1) (rm.put (o:=.dct F2 (fq kvs _ v)) e1 ⟨_,aB,WU B λ_ _ z=>⟨z.1,z.2.mono st⟩⟩) q⟩)
theorem E9 {o i e:Expr}{to ti:TEd}{tpos:Pos}(hu:X.A.units+1<Po)(me:ad te)(mo:ad to)(mi:ad ti)(he:PE X e (lE X.K te))(ho:PE X o (lE X.K to))(hi:PE X i (lE X.K ti))(hs:QH [.Subscript o i tpos] e pos.line X.env=pure N2)(hw:Pu [.Subscript o i tpos] e X.env=pure Y)(ha:∀v,assign (.Subscript o i tpos) X.env v=(do
   let ov <-holding [v] (eval o X.env)
   let iv <-holding [v,ov] (eval i X.env)
   SF tpos
   holding [v,ov,iv] (Uv ov iv v)
   release [v,ov,iv] [])):PS X (.Assign [.Subscript o i tpos] e pos) (lS X.K (uk te to ti)):=by
 refine PS.imp (oT he (Dl ho hi (PSet.or oW (q8 hu)) ha) hs hw rfl) λD σ H h=>?_;obtain⟨ρ,M,A,rs,rm,l,q⟩:=h;refine⟨ρ,M,rs,rm,me _ _ _ _ (λv M1 q1 vv H1 F j G=>?_) q⟩;refine⟨ρ,M1,rs.mono (F.stab rm),j,mo _ _ _ _ (λov M2 q2 vo H2 J z L=>?_) q1⟩;refine⟨ρ,M2,(rs.mono (F.stab rm)).mono (J.stab j),z,mi _ _ _ _ (λiv M3 q3 vi H3 O U Fn=>?_) q2⟩;have B:=F.trans (J.trans O);exact qa U (L.mono (O.stab z)) Fn ((G.mono (J.stab j)).mono (O.stab z)) q3 λM' H' x4 fv q4=>l.nx ρ M' σ H' (B.trans x4) (rs.mono ((B.trans x4).stab rm)) fv q4
noncomputable def jR:R2d
 |.int i,.int j,M,Q=>Q (.int (i+j)) M
 |_,_,_,_=>False
noncomputable def jS:R2d
 |.int i,.int j,M,Q=>Q (.int (i-j)) M
 |_,_,_,_=>False
noncomputable def jT:R2d
 |.int i,.int j,M,Q=>MulOk i j/\Q (.int (i*j)) M
 |_,_,_,_=>False
theorem gW:aK jR:=by
 intro x y M Q Q' h q
 cases x<;>cases y<;>first|exact q.elim|exact h _ _ q
theorem gX:aK jS:=by
 intro x y M Q Q' h q
 cases x<;>cases y<;>first|exact q.elim|exact h _ _ q
theorem gY:aK jT:=by
 intro x y M Q Q' h q
 cases x<;>cases y<;>first|exact q.elim|exact⟨q.1,h _ _ q.2⟩
theorem mU:OpR X (OY .Add) (l2 X.K jR):=by
 refine OpR.of B5 λv u H Q h=>?_;obtain⟨x,y,M,rm,rx,ry,q⟩:=h
 cases x<;>cases y<;>first
  |exact q.elim
  |(cases WQ.mp rx;cases WQ.mp ry;exact⟨_,_,rfl,rfl,q _ H Ext.refl rm (WQ.mpr rfl)⟩)
theorem mV:OpR X (OY .Sub) (l2 X.K jS):=by
 refine OpR.of B6 λv u H Q h=>?_;obtain⟨x,y,M,rm,rx,ry,q⟩:=h
 cases x<;>cases y<;>first
  |exact q.elim
  |(cases WQ.mp rx;cases WQ.mp ry;exact⟨_,_,rfl,rfl,q _ H Ext.refl rm (WQ.mpr rfl)⟩)
theorem wn:OpR X (OY .Mult) (rI MulOk λi j=>.int (i*j)):=opI λ_ _ _ _ _ _ _ z q=>imul_int q z.ok
theorem mW:OpR X (OY .Mult) (l2 X.K jT):=by
 refine OpR.of wn λv u H Q h=>?_;obtain⟨x,y,M,rm,rx,ry,q⟩:=h
 cases x<;>cases y<;>first
  |exact q.elim
  |(cases WQ.mp rx;cases WQ.mp ry;exact⟨_,_,rfl,rfl,q.1,q.2 _ H Ext.refl rm (WQ.mpr rfl)⟩)
noncomputable def um(i:Nat)(rd:R2d)(te:TEd):TSd:=λD ρ M=>∃x,ρ[i]?=Z (Z x)/\te ρ M λy M1=>rd x y M1 λz M2=>D.nx (ρ.set i (Z z)) M2
theorem zt{rd:R2d}(j:aK rd)(he:ad te):aP (um i rd te):=λa b ρ M l g9=>(by obtain⟨x,e,q⟩:=g9;exact⟨x,e,he _ _ _ _ (λy G B=>j _ _ _ _ _ (λz M2 F=>l.nx _ _ F) B) q⟩)
theorem jU{x:Str}{e:Expr}{op:Qs}{rd:R2d}(U:X.N.Nodup)(hi:X.N[i]?=Z x)(hx:Loc X.env.scope x)(he:PE X e (lE X.K te))(ho:OpR X (OY op) (l2 X.K rd))(Fn:aK rd)(me:ad te)(hf:X.fn x=F2∨X.env.scope.names.lookup x=Z .local):PS X (.AugAssign (.Name x pos') op e pos) (lS X.K (um i rd te)):=by refine PS.imp (Do U hi hx he (ti:=l2 X.K rd) ho hf) λD σ H h=>?_;obtain⟨ρ,M,A,rs,rm,l,d,e,q⟩:=h;obtain⟨v,fv,j⟩:=rs.2 i d e;refine⟨v,fv,ρ,M,rs,rm,me _ _ _ _ (λy M1 q1 u H1 B F G=>?_) q⟩;refine⟨d,y,M1,F,j.mono (B.stab rm),G,Fn _ _ _ _ _ (λz M2 q2 w H2 O J L=>?_) q1⟩;exact l.nx _ M2 _ H2 (B.trans O) ((rs.mono ((B.trans O).stab rm)).set i L) J q2
end
end
end Mi
end
namespace Mi
variable{K:Frag}
theorem wo{ta:TAd}{i j:Nat}(m:aR ta)(D:bP)(σ:St)(H:Hp)(h:lS K (ue ta (cC (cU i) (cC (cU j) j8))) D σ H):Dm i j (lA K ta) D σ H:=by
 obtain⟨ρ,M,A,rs,rm,l,q⟩:=h;refine⟨ρ,M,rs,rm,m _ _ _ _ (λds G g9 vs H1 F B z=>?_) q⟩;obtain⟨ρ',e,J⟩:=g9
 match ds,e,z with
 |[d1,d2],e,z=>obtain⟨v,u,rfl,L,O⟩:=z.two;simp only[cC,cU,j8,PJ,Vt]at e;subst e;exact⟨v,u,rfl,l.nx _ G _ H1 F (((rs.mono (F.stab rm)).set i L).set j O) B J⟩
end Mi
section
section
variable{X:Cx}
theorem aF:Dp X (λo i H Q=>∃a xs k x,o=.ref a/\i=.int k/\SqL X.K H a xs/\atI xs k=Z x/\Q x H):=by
 intro pins s σ H o i ov iv Q I ro ri h;obtain⟨a,xs,k,x,rfl,rfl,sq,he,q⟩:=h
 cases ro
 obtain⟨t,rfl⟩:=ri;obtain⟨its,r,pl,J⟩:=I.list sq;obtain⟨j,h1,h2,L,B,F⟩:=kN he;obtain⟨w,ew,rw'⟩:=r.get h2;have G:=r.length;have O:=fD;have fin:EP X pins σ Q w s:=⟨x,H,I,rw',q⟩
 by_cases h0:0<=k
 ·have z:k.toNat=j:=NO.inj (by rw[<-h1,Ud h0 F])
  exact wpAny_getItem_list pl.isList h0 ∅ (by rw[z];simpa using ew) fin
 ·have z:(k+(its.toArray.size:Int)).toNat=j:=by
   rw[LN,<-G];exact NO.inj (by rw[<-h1,Tu ∅ B])
  exact Tw pl.isList ∅ (by rw[LN];lia) ∅ (by rw[z];simpa using ew) fin
end
namespace Mi
section
variable{X:Cx}
noncomputable def AB:R2d:=λx y M Q=>∃a ds k d,x=.ref a/\y=.int k/\M a=Z (.lst ds)/\atI ds k=Z d/\Q d M
theorem wq:aK AB:=λ_ _ _ _ _ h j=>(by obtain⟨a,ds,k,d,e1,e2,z,B,q⟩:=j;exact⟨a,ds,k,d,e1,e2,z,B,h _ _ q⟩)
noncomputable def oz(to ti te:TEd)(rd:R2d):TSd:=λD ρ M=>to ρ M λo M1=>ti ρ M1 λi M2=>AB o i M2 λx M3=>te ρ M3 λy M4=>rd x y M4 λz M5=>gc o i z M5 λM6=>D.nx ρ M6
theorem wt{to ti te:TEd}{rd:R2d}(ho:ad to)(hi:ad ti)(he:ad te)(j:aK rd):aP (oz to ti te rd):=λa b ρ M l q=>ho _ _ _ _ (λo U B=>hi _ _ _ _ (λi M2 F=>wq _ _ _ _ _ (λx Fn G=>he _ _ _ _ (λy fv J=>j _ _ _ _ _ (λz M5 L=>mR (λM6 O=>l.nx _ _ O) L) J) G) F) B) q
theorem lg{o i e:Expr}{to ti te:TEd}{op:Qs}{rd:R2d}{pos tpos:Pos}(hu:X.A.units+1<Po)(mo:ad to)(mi:ad ti)(me:ad te)(hr:aK rd)(ho:PE X o (lE X.K to))(hi:PE X i (lE X.K ti))(he:PE X e (lE X.K te))(J:OpR X (OY op) (l2 X.K rd))(ha:∀ov iv new,augStore i ov iv new=(do holding [new,ov,iv] (Uv ov iv new);release [new,ov,iv] [];pure .next)):PS X (.AugAssign (.Subscript o i tpos) op e pos) (lS X.K (oz to ti te rd)):=by
 refine PS.imp (B4 ho hi aF he (tip:=l2 X.K rd) J (PSet.or oW (q8 hu)) ha) λD σ H h=>?_;obtain⟨ρ,M,A,rs,rm,l,q⟩:=h;refine⟨ρ,M,rs,rm,mo _ _ _ _ (λd1 M1 q1 v1 H1 x1 j L=>?_) q⟩;have B:=rs.mono (x1.stab rm);refine⟨ρ,M1,B,j,mi _ _ _ _ (λd2 M2 q2 v2 H2 O z U=>?_) q1⟩;have Fn:=B.mono (O.stab j);have F:=L.mono (O.stab j);obtain⟨a,ds,k,d,rfl,rfl,e3,e4,q3⟩:=q2
 cases WR.mp F
 cases WQ.mp U
 obtain⟨vs,fv,rv⟩:=z _ _ e3;obtain⟨v3,Jm,Jn⟩:=jF rv e4;refine⟨a,vs,k,v3,rfl,rfl,SqL.of fv,Jm,?_⟩;refine⟨ρ,M2,Fn,z,me _ _ _ _ (λd4 M4 q4 v4 H4 x4 Jo Jp=>?_) q3⟩;refine⟨d,d4,M4,Jo,Jn.mono (x4.stab z),Jp,hr _ _ _ _ _ (λd5 M5 q5 v5 H5 x5 Jq Jr=>?_) q4⟩;have G:=((x1.trans O).trans x4).trans x5;exact qa Jq (WR.mpr rfl) (WQ.mpr rfl) Jr q5 λM' H' x6 Js q6=>l.nx ρ M' σ H' (G.trans x6) (rs.mono ((G.trans x6).stab rm)) Js q6
end
section
section
variable{X:Cx}
noncomputable def uo:D->Option Bool
 |.bl b=>Z b
 |.int i=>Z (i != 0)
 |_=>Y
noncomputable def qb:RAd:=λxs M Q=>∃x ds ts,xs=[x]/\aN M x=Z ds/\b9 uo ds=Z ts/\Q (.bl (ts.all id)) M
theorem qc:aM qb:=λ_ _ _ _ h j=>(by obtain⟨x,ds,ts,e,e1,e2,q⟩:=j;exact⟨x,ds,ts,e,e1,e2,h _ _ q⟩)
theorem qd{α β:Type}{f:α->Option β}:∀{xs:List α} {ys:List β},b9 f xs=Z ys->ys.length=xs.length/\∀(i:Nat) x,xs[i]?=Z x->∃y,ys[i]?=Z y/\f x=Z y
 |[],ys,h=>by cases h;exact⟨rfl,λi x e=>by simp at e⟩
 |x::xs,ys,h=>by
  simp only[b9]at h
  cases e1:f x with
  |none=>rw[e1]at h;cases h
  |some y=>
   rw[e1]at h;simp only[PJ]at h
   cases e2:b9 f xs with
   |none=>rw[e2]at h;cases h
   |some r=>
    rw[e2]at h;cases h;obtain⟨l,g⟩:=qd e2;refine⟨by simp[l],λi z e=>?_⟩
    cases i with
    |zero=>simp at e;subst e;exact⟨y,rfl,e1⟩
    |succ i=>simp at e;simpa using g i z e
theorem BS{P:Ml}{w:MQ}{A:MU}{E:i0->s9->Prop}{s:s9}{K:Frag}{H:Hp}{d:D}{v:V}{u:i0}{b:Bool}{Q:Bool->s9->Prop}(e:uo d=Z b)(rd:RD K H d v)(ru:RelV v u)(q:Q b s):LR (model P w) A (truthy u) Q E s:=by
 cases d with
 |bl c=>cases WT.mp rd;cases ru;cases e;exact Pn q
 |int i=>cases WQ.mp rd;obtain⟨t,rfl⟩:=ru;cases e;exact PyProof.Rows.truthy_int q
 |_=>cases e
theorem range_all{ts:List Bool}:(D0 ts.length).all (λi=>ts.getD i N2)=ts.all id/\(D0 ts.length).any (λi=>ts.getD i N2)=ts.any id:=by
 have e:(D0 ts.length).map (λi=>ts.getD i N2)=ts:=by
  apply List.ext_getElem
  ·simp
  ·intro i h1 h2;simp[LL,z0 h2]
 constructor
 ·conv=>rhs;rw[<-e]
  rw[List.all_map];rfl
 ·conv=>rhs;rw[<-e]
  rw[List.any_map];rfl
theorem zu(L:X.calm=F2){pins:List (Xc×Obj)}{s:s9}{σ:St}{H:Hp}{M:Mem}{x:D}{ds:List D}{ts:List Bool}{v:V}{u:i0}{Q:i0->s9->Prop}{g:List Bool->Bool}(I:Inv X pins σ H s)(rm:RM X.K M H)(rd:RD X.K H x v)(ru:RelV v u)(e1:aN M x=Z ds)(e2:b9 uo ds=Z ts)(fin:∀h' tk,Inv X pins σ H {s with heap:=h',toks:=tk}->Q (.bool (g ts)) {s with heap:=h',toks:=tk})(gg:Nat->(Nat->Bool)->Bool)(O:gg ts.length (λi=>ts.getD i N2)=g ts):
 LR (model X.prog X.w) X.A.in1 (Tq u) (λit s₂=>∃I fp wr n P St tr,it=.ref I/\Walks X.prog X.w X.A.in1 I fp wr n P St/\St 0 s₂.heap/\TruthOf X.prog X.w X.A.in1 P tr /\
  ∀h' tk,(∀b o,b∉wr->s₂.heap.get? b=Z o->h'.get? b=Z o)->Q (.bool (gg n tr)) {s₂ with heap:=h',toks:=tk}) X.xe s:=by
 obtain⟨p,vs,rfl,sq,U⟩:=pV rm rd e1
 cases ru
 obtain⟨lt,get⟩:=qd e2;have lv:=U.length;have tr:∀(its:List i0),Vals vs its->TruthOf X.prog X.w X.A.in1 (λi w=>its.toArray[i]?=Z w) (λi=>ts.getD i N2):=by
  intro its rv i w s' Q' E' Fn F;have z:its[i]?=Z w:=by simpa using Fn
  have li:=rv.length;have hi:i<its.length:=(LP.mp z).1;obtain⟨d,hd⟩:∃d,ds[i]?=Z d:=⟨ds[i]'∅,z0 ∅⟩
  obtain⟨v',G,rd'⟩:=U.get hd;obtain⟨u',B,ru'⟩:=rv.get G;rw[z]at B;cases B;obtain⟨b,fv,eb⟩:=get i d hd;have:ts.getD i N2=b:=by rw[LL,fv];rfl
  have F:Q' (ts.getD i N2) s':=F;rw[this]at F;exact BS eb rd' ru' F
 rcases sq with sq|sq
 ·obtain⟨its,rv,pl,hz⟩:=I.list sq;have li:=rv.length;have j:p<s.heap.objs.size:=by obtain⟨o,n,e,_⟩:=pl;exact LD e
  refine Oo pl.isList ⟨s.heap.objs.size,_,_,_,_,_,_,rfl,Walks.list (by rw[V6];exact I.ok.hd L) s.heap.objs.size p (Mt j) its.toArray,⟨⟨_,LF _ rfl,rfl,rfl⟩,pl.isList.at λo e=>q7 _ e⟩,tr its rv,λh' tk k=>?_⟩
  have J:its.toArray.size=ts.length:=by rw[LN];lia
  rw[J,O];exact fin h' tk (I.kept (t':=tk) λb o e=>k b o (by simp;exact Mt (LD e)) (q7 _ e))
 ·obtain⟨its,rv,pl,hz⟩:=I.tuple sq;have li:=rv.length;have j:p<s.heap.objs.size:=by obtain⟨o,e,_⟩:=pl;exact LD e
  have pt:s.heap.IsTuple p its.toArray:=pl;refine Od pt ⟨s.heap.objs.size,_,_,_,_,_,_,rfl,Walks.tuple (by rw[V6];exact I.ok.hd L) s.heap.objs.size p (Mt j) its.toArray,⟨⟨_,LF _ rfl,rfl,rfl⟩,pt.push _⟩,tr its rv,λh' tk k=>?_⟩
  have J:its.toArray.size=ts.length:=by rw[LN];lia
  rw[J,O];exact fin h' tk (I.kept (t':=tk) λb o e=>k b o (by simp;exact Mt (LD e)) (q7 _ e))
theorem uq(j:X.calm=F2):CallR X (.builtin "all") (lR X.K qb):=by intro pins s σ H xs us Q I rv h;obtain⟨ds,M,rm,rs,x,es,ts,rfl,e1,e2,q⟩:=h;obtain⟨v,rfl,r⟩:=rs.one;obtain⟨u,rfl,ru⟩:=dG rv;exact call_all_walk (zu j I rm r ru e1 e2 (g:=λts=>ts.all id) (λh' tk I'=>⟨.bl _,H,I',rfl,q _ H Ext.refl rm (WT.mpr rfl)⟩) (λn tr=>(D0 n).all tr) range_all.1)
noncomputable def oA(t:Bool):TEd:=λ_ M Q=>∀p,M p=Y->Q (.ref p) (ag M p (.dct t []))
theorem wu{t:Bool}:ad (oA t):=λ_ _ _ _ i q p n=>i _ _ (q p n)
theorem BU{t:Bool}{pos:Pos}:PE X (.Dict [] [] pos) (lE X.K (oA t)):=by
 cases t with
 |false=>refine PE.imp yt λσ H Q g9 p n=>?_;obtain⟨ρ,M,rs,rm,q⟩:=g9;exact q p (rm.out n) (.ref p) _ (Ext.lay n) (rm.lay n ⟨[],aB,.nil⟩) (WR.mpr rfl)
 |true=>refine PE.imp yu λσ H Q g9 p n=>?_;obtain⟨ρ,M,rs,rm,q⟩:=g9;exact q p (rm.out n) (.ref p) _ (Ext.lay n) (rm.lay n ⟨[],aB,.nil⟩) (WR.mpr rfl)
end
end
end Mi
end
namespace Srt
structure Cm(prog:Ml)(w:MQ)(A:MU)(s:s9)(kd:QL)(P:LM->Prop)(lt:LM->LM->Bool):Prop where
 asym:∀x y,lt x y=F2->lt y x=N2
 neg:∀x y z,lt x z=F2->lt x y=F2∨lt y z=F2
 run:∀(x y:LM) (E:i0->s9->Prop) (Q:Bool->s9->Prop),P x->P y->Q (lt x y) s->LR (Mj prog w) A (keyLt' kd x.1 y.1) Q E s
variable{M:R5}{x y:LM}{st:Ng}{i:Nat}
section
variable{prog:Ml}{w:MQ}{A:MU}{E:i0->s9->Prop}{s:s9}{kd:QL}{P:LM->Prop}{lt:LM->LM->Bool}
theorem aa{σ α:Type}{x:α}{st:σ}{Q:α->σ->Prop}(q:Q x st):wpS M A E s (pure x) Q st:=λ_ _ _=>⟨rfl,q⟩
theorem cI{σ:Type}{tag:String}{st:σ}{Q:Unit->σ->Prop}(q:Q () st):wpS M A E s (liftM (PySem.rule tag)) Q st:=wpS_lift (Oc ⟨rfl,q⟩)
theorem BV{σ:Type}{st st':σ}{Q:PUnit->σ->Prop}(q:Q PUnit.unit st'):wpS M A E s (set st') Q st:=λ_ _ _=>⟨rfl,q⟩
theorem jV(c:Cm prog w A s kd P lt){Q:Option Bool->Ng->Prop}(j:O1 st=kd)(hx:P x)(z:P y)(q:Q (Z (lt x y)) st):wpS (Mj prog w) A E s (lt' x y) Q st:=by rw[lt'_eq];refine LG (PH ?_);refine LG (wpS_lift ?_);rw[j];intro Γ p hp;rw[Sem.wp_attempt];exact c.run x y (λe s'=>s'=s/\wpS (Mj prog w) A E s (do modify λs=>Ru (O1 s) (MK s) (Md s) (gallopOf s) (Z e);pure Y) Q st) (λb s'=>s'=s/\wpS (Mj prog w) A E s (pure (Z b)) Q st) hx z ⟨rfl,aa q⟩ Γ p hp
theorem aG{arr:Array LM}{Q:LM->Ng->Prop}(h:arr[i]?=Z x)(q:Q x st):wpS (Mj prog w) A E s (elem' arr i) Q st:=by rw[elem'_eq,h];exact aa q
theorem Cm.le_trans(c:Cm prog w A s kd P lt){z:LM}(h:lt y x=N2)(h2:lt z y=N2):lt z x=N2:=by
 cases e:lt z x with
 |false=>rfl
 |true=>rcases c.neg z y x e with q|q<;>simp_all
theorem Cm.irr(c:Cm prog w A s kd P lt):lt x x=N2:=by
 cases e:lt x x with
 |false=>rfl
 |true=>have:=c.asym x x e;rw[e]at this;exact this
theorem ay{σ α:Type}{m:StateT σ Sem α}{st:σ}{Q Q':α->σ->Prop}(h:wpS M A E s m Q st)(q:∀a st',Q a st'->Q' a st'):wpS M A E s m Q' st:=Nv h (λa s' z=>⟨z.1,q _ _ z.2⟩) λ_ _ z=>z
end
noncomputable abbrev Ea:=Bool->LM->Array LM->Nat->Nat->Nat->StateT Ng Sem (Option Nat)
noncomputable abbrev Eb:=Array LM->Array LM->StateT Ng Sem (Array LM)
noncomputable def bey(lt:LM->LM->Bool)(left:Bool)(key x:LM):Bool:=if left=F2 then lt x key else !(lt key x)
structure Same(st st':Ng):Prop where
 arr:MK st'=MK st
 kind:O1 st'=O1 st
 pend:Md st'=Md st
 fail:Ot st'=Ot st
def iy(prog:Ml)(w:MQ)(A:MU)(E:i0->s9->Prop)(s:s9)(kd:QL)(P:LM->Prop)(lt:LM->LM->Bool)(g:Ea):Prop:=
 ∀(left:Bool) (key:LM) (arr:Array LM) (L xs R:List LM) (base n hint:Nat) (st:Ng) (Q:Option Nat->Ng->Prop),O1 st=kd->P key->arr.toList=L++xs++R->base=L.length->n=xs.length->(∀x∈xs,P x)->hint<n->
  xs.Pairwise (λx y=>lt y x=N2)->
  (∀X Fn,xs=X++Fn->(∀x∈X,bey lt left key x=F2)->(∀x∈Fn,bey lt left key x=N2)->Q (Z X.length) st)->
  wpS (Mj prog w) A E s (g left key arr base n hint) Q st
def iz(prog:Ml)(w:MQ)(A:MU)(E:i0->s9->Prop)(s:s9)(kd:QL)(P:LM->Prop)(lt:LM->LM->Bool)(m:Eb):Prop:=
 ∀(a b:Array LM) (st:Ng) (Q:Array LM->Ng->Prop),O1 st=kd->(∀x∈a.toList,P x)->(∀x∈b.toList,P x)->0<a.size->0<b.size->
  a.toList.Pairwise (λx y=>lt y x=N2)->b.toList.Pairwise (λx y=>lt y x=N2)->(∀x y,a[0]?=Z x->b[0]?=Z y->lt x y=N2)->(∀x y,a[a.size-1]?=Z x->b[b.size-1]?=Z y->lt x y=N2)->
  (∀r st',r.toList.Perm (a.toList++b.toList)->r.toList.Pairwise (λx y=>lt y x=N2)->Same st st'->Q r st')->
  wpS (Mj prog w) A E s (m a b) Q st
variable{left:Bool}{key:LM}{j ia ib n na nb:Nat}{xs X l Fn la lb:List LM}{a b:Array LM}
section
variable{prog:Ml}{w:MQ}{A:MU}{E:i0->s9->Prop}{s:s9}{kd:QL}{P:LM->Prop}{lt:LM->LM->Bool}
theorem gZ(c:Cm prog w A s kd P lt){arr:Array LM}{Q:Option Bool->Ng->Prop}(z:O1 st=kd)(hx:P key)(B:P x)(e:arr[j]?=Z x)(q:Q (Z (bey lt left key x)) st):
 wpS (Mj prog w) A E s (do
  let x <-elem' arr j
  if left=F2 then lt' x key else do
   let r <-lt' key x
   pure (Option.map (λx=>!x) r)) Q st:=by
 refine LG (aG e ?_)
 cases left with
 |true=>exact jV c z B hx q
 |false=>exact LG (jV c z hx B (aa q))
theorem qe(c:Cm prog w A s kd P lt)(h:lt y x=N2)(j:bey lt left key y=F2):bey lt left key x=F2:=by
 unfold bey at j⊢
 cases left with
 |true=>
  rw[if_pos rfl]at j⊢
  rcases c.neg y x key j with q|q
  ·rw[h]at q;cases q
  ·exact q
 |false=>
  simp at j⊢
  cases e:lt key x with
  |false=>rfl
  |true=>
   rcases c.neg key y x e with q|q
   ·rw[j]at q;cases q
   ·rw[h]at q;cases q
structure Gal(lt:LM->LM->Bool)(left:Bool)(key:LM)(xs:List LM)(lo hi:Nat):Prop where
 le:lo<=hi
 len:hi<=xs.length
 up:∀i x,i<lo->xs[i]?=Z x->bey lt left key x=F2
 dn:∀i x,hi<=i->xs[i]?=Z x->bey lt left key x=N2
theorem fH{R:LM->LM->Prop}(h:xs.Pairwise R)(z:i<j)(hx:xs[i]?=Z x)(B:xs[j]?=Z y):R x y:=by obtain⟨h1,e1⟩:=LP.mp hx;obtain⟨h2,e2⟩:=LP.mp B;rw[<-e1,<-e2];exact List.pairwise_iff_getElem.mp h i j h1 h2 z
theorem iA(c:Cm prog w A s kd P lt)(h:xs.Pairwise (λx y=>lt y x=N2))(z:xs[j]?=Z y)(B:bey lt left key y=F2):∀i x,i<j+1->xs[i]?=Z x->bey lt left key x=F2:=by
 intro i x hi hx
 by_cases e:i=j
 ·subst e;rw[hx]at z;cases z;exact B
 ·exact qe c (fH h ∅ hx z) B
theorem iB(c:Cm prog w A s kd P lt)(h:xs.Pairwise (λx y=>lt y x=N2))(z:xs[j]?=Z y)(B:bey lt left key y=N2):∀i x,j<=i->xs[i]?=Z x->bey lt left key x=N2:=by
 intro i x hi hx
 by_cases e:i=j
 ·subst e;rw[hx]at z;cases z;exact B
 ·cases q:bey lt left key x with
  |false=>rfl
  |true=>have:=qe c (fH h ∅ z hx) q;rw[B]at this;cases this
theorem Gal.out{k:Nat}(g:Gal lt left key xs k k):∃X Fn,xs=X++Fn/\X.length=k/\(∀x∈X,bey lt left key x=F2)/\(∀x∈Fn,bey lt left key x=N2):=by
 refine⟨xs.take k,xs.drop k,(NQ k xs).symm,by rw[Mm];exact Nz g.len,λx hx=>?_,λx hx=>?_⟩
 ·obtain⟨i,hi,e⟩:=Oh.mp hx;rw[Mm]at hi;exact g.up i x ∅ (by rw[List.getElem_take]at e;rw[<-e];exact z0 _)
 ·obtain⟨i,hi,e⟩:=Oh.mp hx;rw[Of]at hi;refine g.dn (k+i) x ∅ ?_
  rw[List.getElem_drop]at e;rw[<-e];exact z0 _
noncomputable abbrev Ord(lt:LM->LM->Bool)(l:List LM):Prop:=l.Pairwise λx y=>lt y x=N2
theorem qf{out A' B:List LM}(h1:Ord lt (out++(X++A')))(h2:Ord lt (out++B))(h:∀x∈X,∀y∈B,lt y x=N2):Ord lt ((out++X)++A')/\Ord lt ((out++X)++B):=by
 refine⟨by rw[LZ];exact h1,?_⟩
 rw[LZ];obtain⟨j,F,G⟩:=LH.mp h1;obtain⟨U,p2,J⟩:=LH.mp h2;obtain⟨L,Fn,fv⟩:=LH.mp F;refine LH.mpr ⟨j,LH.mpr ⟨L,p2,h⟩,λx hx y O=>?_⟩
 rcases LV.mp O with z|z
 ·exact G x hx y (MJ _ z)
 ·exact J x hx y z
structure ML(lt:LM->LM->Bool)(la lb out:List LM)(ia ib:Nat):Prop where
 pa:Ord lt (out++la.drop ia)
 pb:Ord lt (out++lb.drop ib)
 pm:(out++(la.drop ia++lb.drop ib)).Perm (la++lb)
theorem sn(c:Cm prog w A s kd P lt)(h:Ord lt (l.drop i))(j:l[i]?=Z y)(hx:lt y x=N2):∀z∈l.drop i,lt z x=N2:=by
 obtain⟨hi,e⟩:=LP.mp j;rw[NF hi,e]at h⊢;intro z B
 rcases LI.mp B with q|q
 ·rw[q];exact hx
 ·exact c.le_trans hx ((QV.mp h).1 z q)
theorem eh(e:l.drop i=X++Fn):l.drop (i+X.length)=Fn:=by rw[<-Ss,e,List.drop_left]
theorem ML.galA(c:Cm prog w A s kd P lt){out:List LM}(m:ML lt la lb out ia ib)(e:la.drop ia=X++Fn)(j:lb[ib]?=Z y)(h:∀x∈X,lt y x=N2):ML lt la lb (out++X) (ia+X.length) ib:=by
 have p2:=(LH.mp m.pb).2.1;have q:=qf (X:=X) (A':=Fn) (by rw[<-e];exact m.pa) m.pb λx hx=>sn c p2 j (h x hx)
 refine⟨by rw[eh e];exact q.1,q.2,?_⟩
 rw[eh e];refine P1.trans (Qf ?_) m.pm;rw[e];simp
theorem ML.galB(c:Cm prog w A s kd P lt){out:List LM}(m:ML lt la lb out ia ib)(e:lb.drop ib=X++Fn)(j:la[ia]?=Z y)(h:∀x∈X,lt y x=N2):ML lt la lb (out++X) ia (ib+X.length):=by
 have p2:=(LH.mp m.pa).2.1;have q:=qf (X:=X) (A':=Fn) (by rw[<-e];exact m.pb) m.pa λx hx=>sn c p2 j (h x hx)
 refine⟨q.2,by rw[eh e];exact q.1,?_⟩
 rw[eh e];refine P1.trans ?_ m.pm;rw[e,LZ];refine N4 _ ?_;rw[<-LZ,<-LZ];exact Nt _ Pe
theorem eC(h:l[i]?=Z x):l.drop i=[x]++l.drop (i+1):=by obtain⟨hi,e⟩:=LP.mp h;rw[NF hi,e];rfl
theorem ML.pushA(c:Cm prog w A s kd P lt){out:List LM}(m:ML lt la lb out ia ib)(hx:la[ia]?=Z x)(j:lb[ib]?=Z y)(h:lt y x=N2):ML lt la lb (out++[x]) (ia+1) ib:=m.galA c (eC hx) j (by simpa using h)
theorem ML.pushB(c:Cm prog w A s kd P lt){out:List LM}(m:ML lt la lb out ia ib)(hx:la[ia]?=Z x)(j:lb[ib]?=Z y)(h:lt x y=N2):ML lt la lb (out++[y]) ia (ib+1):=m.galB c (eC j) hx (by simpa using h)
def Res(lt:LM->LM->Bool)(la lb r:List LM):Prop:=r.Perm (la++lb)/\Ord lt r
theorem ML.fin{out:List LM}(m:ML lt la lb out ia ib)(h:lb.length<=ib):Res lt la lb (out++la.drop ia++lb.drop ib):=by rw[OV h,Np];refine⟨?_,m.pa⟩;have:=m.pm;rw[OV h,Np]at this;exact this
theorem ML.finE{out:List LM}(m:ML lt la lb out ia ib)(h:la.length<=ia):Res lt la lb (out++la.drop ia++lb.drop ib):=by rw[OV h,Np];refine⟨?_,m.pb⟩;have:=m.pm;rw[OV h,QO]at this;exact this
theorem ML.finA{out:List LM}(m:ML lt la lb out ia ib)(h:∀x∈lb,∀y∈la.drop ia,lt y x=N2):Res lt la lb (out++lb.drop ib++la.drop ia):=by
 refine⟨?_,?_⟩
 ·refine P1.trans ?_ m.pm;rw[LZ];exact N4 _ Pe
 ·obtain⟨G,B,F⟩:=LH.mp m.pa;refine LH.mpr ⟨m.pb,B,λx hx y j=>?_⟩
  rcases LV.mp hx with z|z
  ·exact F x z y j
  ·exact h x (Pq z) y j
theorem ML.size{out:List LM}(m:ML lt la lb out ia ib)(j:ia<=la.length)(z:ib<=lb.length):out.length=ia+ib:=by have:=m.pm.length_eq;simp only[J4,Of]at this;lia
theorem aF(h:i<a.size):∃x,a[i]?=Z x/\a.toList[i]?=Z x/\x∈a.toList:=by refine⟨a[i],MX h,?_,Array.getElem_mem_toList h⟩;rw[Mq];exact MX h
theorem bS:(a.extract i).toList=a.toList.drop i:=by rw[OL];simp only[Rb];exact NY (by simp)
theorem BW(e:a.toList.drop i=X++Fn):(a.extract i (i+X.length)).toList=X:=by rw[OL];simp[Rb,e]
theorem Same.refl:Same st st:=⟨rfl,rfl,rfl,rfl⟩
theorem Same.trans{a b c:Ng}(h:Same a b)(g:Same b c):Same a c:=⟨g.arr.trans h.arr,g.kind.trans h.kind,g.pend.trans h.pend,g.fail.trans h.fail⟩
theorem mX{O A' B:List LM}(h1:Ord lt (A'++(Fn++O)))(h2:Ord lt (B++O))(h:∀y∈Fn,∀x∈B,lt y x=N2):Ord lt (B++(Fn++O)):=by
 obtain⟨L,j,U⟩:=LH.mp h1;obtain⟨F,p2,G⟩:=LH.mp h2;refine LH.mpr ⟨F,j,λx hx y J=>?_⟩
 rcases LV.mp J with z|z
 ·exact h y z x hx
 ·exact G x hx y z
structure MH(lt:LM->LM->Bool)(la lb out:List LM)(na nb:Nat):Prop where
 pa:Ord lt (la.take na++out.reverse)
 pb:Ord lt (lb.take nb++out.reverse)
 pm:(la.take na++lb.take nb++out.reverse).Perm (la++lb)
theorem iC(c:Cm prog w A s kd P lt)(h:Ord lt (l.take n))(J:0<n)(F:l[n-1]?=Z y)(hx:lt x y=N2):∀z∈l.take n,lt x z=N2:=by
 intro z G;obtain⟨i,hi,e⟩:=Oh.mp G;have j:(l.take n)[i]?=Z z:=by rw[<-e];exact z0 hi
 have B:(l.take n)[n-1]?=Z y:=by rw[O8 ∅];exact F
 rw[Mm]at hi
 by_cases hin:i=n-1
 ·subst hin;rw[B]at j;cases j;exact hx
 ·exact c.le_trans (fH h ∅ j B) hx
theorem eD(e:l.take n=X++Fn):l.take X.length=X:=by
 have h:X.length<=n:=by have:=congrArg O6 e;simp only[Mm,J4]at this;lia
 have h2:(l.take n).take X.length=X:=by rw[e,List.take_left]
 rw[List.take_take,Nz h]at h2;exact h2
theorem MH.galA(c:Cm prog w A s kd P lt){out:List LM}(m:MH lt la lb out na nb)(e:la.take na=X++Fn)(j:0<nb)(z:lb[nb-1]?=Z y)(h:∀x∈Fn,lt x y=N2):MH lt la lb (out++Fn.reverse) X.length nb:=by
 have p2:=(LH.mp m.pb).1;have h1:Ord lt (X++(Fn++out.reverse)):=by rw[<-LZ,<-e];exact m.pa
 have q:=mX h1 m.pb λx hx=>iC c p2 j z (h x hx);refine⟨by rw[eD e];simpa using h1,by simpa using q,?_⟩
 rw[eD e];refine P1.trans ?_ m.pm;rw[e];simp only[RY,Qw,LZ];refine N4 _ ?_;rw[<-LZ,<-LZ];exact Nt _ Pe
theorem MH.galB(c:Cm prog w A s kd P lt){out:List LM}(m:MH lt la lb out na nb)(e:lb.take nb=X++Fn)(j:0<na)(z:la[na-1]?=Z y)(h:∀x∈Fn,lt x y=N2):MH lt la lb (out++Fn.reverse) na X.length:=by
 have p2:=(LH.mp m.pa).1;have h1:Ord lt (X++(Fn++out.reverse)):=by rw[<-LZ,<-e];exact m.pb
 have q:=mX h1 m.pa λx hx=>iC c p2 j z (h x hx);refine⟨by simpa using q,by rw[eD e];simpa using h1,?_⟩
 rw[eD e];refine P1.trans (Qf ?_) m.pm;rw[e];simp
theorem db(j:0<n)(h:l[n-1]?=Z x):l.take n=l.take (n-1)++[x]:=by
 obtain⟨k,rfl⟩:∃k,n=k+1:=⟨n-1,∅⟩
 rw[Nat.add_sub_cancel]at h⊢;rw[SM,h];rfl
theorem su(j:0<n)(h:l[n-1]?=Z x):(l.take (n-1)).length=n-1:=by obtain⟨hi,_⟩:=LP.mp h;rw[Mm];lia
theorem MH.pushA(c:Cm prog w A s kd P lt){out:List LM}(m:MH lt la lb out na nb)(j:0<na)(z:0<nb)(hx:la[na-1]?=Z x)(B:lb[nb-1]?=Z y)(h:lt x y=N2):MH lt la lb (out++[x]) (na-1) nb:=by
 have q:=m.galA c (db j hx) z B (by simpa using h)
 rw[su j hx]at q;simpa using q
theorem MH.pushB(c:Cm prog w A s kd P lt){out:List LM}(m:MH lt la lb out na nb)(B:0<na)(j:0<nb)(hx:la[na-1]?=Z x)(z:lb[nb-1]?=Z y)(h:lt y x=N2):MH lt la lb (out++[y]) na (nb-1):=by
 have q:=m.galB c (db j z) B hx (by simpa using h)
 rw[su j z]at q;simpa using q
theorem MH.fin{out:List LM}(m:MH lt la lb out na nb)(h:na=0∨nb=0):Res lt la lb (la.take na++lb.take nb++out.reverse):=by
 refine⟨m.pm,?_⟩
 rcases h with rfl|rfl
 ·simpa using m.pb
 ·simpa using m.pa
theorem MH.finB{out:List LM}(m:MH lt la lb out na nb)(h:∀x∈lb.take nb,∀y∈la,lt y x=N2):Res lt la lb (lb.take nb++la.take na++out.reverse):=by
 refine⟨P1.trans (Nt _ Pe) m.pm,?_⟩;obtain⟨j,G,B⟩:=LH.mp m.pb;rw[LZ];refine LH.mpr ⟨j,m.pa,λx hx y F=>?_⟩
 rcases LV.mp F with z|z
 ·exact h x hx y (OM z)
 ·exact B x hx y z
theorem MH.size{out:List LM}(m:MH lt la lb out na nb)(j:na<=la.length)(z:nb<=lb.length):out.length+na+nb=la.length+lb.length:=by have:=m.pm.length_eq;simp only[J4,Mm,QE]at this;lia
theorem eS:a.toList.take a.size=a.toList:=NY (by simp)
theorem bq:(a.extract 0 i).toList=a.toList.take i:=by rw[OL];simp[Rb]
theorem zw(e:a.toList.take n=X++Fn):(a.extract X.length n).toList=Fn:=by rw[OL];simp only[Rb];rw[<-List.drop_take,e,List.drop_left]
theorem zx:∀(m old L R:List LM) (a:Array LM),a.toList=L++old++R->m.length=old.length->(Rp (λa x=>a.setIfInBounds (L.length+x.snd) x.fst) a m.zipIdx).toList=L++m++R:=by
 have g:∀(m old L R:List LM) (k:Nat) (a:Array LM),a.toList=L++old++R->m.length=old.length->∀b:Nat,b+k=L.length->(Rp (λa x=>a.setIfInBounds (b+x.snd) x.fst) a (m.zipIdx k)).toList=L++m++R:=by
  intro m
  induction m with
  |nil=>intro old L R k a e h b j;have:old=[]:=MZ.mp h.symm;subst this;simpa using e
  |cons x m ih=>
   intro old L R k a e h b j
   cases old with
   |nil=>simp at h
   |cons y old=>
    rw[Ta,TV];have e2:(a.setIfInBounds (b+k) x).toList=(L++[x])++old++R:=by rw[Su,e,j];simp
    have:=ih old (L++[x]) R (k+1) _ e2 (by simpa using h) b (by simp;lia)
    rw[this];simp
 exactλm old L R a e h=>g m old L R 0 a e h L.length ∅
theorem ae{σ α:Type}{p:Prop}[Decidable p]{j z:StateT σ Sem α}{st:σ}{Q:α->σ->Prop}(h1:p->wpS M A E s j Q st)(h2:¬p->wpS M A E s z Q st):wpS M A E s (if p then j else z) Q st:=by
 split
 ·next h=>exact h1 h
 ·next h=>exact h2 h
theorem ML.cut{out:Array LM}(m:ML lt la lb (out.toList++X) i j)(e:a.toList.drop n=X++Fn):ML lt la lb (out++a.extract n (n+X.length)).toList i j:=by rw[Me,BW e];exact m
theorem MH.cut{out:Array LM}(m:MH lt la lb (out.toList++Fn.reverse) i j)(e:a.toList.take n=X++Fn):MH lt la lb (out++(a.extract X.length n).reverse).toList i j:=by rw[Me,N3,zw e];exact m
theorem wv{σ α:Type}{m:StateT σ Sem α}{st:σ}{Q:α->σ->Prop}{P:σ->Prop}(j:P st)(h:∀st',P st'->wpS M A E s m Q st'):wpS M A E s m Q st:=h st j
theorem AC{σ α:Type}{m:StateT σ Sem α}{st:σ}{Q:α->σ->Prop}(h:∀Q':α->σ->Prop,(∀a st',Q a st'->Q' a st')->wpS M A E s m Q' st):wpS M A E s m Q st:=h Q λ_ _ h=>h
theorem AD(h:bey lt N2 key x=F2):lt key x=N2:=by simpa[bey]using h
theorem ww(h:bey lt N2 key x=N2):lt key x=F2:=by simpa[bey]using h
theorem AE(h:bey lt F2 key x=F2):lt x key=F2:=by simpa[bey]using h
theorem wx(h:bey lt F2 key x=N2):lt x key=N2:=by simpa[bey]using h
theorem qg(e:l.drop i=X++Fn)(h:l[i+X.length]?=Z x):x∈Fn:=by rw[<-eh e,eC h];simp
theorem qh(e:l.take n=X++Fn)(h0:0<X.length)(h:l[X.length-1]?=Z x):x∈X:=by have:=db h0 h;rw[eD e]at this;rw[this];simp
theorem qi(e:a.toList.drop i=X++Fn):X.length<=a.size-i:=by have:=congrArg O6 e;simp at this;lia
theorem mY(e:a.toList.take n=X++Fn)(h:n<=a.size):X.length+Fn.length=n:=by have:=congrArg O6 e;simp at this;lia
theorem gd(h:n<=a.size):n=(a.toList.take n).length:=by simp;lia
theorem ML.finR{out:Array LM}(m:ML lt a.toList b.toList out.toList ia ib)(h:b.size<=ib):Res lt a.toList b.toList (out++a.extract ia++b.extract ib).toList:=by
 have:=m.fin (by simpa using h)
 simpa only[Me,bS]using this
theorem ML.finS{out:Array LM}(m:ML lt a.toList b.toList out.toList ia ib)(h:a.size<=ia):Res lt a.toList b.toList (out++a.extract ia++b.extract ib).toList:=by
 have:=m.finE (by simpa using h)
 simpa only[Me,bS]using this
theorem ML.finL{out:Array LM}(m:ML lt a.toList b.toList out.toList ia ib)(h:∀x∈b.toList,∀y∈a.toList.drop ia,lt y x=N2):Res lt a.toList b.toList (out++b.extract ib++a.extract ia).toList:=by have:=m.finA h;simpa only[Me,bS]using this
theorem MH.finR{out:Array LM}(m:MH lt a.toList b.toList out.toList na nb)(h:∀x∈b.toList.take nb,∀y∈a.toList,lt y x=N2):Res lt a.toList b.toList (b.extract 0 nb++a.extract 0 na++out.reverse).toList:=by have:=m.finB h;simpa only[Me,N3,bq]using this
theorem MH.finL{out:Array LM}(m:MH lt a.toList b.toList out.toList na nb)(h:na=0∨nb=0):Res lt a.toList b.toList (a.extract 0 na++b.extract 0 nb++out.reverse).toList:=by have:=m.fin h;simpa only[Me,N3,bq]using this
theorem FT(c:Cm prog w A s kd P lt):
 ∃(g:Ea) (lo hi:Eb),(iy prog w A E s kd P lt g/\(iy prog w A E s kd P lt g->iz prog w A E s kd P lt lo)/\(iy prog w A E s kd P lt g->iz prog w A E s kd P lt hi))/\(iy prog w A E s kd P lt g->iz prog w A E s kd P lt lo->iz prog w A E s kd P lt hi->
  ∀(i sa na pa sb nb pb:Nat) (L r1 r2 R:List LM) (st:Ng) (Q:Bool->Ng->Prop),O1 st=kd->Ot st=Y->(Md st)[i]?=Z (sa,na,pa)->(Md st)[i+1]?=Z (sb,nb,pb)->
   (MK st).toList=L++(r1++r2)++R->sa=L.length->na=r1.length->sb=L.length+r1.length->nb=r2.length->r1≠[]->r2≠[]->(∀x∈r1,P x)->(∀x∈r2,P x)->Ord lt r1->Ord lt r2->
   (∀m st',(MK st').toList=L++m++R->m.Perm (r1++r2)->Ord lt m->O1 st'=kd->Ot st'=Y->Md st'=((Md st).setIfInBounds i (sa,na+nb,pa)).eraseIdxIfInBounds (i+1)->Q F2 st')->
   wpS (Mj prog w) A E s (Wy i) Q st):=by
 apply Vu;apply Vu;apply Vu;apply Qk
 rotate_left
 ·intro hg Li Lj i sa na pa sb nb pb L r1 r2 R st Q hk hf h1 h2 fv KG JZ KH Kh Lk Ll KQ KR o1 o2 q;unfold Wy;refine LG (PH ?_);rw[h1,h2];dsimp only;refine LG (BV ?_);obtain⟨y0,t2,rfl⟩:∃y t,r2=y::t:=by cases r2 with|nil=>exact absurd rfl Ll|cons y t=>exact⟨y,t,rfl⟩
  have hz:(MK st)[sb]?=Z y0:=by rw[<-Mq,fv,KH];simp
  refine LG (aG hz ?_);refine LG (hg N2 y0 (MK st) L r1 (y0::t2++R) sa na 0 _ _ hk (KR _ (by simp)) (by rw[fv];simp) KG JZ KQ (by rw[JZ];exact N6.mpr Lk) o1 λX Fn e hX hY=>?_)
  dsimp only;have lX:∀x∈X,lt y0 x=N2:=λx hx=>by have:=hX x hx;simpa[bey]using this
  have lY:∀x∈Fn,lt x y0=N2:=λx hx=>c.asym _ _ (by have:=hY x hx;simpa[bey]using this)
  have hlen:na-X.length=Fn.length:=by rw[JZ,e];simp
  subst e;obtain⟨oX,oY,oXY⟩:=LH.mp o1;have oy:=QV.mp o2;have KI:∀x∈X,∀z∈y0::t2,lt z x=N2:=λx hx z hz=>by
   rcases LI.mp hz with h|h
   ·rw[h];exact lX x hx
   ·exact c.le_trans (lX x hx) (oy.1 z h)
  refine ae (λh=>?_) (λh=>?_)
  ·have KJ:Fn=[]:=MZ.mp (by rw[<-hlen];simpa using h)
   subst KJ;refine aa (q (X++(y0::t2)) _ (by simpa using fv) (by simp) ?_ hk hf rfl)
   exact LH.mpr ⟨oX,o2,KI⟩
  ·have KJ:0<Fn.length:=by
    have:na-X.length≠0:=by simpa using h
    lia
   obtain⟨Y0,xl,rfl⟩:∃Y0 xl,Fn=Y0++[xl]:=⟨Fn.dropLast,Fn.getLast (by intro z;rw[z]at KJ;simp at KJ),(Oa _).symm⟩
   have Lm:(MK st)[sa+X.length+(na-X.length)-1]?=Z xl:=by
    rw[<-Mq,fv,hlen,KG];simp only[LZ,J4,NP];rw[D2 ∅,D2 ∅,D2 ∅]
    rw[show L.length+X.length+(Y0.length+1)-1-L.length-X.length-Y0.length=0 by lia];rfl
   refine LG (aG Lm ?_);refine LG (hg F2 xl (MK st) (L++(X++(Y0++[xl]))) (y0::t2) R sb nb (nb-1) _ _ hk (KQ _ (by simp)) (by rw[fv];simp) (by rw[KH];simp) Kh KR (by rw[Kh];simp) o2 λX2 Y2 e2 K0 K1=>?_)
   dsimp only;have Ln:∀x∈X2,lt xl x=N2:=λx hx=>c.asym _ _ (by have:=K0 x hx;simpa[bey]using this)
   have L6:∀x∈Y2,lt x xl=N2:=λx hx=>by have:=K1 x hx;simpa[bey]using this
   have Lo:Ord lt (X2++Y2):=by rw[<-e2];exact o2
   obtain⟨Lp,Lq,L7⟩:=LH.mp Lo;obtain⟨LB,_,oYl⟩:=LH.mp oY;have lYY:∀x∈Y0++[xl],∀z∈Y2,lt z x=N2:=λx hx z hz=>by
    rcases LV.mp hx with h|h
    ·exact c.le_trans (oYl x h xl (by simp)) (L6 z hz)
    ·simp at h;subst h;exact L6 z hz
   refine ae (λh=>?_) (λh=>?_)
   ·have JT:X2=[]:=MZ.mp (by simpa using h)
    subst JT;have e2:y0::t2=Y2:=by simpa using e2
    refine aa (q (X++(Y0++[xl])++(y0::t2)) _ (by simpa using fv) (Uo _) ?_ hk hf rfl)
    refine LH.mpr ⟨o1,o2,λx hx z hz=>?_⟩
    rcases LV.mp hx with g|g
    ·exact KI x g z hz
    ·exact lYY x g z (by rw[<-e2];exact hz)
   ·have JT:X2≠[]:=λz=>h (by rw[z];rfl)
    have hx:((MK st).extract (sa+X.length) sb).toList=Y0++[xl]:=by
     rw[OL,fv,KG,KH];simp only[Rb];have e1:(L++(X++(Y0++[xl])++y0::t2)++R).drop (L.length+X.length)=(Y0++[xl])++(y0::t2++R):=by rw[<-Ss];simp
     rw[e1,show L.length+(X++(Y0++[xl])).length-(L.length+X.length)=(Y0++[xl]).length by simp only[J4];lia,List.take_left]
    have hy:((MK st).extract sb (sb+X2.length)).toList=X2:=by
     rw[OL,fv,KH];simp only[Rb];have e1:(L++(X++(Y0++[xl])++y0::t2)++R).drop (L.length+(X++(Y0++[xl])).length)=(y0::t2)++R:=by rw[<-Ss];simp
     rw[e1,e2];simp
    have G:∀(r:Array LM) (Jp:Ng),r.toList.Perm ((Y0++[xl])++X2)->Ord lt r.toList->Same (PyProof.Rows.SortSt.mk' (O1 st) (MK st) (((Md st).setIfInBounds i (sa,na+nb,pa)).eraseIdxIfInBounds (i+1)) (gallopOf st) (Ot st)) Jp->∀Jm:Ng,MK Jm=Rp (λa x=>a.setIfInBounds (sa+X.length+x.snd) x.fst) (MK Jp) r.toList.zipIdx->O1 Jm=O1 Jp->Ot Jm=Ot Jp->Md Jm=Md Jp->Q (Ot Jm).isNone Jm:=by
     intro r Jp hp ho hs Jm g1 g2 g3 g4;have L8:Ot Jm=Y:=g3.trans (hs.fail.trans hf);rw[L8];refine q (X++r.toList++Y2) Jm ?_ ?_ ?_ (g2.trans (hs.kind.trans hk)) L8 (g4.trans hs.pend)
     ·rw[g1,hs.arr];have e3:(MK st).toList=(L++X)++((Y0++[xl])++X2)++(Y2++R):=by
       rw[fv,e2];simp
      rw[show sa+X.length=(L++X).length by rw[KG];simp]
      rw[zx _ _ _ _ _ e3 (hp.length_eq)];simp
     ·rw[e2];refine P1.trans (Nt _ (N4 _ hp)) ?_;simp
     ·refine LH.mpr ⟨LH.mpr ⟨oX,ho,λx hx z hz=>?_⟩,Lq,λx hx z hz=>?_⟩
      ·rcases LV.mp (hp.mem_iff.mp hz)with g|g
       ·exact oXY x hx z g
       ·exact KI x hx z (by rw[e2];exact MJ _ g)
      ·rcases LV.mp hx with g|g
       ·exact KI x g z (by rw[e2];exact Mp _ hz)
       ·rcases LV.mp (hp.mem_iff.mp g)with g|g
        ·exact lYY x g z hz
        ·exact L7 x g z hz
    have KO:∀x y,((MK st).extract (sa+X.length) sb)[0]?=Z x->((MK st).extract sb (sb+X2.length))[0]?=Z y->lt x y=N2:=by
     intro x y JL Ki;rw[<-Mq,hx]at JL;rw[<-Mq,hy]at Ki;have Kj:=Mh JL;have:y=y0:=by
      cases X2 with
      |nil=>exact absurd rfl JT
      |cons z t=>simp at e2 Ki;rw[<-Ki,<-e2.1]
     subst this;exact lY x Kj
    have preL:∀x y,((MK st).extract (sa+X.length) sb)[((MK st).extract (sa+X.length) sb).size-1]?=Z x->((MK st).extract sb (sb+X2.length))[((MK st).extract sb (sb+X2.length)).size-1]?=Z y->lt x y=N2:=by
     intro x y JL Ki;rw[<-Mq,<-My,hx]at JL;rw[<-Mq,<-My,hy]at Ki;have JM:=Mh Ki;have:x=xl:=by simp at JL;exact JL.symm
     subst this;exact Ln y JM
    have L9:0<((MK st).extract (sa+X.length) sb).size:=by rw[<-My,hx];simp
    have La:0<((MK st).extract sb (sb+X2.length)).size:=by rw[<-My,hy];exact N6.mpr JT
    have Lb:∀x∈((MK st).extract (sa+X.length) sb).toList,P x:=by rw[hx];exactλx hx=>KQ x (Mp _ hx)
    have Lc:∀x∈((MK st).extract sb (sb+X2.length)).toList,P x:=by rw[hy];exactλx hx=>KR x (by rw[e2];exact MJ _ hx)
    have Ld:Ord lt ((MK st).extract (sa+X.length) sb).toList:=by rw[hx];exact oY
    have Le:Ord lt ((MK st).extract sb (sb+X2.length)).toList:=by rw[hy];exact Lp
    refine ae (λh=>?_) (λh=>?_)
    ·refine LG (Li _ _ _ _ hk Lb Lc L9 La Ld Le KO preL λr Jp hp ho hs=>?_);rw[hx,hy]at hp;refine LG (Ou ?_);refine LG (PH ?_);exact aa (G r Jp hp ho hs _ rfl rfl rfl rfl)
    ·refine LG (Lj _ _ _ _ hk Lb Lc L9 La Ld Le KO preL λr Jp hp ho hs=>?_);rw[hx,hy]at hp;refine LG (Ou ?_);refine LG (PH ?_);exact aa (G r Jp hp ho hs _ rfl rfl rfl rfl)
 apply Qk
 ·intro left key arr L xs R base n hint st Q hk JU fv KS hn hP hh hs q;subst KS hn;have at_:∀i,i<xs.length->∃x,xs[i]?=Z x/\arr[L.length+i]?=Z x/\P x:=by
   intro i hi;refine⟨xs[i],z0 hi,?_,hP _ (PM _)⟩;rw[<-Mq,fv,LZ,D2 ∅,LY ∅]
   rw[show L.length+i-L.length=i by lia]
   exact z0 hi
  obtain⟨x0,JL,Kk,Lr⟩:=at_ hint hh;refine LG (gZ c hk JU Lr Kk ?_)
  try dsimp only
  refine ae (λhb=>?_) (λhb=>?_)
  ·skip
   refine LG (ay (Q:=λr st'=>st'=st/\∃la ofs,r=(Y,la,ofs)/\hint+la<xs.length/\la<ofs/\(∀j x,j<hint+la+1->xs[j]?=Z x->bey lt left key x=F2)/\(xs.length<=hint+ofs∨∀j x,hint+ofs<=j->xs[j]?=Z x->bey lt left key x=N2))
    (N7 (λi r st'=>st'=st/\∃la ofs,r=(Y,la,ofs)/\hint+la<xs.length/\la<ofs/\i+1<=ofs/\(∀j x,j<hint+la+1->xs[j]?=Z x->bey lt left key x=F2)) ?_ ?_ ⟨rfl,0,1,rfl,hh,∅,∅,iA c hs JL hb⟩) ?_)
   ·rintro i r st' _ hi ⟨rfl,la,ofs,rfl,h1,h2,h3,h4⟩
    try dsimp only
    refine ae (λK5=>?_) (λK5=>?_)
    ·exact aa ⟨rfl,la,ofs,rfl,h1,h2,h4,.inl ∅⟩
    ·skip
     obtain⟨x1,JG,K6,K7⟩:=at_ (hint+ofs) ∅
     refine LG (gZ c hk JU K7 K6 ?_)
     try dsimp only
     refine ae (λhf=>?_) (λhf=>?_)
     ·exact aa ⟨rfl,la,ofs,rfl,h1,h2,h4,.inr (iB c hs JG (by simpa using hf))⟩
     ·exact aa ⟨rfl,ofs,2*ofs+1,rfl,∅,∅,∅,iA c hs JG (by simpa using hf)⟩
   ·rintro r st' ⟨rfl,la,ofs,rfl,h1,h2,h3,h4⟩;exact⟨rfl,la,ofs,rfl,h1,h2,h4,.inl ∅⟩
   ·rintro r st' ⟨rfl,la,ofs,rfl,h1,h2,h3,h4⟩
    try dsimp only
    have hG:Gal lt left key xs (hint+la+1) (hint+min ofs (xs.length-hint)):=by
     refine⟨∅,∅,h3,λi x hi hx=>?_⟩
     have LC:i<xs.length:=(LP.mp hx).1
     rcases h4 with h4|h4
     ·lia
     ·exact h4 i x ∅ hx
    generalize hint+la+1=lo at hG;generalize hint+min ofs (xs.length-hint)=hi at hG;refine LG (ay (Q:=λr st''=>st''=st'/\∃k,r=(Y,k,k)/\Gal lt left key xs k k)
     (N7 (λi r st''=>st''=st'/\∃lo hi,r=(Y,lo,hi)/\Gal lt left key xs lo hi/\hi-lo+i<=xs.length) ?_ ?_ ⟨rfl,lo,hi,rfl,hG,by have:=hG.len;lia⟩) ?_)
    ·rintro i r st'' _ hi ⟨rfl,lo,hi,rfl,hG,hm⟩
     try dsimp only
     have hl:=hG.le;have Kl:=hG.len;refine ae (λK5=>?_) (λK5=>?_)
     ·exact aa ⟨rfl,hi,by rw[show lo=hi by lia],by rw[show lo=hi by lia]at hG;exact hG⟩
     ·skip
      obtain⟨x1,JG,K6,K7⟩:=at_ (lo+(hi-lo) / 2) ∅
      refine LG (gZ c hk JU K7 K6 ?_)
      try dsimp only
      refine ae (λhf=>?_) (λhf=>?_)
      ·exact aa ⟨rfl,_,_,rfl,⟨∅,Kl,iA c hs JG hf,hG.dn⟩,∅⟩
      ·exact aa ⟨rfl,_,_,rfl,⟨∅,∅,hG.up,iB c hs JG (by simpa using hf)⟩,∅⟩
    ·rintro r st'' ⟨rfl,lo,hi,rfl,hG,hm⟩;have hl:=hG.le;exact⟨rfl,hi,by rw[show lo=hi by lia],by rw[show lo=hi by lia]at hG;exact hG⟩
    ·rintro r st'' ⟨rfl,k,rfl,hG⟩;obtain⟨X,Fn,e,hl,hX,hY⟩:=hG.out;subst hl;exact aa (q X Fn e hX hY)
  ·skip
   refine LG (ay (Q:=λr st'=>st'=st/\∃la ofs,r=(Y,la,ofs)/\la<=hint/\la<ofs/\(∀j x,hint-la<=j->xs[j]?=Z x->bey lt left key x=N2)/\(hint<ofs∨∀j x,j<hint-ofs+1->xs[j]?=Z x->bey lt left key x=F2))
    (N7 (λi r st'=>st'=st/\∃la ofs,r=(Y,la,ofs)/\la<=hint/\la<ofs/\i+1<=ofs/\(∀j x,hint-la<=j->xs[j]?=Z x->bey lt left key x=N2)) ?_ ?_ ⟨rfl,0,1,rfl,∅,∅,∅,iB c hs JL (by simpa using hb)⟩) ?_)
   ·rintro i r st' _ hi ⟨rfl,la,ofs,rfl,h1,h2,h3,h4⟩
    try dsimp only
    refine ae (λK5=>?_) (λK5=>?_)
    ·exact aa ⟨rfl,la,ofs,rfl,h1,h2,h4,.inl ∅⟩
    ·skip
     obtain⟨x1,JG,K6,K7⟩:=at_ (hint-ofs) ∅
     refine LG (gZ c hk JU K7 K6 ?_)
     try dsimp only
     refine ae (λhf=>?_) (λhf=>?_)
     ·exact aa ⟨rfl,la,ofs,rfl,h1,h2,h4,.inr (iA c hs JG hf)⟩
     ·exact aa ⟨rfl,ofs,2*ofs+1,rfl,∅,∅,∅,iB c hs JG (by simpa using hf)⟩
   ·rintro r st' ⟨rfl,la,ofs,rfl,h1,h2,h3,h4⟩;exact⟨rfl,la,ofs,rfl,h1,h2,h4,.inl ∅⟩
   ·rintro r st' ⟨rfl,la,ofs,rfl,h1,h2,h3,h4⟩
    try dsimp only
    have hG:Gal lt left key xs (hint+1-min ofs (hint+1)) (hint-la):=by
     refine⟨∅,∅,λi x hi hx=>?_,h3⟩
     rcases h4 with h4|h4
     ·lia
     ·exact h4 i x ∅ hx
    generalize hint+1-min ofs (hint+1)=lo at hG;generalize hint-la=hi at hG;refine LG (ay (Q:=λr st''=>st''=st'/\∃k,r=(Y,k,k)/\Gal lt left key xs k k)
     (N7 (λi r st''=>st''=st'/\∃lo hi,r=(Y,lo,hi)/\Gal lt left key xs lo hi/\hi-lo+i<=xs.length) ?_ ?_ ⟨rfl,lo,hi,rfl,hG,by have:=hG.len;lia⟩) ?_)
    ·rintro i r st'' _ hi ⟨rfl,lo,hi,rfl,hG,hm⟩
     try dsimp only
     have hl:=hG.le;have Kl:=hG.len;refine ae (λK5=>?_) (λK5=>?_)
     ·exact aa ⟨rfl,hi,by rw[show lo=hi by lia],by rw[show lo=hi by lia]at hG;exact hG⟩
     ·skip
      obtain⟨x1,JG,K6,K7⟩:=at_ (lo+(hi-lo) / 2) ∅
      refine LG (gZ c hk JU K7 K6 ?_)
      try dsimp only
      refine ae (λhf=>?_) (λhf=>?_)
      ·exact aa ⟨rfl,_,_,rfl,⟨∅,Kl,iA c hs JG hf,hG.dn⟩,∅⟩
      ·exact aa ⟨rfl,_,_,rfl,⟨∅,∅,hG.up,iB c hs JG (by simpa using hf)⟩,∅⟩
    ·rintro r st'' ⟨rfl,lo,hi,rfl,hG,hm⟩;have hl:=hG.le;exact⟨rfl,hi,by rw[show lo=hi by lia],by rw[show lo=hi by lia]at hG;exact hG⟩
    ·rintro r st'' ⟨rfl,k,rfl,hG⟩;obtain⟨X,Fn,e,hl,hX,hY⟩:=hG.out;subst hl;exact aa (q X Fn e hX hY)
 apply Qk
 ·intro hg a b st Q hk K8 K9 KK KL sa sb Km Kn q;refine LG (cI ?_);obtain⟨b0,KM,Ko,Lv⟩:=aF KL;obtain⟨a0,Kk,Kf,Lw⟩:=aF KK;refine LG (aG KM ?_);have m0:ML lt a.toList b.toList [] 0 0:=⟨sa,sb,by simp⟩
  have m1:ML lt a.toList b.toList [b0] 0 1:=m0.pushB c Kf Ko (Km a0 b0 Kk KM);have JN:∀x∈b.toList,∀(i:Nat),i+1=a.size->∀y∈a.toList.drop i,lt y x=N2:=by
   intro x hx i hi y hy;obtain⟨aL,KN,Kq,_⟩:=aF (a:=a) (i:=i) ∅
   obtain⟨bL,KU,Kg,_⟩:=aF (a:=b) (i:=b.size-1) ∅
   have e:a.toList.drop i=[aL]:=by rw[eC Kq,OV (by simp;lia)];rfl
   rw[e]at hy;simp at hy;subst hy;have hl:=Kn y bL (by rw[show a.size-1=i by lia];exact KN) KU
   obtain⟨j,hj,e⟩:=Oh.mp hx;have Ka:b.toList[j]?=Z x:=by rw[<-e];exact z0 hj
   by_cases hjb:j=b.size-1
   ·subst hjb;rw[Kg]at Ka;cases Ka;exact hl
   ·have:=fH sb (show j<b.size-1 by simp at hj;lia) Ka Kg
    exact c.le_trans this hl
  try dsimp -zeta -zetaHave -zetaUnused only
  refine ae (λh=>?_) (λh=>?_)
  ·skip
   have h:1=b.size:=by simpa using h
   refine aa ?_;have r:=m1.fin (by simp;lia)
   exact q _ _ (by simpa only[Me,Mf,MN,bS]using r.1) (by simpa only[Me,Mf,MN,bS]using r.2) Same.refl
  ·skip
   refine ae (λh2=>?_) (λh2=>?_)
   ·skip
    have h2:0+1=a.size:=by simpa using h2
    refine aa ?_;have r:=m1.finA (JN · · 0 h2);exact q _ _ (by simpa only[Me,Mf,MN,bS]using r.1) (by simpa only[Me,Mf,MN,bS]using r.2) Same.refl
   ·skip
    have h:1≠b.size:=by simpa using h
    have h2:0+1≠a.size:=by simpa using h2
    refine LG (PH ?_)
    try dsimp -zeta -zetaHave -zetaUnused only
    refine LG (ay (Q:=λr st'=>Same st st'/\∃res t,r=(Z res,t)/\Res lt a.toList b.toList res.toList)
     (N7 (λi r st'=>Same st st'/\∃out ia ib mg,r=(Y,out,ia,ib,mg)/\ML lt a.toList b.toList out.toList ia ib/\ia+1<a.size/\ib<b.size/\i+1<=out.size) ?_ ?_ ⟨Same.refl,_,_,_,_,rfl,m1,∅,∅,by simp⟩) ?_)
    ·rintro i r JH _ hi ⟨sm,out,ia,ib,mg,rfl,m,KW,KY,hsz⟩
     try dsimp -zeta -zetaHave -zetaUnused only
     refine LG (ay (Q:=λr st'=>st'=JH/\((∃B Jz JD ac bc,r=(Y,B,Jz,JD,ac,bc)/\ML lt a.toList b.toList B.toList Jz JD/\Jz+1<a.size/\JD<b.size/\i+2<=B.size)∨∃res t,r=(Z res,t)/\Res lt a.toList b.toList res.toList))
      (N7 (λj r st'=>st'=JH/\∃B Jz JD ac bc,r=(Y,B,Jz,JD,ac,bc)/\ML lt a.toList b.toList B.toList Jz JD/\Jz+1<a.size/\JD<b.size/\i+1+j<=B.size) ?_ ?_ ⟨rfl,_,_,_,_,_,rfl,m,KW,KY,∅⟩) ?_)
     ·rintro j r Jp _ hj ⟨rfl,B,Jz,JD,ac,bc,rfl,m2,h1,h2,h3⟩
      try dsimp only
      obtain⟨y,hy,JI,JM⟩:=aF (a:=b) h2;obtain⟨x,hx,Kr,Kj⟩:=aF (a:=a) (i:=Jz) ∅
      refine LG (aG hy (LG (aG hx (LG (jV c (sm.kind.trans hk) (K9 _ JM) (K8 _ Kj) ?_)))))
      try dsimp only
      refine ae (λhl=>?_) (λhl=>?_)
      ·skip
       refine LG (aG hy ?_)
       try dsimp only
       have m3:=m2.pushB c Kr JI (c.asym _ _ hl);refine ae (λh=>?_) (λh=>?_)
       ·skip
        have h:JD+1=b.size:=by simpa using h
        exact aa ⟨rfl,.inr ⟨_,_,rfl,by simpa only[Me,Mf,MN,bS]using m3.fin (by simp;lia)⟩⟩
       ·skip
        have h:JD+1≠b.size:=by simpa using h
        refine ae (λ_=>?_) (λ_=>?_)
        ·exact aa ⟨rfl,.inl ⟨_,_,_,_,_,rfl,by simpa only[Me,Mf]using m3,h1,∅,by simp;lia⟩⟩
        ·exact aa ⟨rfl,_,_,_,_,_,rfl,by simpa only[Me,Mf]using m3,h1,∅,by simp;lia⟩
      ·skip
       refine LG (aG hx ?_)
       try dsimp only
       have m3:=m2.pushA c Kr JI (by simpa using hl)
       refine ae (λh=>?_) (λh=>?_)
       ·skip
        have h:Jz+1+1=a.size:=by simpa using h
        exact aa ⟨rfl,.inr ⟨_,_,rfl,by simpa only[Me,Mf,MN,bS]using m3.finA (JN · · _ h)⟩⟩
       ·skip
        have h:Jz+1+1≠a.size:=by simpa using h
        refine ae (λ_=>?_) (λ_=>?_)
        ·exact aa ⟨rfl,.inl ⟨_,_,_,_,_,rfl,by simpa only[Me,Mf]using m3,∅,h2,by simp;lia⟩⟩
        ·exact aa ⟨rfl,_,_,_,_,_,rfl,by simpa only[Me,Mf]using m3,∅,h2,by simp;lia⟩
     ·rintro r Jp ⟨rfl,B,Jz,JD,ac,bc,rfl,m2,h1,h2,h3⟩;exact⟨rfl,.inl ⟨_,_,_,_,_,rfl,m2,h1,h2,∅⟩⟩
     ·rintro r Jp ⟨rfl,⟨B,Jz,JD,ac,bc,rfl,m2,h1,h2,h3⟩|⟨res,t,rfl,J⟩⟩
      ·dsimp -zeta -zetaHave -zetaUnused only;refine LG (cI ?_);refine LG (ay (Q:=fun r st'=>Same st st'/\((∃F Jr Jn JA ac bc,r=(Y,F,Jr,Jn,JA,ac,bc)/\ML lt a.toList b.toList F.toList Jr Jn/\Jr+1<a.size/\Jn<b.size/\i+2<=F.size)∨∃res t,r=(Z res,t)/\Res lt a.toList b.toList res.toList))
        (N7 (λj r st'=>Same st st'/\∃F Jr Jn JA ac bc,r=(Y,F,Jr,Jn,JA,ac,bc)/\ML lt a.toList b.toList F.toList Jr Jn/\Jr+1<a.size/\Jn<b.size/\i+2<=F.size) ?_ ?_ ⟨sm,_,_,_,_,_,_,rfl,m2,h1,h2,h3⟩) ?_)
       ·rintro j r Jm _ hj ⟨JB,F,Jr,Jn,JA,Ks,Ku,rfl,m3,h1,h2,h5⟩;obtain⟨y,hy,JI,JM⟩:=aF (a:=b) h2;refine AC λQQ hQ=>?_;have G:∀(st':Ng) (res:Array LM) t,Same st st'->Res lt a.toList b.toList res.toList->QQ (.done (Z res,t)) st':=λst' res t hs hr=>hQ _ _ ⟨hs,.inr ⟨_,_,rfl,hr⟩⟩;have KZ:∀(st':Ng) (out:Array LM) ia ib mg ac bc,Same st st'->ML lt a.toList b.toList out.toList ia ib->ia+1<a.size->ib<b.size->i+2<=out.size->QQ (.done (Y,out,ia,ib,mg,ac,bc)) st'/\QQ (.yield (Y,out,ia,ib,mg,ac,bc)) st':=λst' out ia ib mg ac bc hs p1 p2 p3 p4=>⟨hQ _ _ ⟨hs,.inl ⟨_,_,_,_,_,_,rfl,p1,p2,p3,p4⟩⟩,hQ _ _ ⟨hs,_,_,_,_,_,_,rfl,p1,p2,p3,p4⟩⟩;clear hQ hj
        extract_lets -underBinder s0 vout s1 via s2 vib s3 vmg s4 vac vbc jp vmx
        have Kv:∀mg,wpS (Mj prog w) A E s (jp () mg) QQ Jm:=by
         intro mg;dsimp -zeta -zetaHave -zetaUnused only[jp,s0,vout,s1,via,s2,vib,s3,vmg,s4,vac,vbc];clear vmx jp vbc vac s4 vmg s3 vib s2 via s1 vout s0;refine LG (Ou ?_);refine wv (P:=Same st) (JB.trans ⟨rfl,rfl,rfl,rfl⟩) λKb Js=>?_;have Kw:=Js.kind.trans hk;refine LG (aG hy ?_);refine LG (hg N2 y a (a.toList.take Jr) (a.toList.drop Jr) [] _ _ _ _ _ Kw (K9 _ JM) (by simp) (gd ∅) (by simp) (λx hx=>K8 x (Pq hx)) ∅ ((LH.mp m3.pa).2.1) λX Fn e hX hY=>?_)
         dsimp -zeta -zetaHave -zetaUnused only;have m4:=m3.galA c e JI λx hx=>AD (hX x hx);have Jt:∀x4,a.toList[Jr+X.length]?=Z x4->lt x4 y=N2:=λx4 JO=>c.asym _ _ (ww (hY x4 (qg e JO)));have Kc:=qi e
         extract_lets -underBinder +onlyGivenNames vac JP
         clear_value vac
         have JV:∀(O:Array LM) (JJ:Nat),ML lt a.toList b.toList O.toList JJ Jn->(∀x4,a.toList[JJ]?=Z x4->lt x4 y=N2)->JJ+1<a.size->i+2<=O.size->wpS (Mj prog w) A E s (JP () O JJ) QQ Kb:=by
          intro O JJ L3 JQ Lx Kx;dsimp -zeta -zetaHave -zetaUnused only[JP];clear JP Kc Jt m4 hX hY;obtain⟨x4,JO,Jx,Kz⟩:=aF (a:=a) (i:=JJ) ∅
          refine LG (aG hy ?_);have m5:=L3.pushB c Jx JI (JQ x4 Jx);rw[<-Mf]at m5;have Jy:i+2<=(O.push y).size:=by rw[RV];lia
          try dsimp -zeta -zetaHave -zetaUnused only
          extract_lets -underBinder +onlyGivenNames vo5 vi5
          dsimp -zeta -zetaHave -zetaUnused only[vo5];clear vo5;have e5:vi5=Jn+1:=rfl
          clear_value vi5
          subst e5
          revert m5 Jy
          generalize O.push y=out5;intro m5 Jy;refine ae (λh=>?_) (λh=>?_)
          ·exact aa (G _ _ _ Js (m5.finR (by have h:=Pj h;lia)))
          ·have h:Jn+1≠b.size:=by simpa using h
           refine LG (aG JO ?_);refine LG (hg F2 x4 b (b.toList.take (Jn+1)) (b.toList.drop (Jn+1)) [] _ _ _ _ _ Kw (K8 _ Kz) (by simp) (gd ∅) (by simp) (λx hx=>K9 x (Pq hx)) ∅ ((LH.mp m5.pb).2.1) λX2 Y2 e2 K0 K1=>?_)
           dsimp -zeta -zetaHave -zetaUnused only;have m6:=m5.galB c e2 Jx λx hx=>c.asym _ _ (AE (K0 x hx));have Ju:∀y6,b.toList[Jn+1+X2.length]?=Z y6->lt y6 x4=N2:=λy6 KA=>wx (K1 y6 (qg e2 KA));have Kd:=qi e2
           extract_lets -underBinder +onlyGivenNames vbc JR
           clear_value vbc
           have JW:∀(Jo:Array LM) (Ke:Nat),ML lt a.toList b.toList Jo.toList JJ Ke->(∀y6,b.toList[Ke]?=Z y6->lt y6 x4=N2)->Ke<b.size->i+2<=Jo.size->wpS (Mj prog w) A E s (JR () Jo Ke) QQ Kb:=by
            intro Jo Ke L4 JS KP Lf;dsimp -zeta -zetaHave -zetaUnused only[JR];clear JR Kd Ju m6 K0 K1 m5 Jy Kx h5 h1 h2 hsz KY KW h3;obtain⟨y6,KA,JX,Lg⟩:=aF (a:=b) (i:=Ke) KP;refine LG (aG JO ?_);have m7:=L4.pushA c Jx JX (JS y6 JX);rw[<-Mf]at m7;dsimp only;refine ae (λh=>?_) (λh=>?_)
            ·exact aa (G _ _ _ Js (m7.finL (JN · · (JJ+1) (Pj h))))
            ·have h:JJ+1+1≠a.size:=by simpa using h
             have:=KZ Kb (Jo.push x4) (JJ+1) Ke mg vac vbc Js m7 ∅ KP (by rw[RV];lia)
             exact ae (λ_=>aa this.1) (λ_=>aa this.2)
           clear_value JR
           refine ae (λh0=>?_) (λh0=>?_)
           ·dsimp only;have m6:=m6.cut (a:=b) e2;refine ae (λh=>?_) (λh=>?_)
            ·exact aa (G _ _ _ Js (m6.finR (by have h:=Pj h;lia)))
            ·have h:Jn+1+X2.length≠b.size:=by simpa using h
             exact JW _ _ m6 Ju ∅ (by rw[Qp];lia)
           ·have JT:X2=[]:=MZ.mp ∅
            subst JT;exact JW _ _ m5 Ju ∅ Jy
         clear_value JP
         refine ae (λh0=>?_) (λh0=>?_)
         ·dsimp only;have m4:=m4.cut (a:=a) e;refine ae (λh=>?_) (λh=>?_)
          ·exact aa (G _ _ _ Js (m4.finL (JN · · _ (Pj h))))
          ·have h:Jr+X.length+1≠a.size:=by simpa using h
           refine ae (λh=>?_) (λh9=>?_)
           ·exact aa (G _ _ _ Js (m4.finS (by have h:=Pj h;lia)))
           ·have h9:Jr+X.length≠a.size:=by simpa using h9
            exact JV _ _ m4 Jt ∅ (by rw[Qp];lia)
         ·have JT:X=[]:=MZ.mp ∅
          subst JT;exact JV _ _ m3 Jt h1 h5
        clear_value jp
        exact ae (λ_=>Kv _) (λ_=>Kv _)
       ·rintro r Jm ⟨JB,F,Jr,Jn,JA,Ks,Ku,rfl,m3,h1,h2,h5⟩;exact⟨JB,.inl ⟨_,_,_,_,_,_,rfl,m3,h1,h2,h5⟩⟩
       ·rintro r Jm ⟨JB,⟨F,Jr,Jn,JA,Ks,Ku,rfl,m3,h1,h2,h5⟩|⟨res,t,rfl,J⟩⟩
        ·dsimp -zeta -zetaHave -zetaUnused only;refine LG (Ou ?_);exact aa ⟨JB.trans ⟨rfl,rfl,rfl,rfl⟩,_,_,_,_,rfl,m3,h1,h2,∅⟩
        ·exact aa ⟨JB,_,_,rfl,J⟩
      ·exact aa ⟨sm,_,_,rfl,J⟩
    ·rintro r JH ⟨sm,out,ia,ib,mg,rfl,m,KW,KY,hsz⟩;have:=m.size (by simp;lia) (by simp;lia)
     simp at this;lia
    ·rintro r JH ⟨sm,res,t,rfl,J⟩;exact aa (q res JH J.1 J.2 sm)
 ·intro hg a b st Q hk K8 K9 KK KL sa sb Km Kn q;refine LG (cI ?_);obtain⟨bL,KU,Kg,Ly⟩:=aF (a:=b) (i:=b.size-1) ∅
  obtain⟨aL,KN,Kq,LA⟩:=aF (a:=a) (i:=a.size-1) ∅
  refine LG (aG KN ?_);have m0:MH lt a.toList b.toList [] a.size b.size:=⟨by rw[eS];simpa using sa,by rw[eS];simpa using sb,by rw[eS,eS];simp⟩
  have m1:MH lt a.toList b.toList [aL] (a.size-1) b.size:=m0.pushA c KK KL Kq Kg (Kn aL bL KN KU);have JF:∀x∈b.toList.take 1,∀y∈a.toList,lt y x=N2:=by
   intro x hx y hy;obtain⟨b0,KM,Ko,_⟩:=aF KL;obtain⟨a0,Kk,Kf,_⟩:=aF KK;have ex:x=b0:=by
    rw[db ∅ Ko]at hx
    simpa using hx
   subst ex;have h:=Km a0 x Kk KM;obtain⟨j,hj,e⟩:=Oh.mp hy;have Ka:a.toList[j]?=Z y:=by rw[<-e];exact z0 hj
   by_cases hj0:j=0
   ·subst hj0;rw[Kf]at Ka;cases Ka;exact h
   ·exact c.le_trans h (fH sa ∅ Kf Ka)
  try dsimp -zeta -zetaHave -zetaUnused only
  refine ae (λh=>?_) (λh=>?_)
  ·skip
   have h:a.size-1=0:=by simpa using h
   refine aa ?_;have r:=m1.fin (.inl h);exact q _ _ (by simpa only[Me,Mf,N3,MN,bq]using r.1) (by simpa only[Me,Mf,N3,MN,bq]using r.2) Same.refl
  ·skip
   refine ae (λh2=>?_) (λh2=>?_)
   ·skip
    have h2:b.size=1:=by simpa using h2
    refine aa ?_;have r:=m1.finB (by rw[h2];exact JF)
    exact q _ _ (by simpa only[Me,Mf,N3,MN,bq]using r.1) (by simpa only[Me,Mf,N3,MN,bq]using r.2) Same.refl
   ·skip
    have h:a.size-1≠0:=by simpa using h
    have h2:b.size≠1:=by simpa using h2
    refine LG (PH ?_)
    try dsimp -zeta -zetaHave -zetaUnused only
    refine LG (ay (Q:=λr st'=>Same st st'/\∃res t,r=(Z res,t)/\Res lt a.toList b.toList res.toList)
     (N7 (λi r st'=>Same st st'/\∃na nb out mg,r=(Y,na,nb,out,mg)/\MH lt a.toList b.toList out.toList na nb/\0<na/\1<nb/\na<a.size/\nb<=b.size/\i+1<=out.size) ?_ ?_ ⟨Same.refl,_,_,_,_,rfl,m1,∅,∅,∅,∅,by simp⟩) ?_)
    ·rintro i r JH _ hi ⟨sm,na,nb,out,mg,rfl,m,JZ,Kh,KB,KD,hsz⟩
     try dsimp -zeta -zetaHave -zetaUnused only
     refine LG (ay (Q:=λr st'=>st'=JH/\((∃Jv Jw B ac bc,r=(Y,Jv,Jw,B,ac,bc)/\MH lt a.toList b.toList B.toList Jv Jw/\0<Jv/\1<Jw/\Jv<a.size/\Jw<=b.size/\i+2<=B.size)∨∃res t,r=(Z res,t)/\Res lt a.toList b.toList res.toList))
      (N7 (λj r st'=>st'=JH/\∃Jv Jw B ac bc,r=(Y,Jv,Jw,B,ac,bc)/\MH lt a.toList b.toList B.toList Jv Jw/\0<Jv/\1<Jw/\Jv<a.size/\Jw<=b.size/\i+1+j<=B.size) ?_ ?_ ⟨rfl,_,_,_,_,_,rfl,m,JZ,Kh,KB,KD,∅⟩) ?_)
     ·rintro j r Jp _ hj ⟨rfl,Jv,Jw,B,ac,bc,rfl,m2,h1,h2,JC,JE,h3⟩
      try dsimp only
      obtain⟨y,hy,JI,JM⟩:=aF (a:=b) (i:=Jw-1) ∅
      obtain⟨x,hx,Kr,Kj⟩:=aF (a:=a) (i:=Jv-1) ∅
      refine LG (aG hy (LG (aG hx (LG (jV c (sm.kind.trans hk) (K9 _ JM) (K8 _ Kj) ?_)))))
      try dsimp only
      refine ae (λhl=>?_) (λhl=>?_)
      ·skip
       refine LG (aG hx ?_)
       try dsimp only
       have m3:=m2.pushA c h1 ∅ Kr JI (c.asym _ _ hl)
       refine ae (λh=>?_) (λh=>?_)
       ·skip
        have h:Jv-1=0:=by simpa using h
        exact aa ⟨rfl,.inr ⟨_,_,rfl,by have r:=m3.fin (.inl h);simpa only[Me,Mf,N3,MN,bq]using r⟩⟩
       ·skip
        have h:Jv-1≠0:=by simpa using h
        refine ae (λ_=>?_) (λ_=>?_)
        ·exact aa ⟨rfl,.inl ⟨_,_,_,_,_,rfl,by simpa only[Me,Mf,N3,MN,bq]using m3,∅,h2,∅,JE,by simp;lia⟩⟩
        ·exact aa ⟨rfl,_,_,_,_,_,rfl,by simpa only[Me,Mf,N3,MN,bq]using m3,∅,h2,∅,JE,by simp;lia⟩
      ·skip
       refine LG (aG hy ?_)
       try dsimp only
       have m3:=m2.pushB c h1 ∅ Kr JI (by simpa using hl)
       refine ae (λh=>?_) (λh=>?_)
       ·skip
        have h:Jw-1=1:=by simpa using h
        exact aa ⟨rfl,.inr ⟨_,_,rfl,by have r:=m3.finB (by rw[h];exact JF);simpa only[Me,Mf,N3,MN,bq]using r⟩⟩
       ·skip
        have h:Jw-1≠1:=by simpa using h
        refine ae (λ_=>?_) (λ_=>?_)
        ·exact aa ⟨rfl,.inl ⟨_,_,_,_,_,rfl,by simpa only[Me,Mf,N3,MN,bq]using m3,h1,∅,JC,∅,by simp;lia⟩⟩
        ·exact aa ⟨rfl,_,_,_,_,_,rfl,by simpa only[Me,Mf,N3,MN,bq]using m3,h1,∅,JC,∅,by simp;lia⟩
     ·rintro r Jp ⟨rfl,Jv,Jw,B,ac,bc,rfl,m2,h1,h2,JC,JE,h3⟩;exact⟨rfl,.inl ⟨_,_,_,_,_,rfl,m2,h1,h2,JC,JE,∅⟩⟩
     ·rintro r Jp ⟨rfl,⟨Jv,Jw,B,ac,bc,rfl,m2,h1,h2,JC,JE,h3⟩|⟨res,t,rfl,J⟩⟩
      ·try dsimp -zeta -zetaHave -zetaUnused only
       refine LG (cI ?_);refine LG (ay (Q:=λr st'=>Same st st'/\((∃Jq U F JA ac bc,r=(Y,Jq,U,F,JA,ac,bc)/\MH lt a.toList b.toList F.toList Jq U/\0<Jq/\1<U/\Jq<a.size/\U<=b.size/\i+2<=F.size)∨∃res t,r=(Z res,t)/\Res lt a.toList b.toList res.toList))
        (N7 (λj r st'=>Same st st'/\∃Jq U F JA ac bc,r=(Y,Jq,U,F,JA,ac,bc)/\MH lt a.toList b.toList F.toList Jq U/\0<Jq/\1<U/\Jq<a.size/\U<=b.size/\i+2<=F.size) ?_ ?_ ⟨sm,_,_,_,_,_,_,rfl,m2,h1,h2,JC,JE,h3⟩) ?_)
       ·rintro j r Jm _ hj ⟨JB,Jq,U,F,JA,Ks,Ku,rfl,m3,h1,h2,JC,JE,h5⟩;obtain⟨y,hy,JI,JM⟩:=aF (a:=b) (i:=U-1) ∅
        refine AC λQQ hQ=>?_;have G:∀(st':Ng) (res:Array LM) t,Same st st'->Res lt a.toList b.toList res.toList->QQ (.done (Z res,t)) st':=λst' res t hs hr=>hQ _ _ ⟨hs,.inr ⟨_,_,rfl,hr⟩⟩;have KZ:∀(st':Ng) (out:Array LM) na nb mg ac bc,Same st st'->MH lt a.toList b.toList out.toList na nb->0<na->1<nb->na<a.size->nb<=b.size->i+2<=out.size->QQ (.done (Y,na,nb,out,mg,ac,bc)) st'/\QQ (.yield (Y,na,nb,out,mg,ac,bc)) st':=λst' out ia ib mg ac bc hs p1 p2 p3 p4 p5 p6=>⟨hQ _ _ ⟨hs,.inl ⟨_,_,_,_,_,_,rfl,p1,p2,p3,p4,p5,p6⟩⟩,hQ _ _ ⟨hs,_,_,_,_,_,_,rfl,p1,p2,p3,p4,p5,p6⟩⟩;clear hQ hj
        extract_lets -underBinder s0 vna s1 vnb s2 vout s3 vmg s4 vac vbc jp vmx
        have Kv:∀mg,wpS (Mj prog w) A E s (jp () mg) QQ Jm:=by
         intro mg;dsimp -zeta -zetaHave -zetaUnused only[jp,s0,vna,s1,vnb,s2,vout,s3,vmg,s4,vac,vbc];clear vmx jp vbc vac s4 vmg s3 vout s2 vnb s1 vna s0;refine LG (Ou ?_);refine wv (P:=Same st) (JB.trans ⟨rfl,rfl,rfl,rfl⟩) λKb Js=>?_;have Kw:=Js.kind.trans hk;refine LG (aG hy ?_);refine LG (hg N2 y a [] (a.toList.take Jq) (a.toList.drop Jq) _ _ _ _ _ Kw (K9 _ JM) (by simp) rfl (gd ∅) (λx hx=>K8 x (OM hx)) ∅ ((LH.mp m3.pa).1) λX Fn e hX hY=>?_)
         dsimp -zeta -zetaHave -zetaUnused only;have m4:=m3.galA c e ∅ JI λx hx=>c.asym _ _ (ww (hY x hx))
         have Jt:0<X.length->∀x4,a.toList[X.length-1]?=Z x4->lt y x4=N2:=λh0 x4 JO=>AD (hX x4 (qh e h0 JO));have Kc:=mY e ∅
         extract_lets -underBinder +onlyGivenNames vk vac JP
         clear_value vac
         have JV:∀(JK:Nat) (O:Array LM),MH lt a.toList b.toList O.toList JK U->(∀x4,a.toList[JK-1]?=Z x4->lt y x4=N2)->0<JK->JK<a.size->i+2<=O.size->wpS (Mj prog w) A E s (JP () JK O) QQ Kb:=by
          intro JK O L3 JQ KF Lu Kx;dsimp -zeta -zetaHave -zetaUnused only[JP];clear JP vk Kc Jt m4 hX hY;obtain⟨x4,JO,Jx,Kz⟩:=aF (a:=a) (i:=JK-1) ∅
          refine LG (aG hy ?_);have m5:=L3.pushB c KF ∅ Jx JI (JQ x4 Jx)
          rw[<-Mf]at m5;have Jy:i+2<=(O.push y).size:=by rw[RV];lia
          try dsimp -zeta -zetaHave -zetaUnused only
          extract_lets -underBinder +onlyGivenNames vo5
          dsimp -zeta -zetaHave -zetaUnused only[vo5];clear vo5
          revert m5 Jy
          generalize O.push y=out5;intro m5 Jy;refine ae (λh=>?_) (λh=>?_)
          ·exact aa (G _ _ _ Js (m5.finR (by rw[Pj h];exact JF)))
          ·have h:U-1≠1:=by simpa using h
           refine LG (aG JO ?_);refine LG (hg F2 x4 b [] (b.toList.take (U-1)) (b.toList.drop (U-1)) _ _ _ _ _ Kw (K8 _ Kz) (by simp) rfl (gd ∅) (λx hx=>K9 x (OM hx)) ∅ ((LH.mp m5.pb).1) λX2 Y2 e2 K0 K1=>?_)
           dsimp -zeta -zetaHave -zetaUnused only;have m6:=m5.galB c e2 KF Jx λx hx=>wx (K1 x hx);have Ju:0<X2.length->∀y6,b.toList[X2.length-1]?=Z y6->lt x4 y6=N2:=λh0 y6 KA=>c.asym _ _ (AE (K0 y6 (qh e2 h0 KA)));have Kd:=mY e2 ∅
           extract_lets -underBinder +onlyGivenNames vk vbc JR
           clear_value vbc
           have JW:∀(JY:Nat) (Jo:Array LM),MH lt a.toList b.toList Jo.toList JK JY->(∀y6,b.toList[JY-1]?=Z y6->lt x4 y6=N2)->1<JY->JY<=b.size->i+2<=Jo.size->wpS (Mj prog w) A E s (JR () JY Jo) QQ Kb:=by
            intro JY Jo L4 JS Lh L5 Lf;dsimp -zeta -zetaHave -zetaUnused only[JR];clear JR vk Kd Ju m6 K0 K1 m5 Jy Kx h5 h1 h2 JC JE hsz JZ Kh KB KD h3;obtain⟨y6,KA,JX,Lg⟩:=aF (a:=b) (i:=JY-1) ∅
            refine LG (aG JO ?_);have m7:=L4.pushA c KF ∅ Jx JX (JS y6 JX)
            rw[<-Mf]at m7;dsimp only;refine ae (λh=>?_) (λh=>?_)
            ·exact aa (G _ _ _ Js (m7.finL (.inl (Pj h))))
            ·have h:JK-1≠0:=by simpa using h
             have:=λmg ac bc=>KZ Kb (Jo.push x4) (JK-1) JY mg ac bc Js m7 ∅ Lh ∅ L5 (by rw[RV];lia)
             exact ae (λ_=>aa (this _ _ _).1) (λ_=>aa (this _ _ _).2)
           clear_value JR
           refine ae (λh0=>?_) (λh0=>?_)
           ·dsimp only;have m6:=m6.cut (a:=b) e2;refine ae (λh=>?_) (λh=>?_)
            ·exact aa (G _ _ _ Js (m6.finR (by rw[Pj h];exact JF)))
            ·have h:X2.length≠1:=by simpa using h
             refine ae (λh9=>?_) (λh9=>?_)
             ·exact aa (G _ _ _ Js (m6.finL (.inr (Pj h9))))
             ·have h9:X2.length≠0:=by simpa using h9
              exact JW _ _ m6 (Ju ∅) ∅ ∅ (by rw[Qp];lia)
           ·have h0:¬(U-1-X2.length > 0):=h0;have hl:X2.length=U-1:=by lia
            have Kl:0<X2.length:=∅
            have hr:=Ju Kl;rw[hl]at hr;exact JW _ _ m5 hr ∅ ∅ Jy
         clear_value JP
         refine ae (λh0=>?_) (λh0=>?_)
         ·dsimp only;have m4:=m4.cut (a:=a) e;refine ae (λh=>?_) (λh=>?_)
          ·exact aa (G _ _ _ Js (m4.finL (.inl (Pj h))))
          ·have h:X.length≠0:=by simpa using h
           exact JV _ _ m4 (Jt ∅) ∅ ∅ (by rw[Qp];lia)
         ·have h0:¬(Jq-X.length > 0):=h0;have hl:X.length=Jq:=by lia
          have hr:=Jt ∅
          rw[hl]at hr;exact JV _ _ m3 hr h1 JC h5
        clear_value jp
        exact ae (λ_=>Kv _) (λ_=>Kv _)
       ·rintro r Jm ⟨JB,Jq,U,F,JA,Ks,Ku,rfl,m3,h1,h2,JC,JE,h5⟩;exact⟨JB,.inl ⟨_,_,_,_,_,_,rfl,m3,h1,h2,JC,JE,h5⟩⟩
       ·rintro r Jm ⟨JB,⟨Jq,U,F,JA,Ks,Ku,rfl,m3,h1,h2,JC,JE,h5⟩|⟨res,t,rfl,J⟩⟩
        ·try dsimp -zeta -zetaHave -zetaUnused only
         refine LG (Ou ?_);exact aa ⟨JB.trans ⟨rfl,rfl,rfl,rfl⟩,_,_,_,_,rfl,m3,h1,h2,JC,JE,∅⟩
        ·exact aa ⟨JB,_,_,rfl,J⟩
      ·exact aa ⟨sm,_,_,rfl,J⟩
    ·rintro r JH ⟨sm,na,nb,out,mg,rfl,m,JZ,Kh,KB,KD,hsz⟩;have:=m.size (by simp;lia) (by simp;lia)
     simp at this;lia
    ·rintro r JH ⟨sm,res,t,rfl,J⟩;exact aa (q res JH J.1 J.2 sm)
end
end Srt
namespace Srt
variable{st:Ng}{L R xs:List LM}{i j n:Nat}{x:LM}
section
variable{prog:Ml}{w:MQ}{A:MU}{E:i0->s9->Prop}{s:s9}{kd:QL}{P:LM->Prop}{lt:LM->LM->Bool}
structure Kp(st st':Ng):Prop where
 kind:O1 st'=O1 st
 pend:Md st'=Md st
 fail:Ot st'=Ot st
theorem Kp.refl:Kp st st:=⟨rfl,rfl,rfl⟩
theorem Kp.trans{a b c:Ng}(h:Kp a b)(g:Kp b c):Kp a c:=⟨g.kind.trans h.kind,g.pend.trans h.pend,g.fail.trans h.fail⟩
theorem rD{a:Array LM}{B:List LM}(e:a.toList=L++(B++R))(hi:i=L.length)(z:j=L.length+B.length):(mirror a i j ((j-i) / 2)).toList=L++(B.reverse++R):=by
 have hs:a.size=L.length+(B.length+R.length):=by rw[<-My,e];simp
 apply Ov;intro k;rw[Mq,getElem?_mirror_all ∅]
 have g:∀n:Nat,a[n]?=(L++(B++R))[n]?:=λn=>by rw[<-Mq,e]
 rw[g,g]
 by_cases h1:k<L.length
 ·rw[if_neg ∅,LY h1,LY h1]
 ·by_cases h2:k<j
  ·rw[if_pos ∅,D2 ∅,LY ∅,D2 ∅,LY (by simp;lia),U5 ∅]
   congr 1;lia
  ·rw[if_neg ∅,D2 ∅,D2 ∅,D2 ∅,D2 (by simp;lia)]
   simp
theorem rE{a:Array LM}{j z:List LM}(e:a.toList=L++((j++z)++x::R)){src d:Nat}(hi:src=L.length+(j.length+z.length))(hd:d=z.length):(bubble a src d).toList=L++((j++x::z)++R):=by
 have hs:a.size=L.length+(j.length+z.length+(R.length+1)):=by rw[<-My,e];simp;lia
 apply Ov;intro k;rw[Mq,getElem?_bubble ∅ d ∅]
 have g:∀n:Nat,a[n]?=(L++((j++z)++x::R))[n]?:=λn=>by rw[<-Mq,e]
 rw[g,g,g]
 by_cases h1:k<L.length
 ·rw[if_neg ∅,if_neg ∅,LY h1,LY h1]
 ·by_cases h2:k<L.length+j.length
  ·rw[if_neg ∅,if_neg ∅,D2 ∅,LY (by simp;lia),LY ∅,D2 ∅,LY (by simp;lia),LY ∅]
  ·by_cases h3:k=L.length+j.length
   ·rw[if_pos ∅,D2 ∅,D2 (by simp;lia),D2 ∅,LY (by simp;lia),D2 ∅]
    have e1:src-L.length-(j++z).length=0:=by simp;lia
    have e2:k-L.length-j.length=0:=∅
    rw[e1,e2];rfl
   ·by_cases h4:k<=src
    ·rw[if_neg ∅,if_pos ∅,D2 ∅,LY (by simp;lia),D2 ∅,D2 ∅,LY (by simp;lia),D2 ∅]
     have e2:k-L.length-j.length=(k-1-L.length-j.length)+1:=∅
     rw[e2,OO]
    ·rw[if_neg ∅,if_neg ∅,D2 ∅,D2 (by simp;lia),D2 ∅,D2 (by simp;lia)]
     have e2:k-L.length-(j++z).length=(k-L.length-(j++x::z).length)+1:=by simp;lia
     rw[e2,OO]
theorem dW(c:Cm prog w A s kd P lt){y:LM}{Q:Option Bool->Ng->Prop}(z:O1 st=kd)(hx:(MK st)[i]?=Z x)(B:(MK st)[j]?=Z y)(px:P x)(py:P y)(q:Q (Z (lt x y)) st):wpS (Mj prog w) A E s (ltAt' i j) Q st:=by rw[ltAt'_eq];exact LG (PH (LG (aG hx (LG (aG B (jV c z px py q))))))
theorem jW{Q:Unit->Ng->Prop}{B:List LM}(e:(MK st).toList=L++(B++R))(hi:i=L.length)(z:j=L.length+B.length)(q:∀st',(MK st').toList=L++(B.reverse++R)->Kp st st'->Q () st'):wpS (Mj prog w) A E s (reverseSlice' i j) Q st:=by rw[reverseSlice'_eq];exact Ou (q _ (rD e hi z) ⟨rfl,rfl,rfl⟩)
theorem cB(e:(MK st).toList=L++xs)(hi:i=L.length+n):(MK st)[i]?=xs[n]?:=by
 rw[<-Mq,e,hi,D2 ∅]
 congr 1;lia
theorem qj(c:Cm prog w A s kd P lt){y:LM}(h:Ord lt (xs.take n))(B:0<n)(hx:xs[n]?=Z x)(F:xs[n-1]?=Z y)(G:lt x y=N2):Ord lt (xs.take (n+1)):=by
 rw[SM,hx];refine LH.mpr ⟨h,by simp,λz J u j=>?_⟩
 simp at j;subst j;exact iC c h B F G z J
noncomputable abbrev du(lt:LM->LM->Bool)(l:List LM):Prop:=l.Pairwise λx y=>lt x y=N2
theorem j9(c:Cm prog w A s kd P lt){D:List LM}{e:LM}(h:du lt (D++[e]))(hx:lt e x=N2):du lt (D++[e]++[x]):=by
 refine LH.mpr ⟨h,by simp,λz B u j=>?_⟩
 simp at j;subst j;obtain⟨_,_,F⟩:=LH.mp h
 rcases LV.mp B with g|g
 ·cases q:lt z u with
  |false=>rfl
  | true=>rcases c.neg z e u q with r|r
          ·rw[F z g e (by simp)]at r;cases r
          ·rw[hx]at r;cases r
 ·simp at g;subst g;exact hx
theorem sv{z F:List LM}(h:du lt (z++F))(he:∀x∈F,∀y∈F,lt x y=N2):du lt (z++F.reverse):=by obtain⟨h1,h2,B⟩:=LH.mp h;refine LH.mpr ⟨h1,?_,λx hx y j=>B x hx y (Qz.mp j)⟩;rw[U6];exact h2.imp_of_mem λhx j _=>he _ j _ hx
theorem perm_take:(xs.take n++xs.drop n).Perm xs:=by rw[NQ]
theorem iY(c:Cm prog w A s kd P lt){Q:Option Nat->Ng->Prop}(hk:O1 st=kd)(O:(MK st).toList=L++xs)(h0:xs≠[])(hP:∀x∈xs,P x)(q:∀r R st',(MK st').toList=L++(r++R)->(r++R).Perm xs->r≠[]->Ord lt r->Kp st st'->Q (Z r.length) st'):wpS (Mj prog w) A E s (countRun' L.length xs.length) Q st:=by
 have JJ:0<xs.length:=N6.mpr h0;rw[countRun'_eq]
 try dsimp -zeta -zetaHave -zetaUnused only
 refine LG (ay (Q:=λr st'=>st'=st/\∃n,r=(Y,n)/\1<=n/\n<=xs.length/\Ord lt (xs.take n)/\(n=xs.length∨∃x y,xs[n]?=Z x/\xs[n-1]?=Z y/\lt x y=F2))
  (N7 (fun i r st'=>st'=st/\r=(Y,i)/\Ord lt (xs.take i)) ?_ ?_ ⟨rfl,rfl,by
   cases xs with
   |nil=>exact absurd rfl h0
   |cons x t=>simp⟩) ?_)
 ·rintro i r st' h1 hi ⟨rfl,rfl,ho⟩;dsimp only;obtain⟨x,hx⟩:∃x,xs[i]?=Z x:=⟨_,z0 hi⟩;obtain⟨y,hy⟩:∃y,xs[i-1]?=Z y:=⟨_,z0 ∅⟩
  refine LG (dW c hk ((cB O rfl).trans hx) ((cB O ∅).trans hy) (hP _ (Mh hx)) (hP _ (Mh hy)) ?_)
  dsimp only;refine ae (λh=>?_) (λh=>?_)
  ·exact aa ⟨rfl,i,rfl,h1,∅,ho,.inr ⟨x,y,hx,hy,h⟩⟩
  ·exact aa ⟨rfl,rfl,qj c ho ∅ hx hy (by simpa using h)⟩
 ·rintro r st' ⟨rfl,rfl,ho⟩;exact⟨rfl,_,rfl,∅,∅,ho,.inl ∅⟩
 ·rintro r st' ⟨rfl,n,rfl,K9,JK,ho,hc⟩;dsimp -zeta -zetaHave -zetaUnused only;have Jx:Q (Z n) st':=by
   have:=q (xs.take n) (xs.drop n) st' (by rw[O,NQ]) perm_take (λz=>by have h3:=congrArg O6 z;rw[Mm,O9]at h3;lia) ho Kp.refl
   rw[Mm,Nz JK]at this;exact this
  extract_lets -underBinder +onlyGivenNames vr vn
  dsimp -zeta -zetaHave -zetaUnused only[vr];clear vr;have en:n=vn:=rfl
  clear_value vn
  subst en;refine ae (λh=>aa Jx) (λh=>?_);have JV:n≠xs.length:=by simpa using h
  obtain⟨x,y,hx,hy,JW⟩:=hc.resolve_left JV;have Ka:n<xs.length:=∅
  have exs:xs=xs.take n++x::xs.drop (n+1):=by have h1:=(NQ n xs).symm;rw[eC hx]at h1;exact h1
  have JL:y∈xs.take n:=by rw[db ∅ hy];simp
  extract_lets -underBinder +onlyGivenNames jp
  have JM:∀(B:List LM) (Jn:Ng),(MK Jn).toList=L++(B++x::xs.drop (n+1))->B.Perm (xs.take n)->B.length=n->(∀u∈B,∀v∈B,lt u v=N2)->y∈B->Kp st' Jn->wpS (Mj prog w) A E s (jp ()) Q Jn:=by
   intro B Jn e1 hB Jo Jp Jq Jr;dsimp -zeta -zetaHave -zetaUnused only[jp];clear jp;refine LG (cI ?_)
   try dsimp -zeta -zetaHave -zetaUnused only
   extract_lets -underBinder +onlyGivenNames vn1 vq1
   have JX:vn1=n+1:=rfl;have eq1:vq1=0:=rfl
   clear_value vn1 vq1
   subst JX eq1;refine LG (ay (Q:=λr U=>∃G F R neq,Kp st' U/\(MK U).toList=L++((G++F)++R)/\((G++F)++R).Perm xs/\r=(Y,(G++F).length,neq)/\F.length=neq+1/\du lt (G++F)/\(∀u∈F,∀v∈F,lt u v=N2))
    (N7 (λi r U=>∃G F R neq,Kp st' U/\(MK U).toList=L++((G++F)++R)/\((G++F)++R).Perm xs/\r=(Y,(G++F).length,neq)/\F.length=neq+1/\du lt (G++F)/\(∀u∈F,∀v∈F,lt u v=N2)/\(G++F).length=i) ?_ ?_ ?_) ?_)
   ·rintro i r U Kb hi ⟨G,F,R,neq,kp,ea,hp,rfl,hF,hN,hE,JN⟩;subst JN;have hlen:=hp.length_eq;rw[J4]at hlen;obtain⟨z,R',rfl⟩:∃z R',R=z::R':=by
     cases R with
     |nil=>simp at hlen;simp at hi;lia
     |cons z R'=>exact⟨z,R',rfl⟩
    have JY:F≠[]:=λz=>by rw[z]at hF;simp at hF
    obtain⟨F0,e,rfl⟩:∃F0 e,F=F0++[e]:=⟨F.dropLast,F.getLast JY,(Oa _).symm⟩;have hz:(MK U)[L.length+(G++(F0++[e])).length]?=Z z:=by rw[cB ea rfl,D2 ∅,Sa];rfl
    have he:(MK U)[L.length+(G++(F0++[e])).length-1]?=Z e:=by rw[cB ea (n:=(G++F0).length) (by simp<;>lia),LY (by simp<;>lia),<-LZ,D2 ∅,Sa];rfl
    have JO:P z:=hP z (hp.mem_iff.mp (by simp))
    have JP:P e:=hP e (hp.mem_iff.mp (by simp))
    dsimp only;refine LG (dW c (kp.kind.trans hk) hz he JO JP ?_);dsimp only;have JB:du lt (G++F0++[e]):=by rw[LZ];exact hN
    refine ae (λJC=>?_) (λJC=>?_)
    ·have Js:lt e z=N2:=c.asym _ _ JC;refine ae (λJt=>?_) (λJt=>?_)
     ·refine LG (jW (L:=L++G) (B:=F0++[e]) (R:=z::R') (by rw[ea];simp) (by simp only[J4]at hF⊢;simp only[NP]at hF⊢;lia) (by simp<;>lia) λfv e3 Fn=>?_)
      refine aa ⟨G++(F0++[e]).reverse,[z],R',0,kp.trans Fn,by rw[e3];simp,?_,by simp<;>lia,rfl,?_,?_,by simp<;>lia⟩
      ·refine P1.trans ?_ hp;rw[LZ,LZ,LZ];exact N4 _ (Nt _ (Rc _))
      ·have h1:=sv hN hE;refine LH.mpr ⟨h1,by simp,λu j v J=>?_⟩
       simp at J;subst J;have hm:=j9 c JB Js;refine(LH.mp hm).2.2 u ?_ v (by simp)
       rw[LZ]
       rcases LV.mp j with g|g
       ·exact MJ _ g
       ·exact Mp _ (Qz.mp g)
      ·intro u j v J;simp at j J;subst j J;exact c.irr
     ·refine aa ⟨G++(F0++[e]),[z],R',0,kp,by rw[ea];simp,by simpa using hp,by simp<;>lia,rfl,?_,?_,by simp<;>lia⟩
      ·have hm:=j9 c JB Js;simpa using hm
      ·intro u j v J;simp at j J;subst j J;exact c.irr
    ·have JZ:lt z e=N2:=by simpa using JC
     refine LG (dW c (kp.kind.trans hk) he hz JP JO ?_);dsimp only;refine ae (λJQ=>?_) (λJQ=>?_)
     ·exact aa ⟨G,F0++[e],z::R',neq,kp,ea,hp,rfl,hF,hN,hE⟩
     ·have Js:lt e z=N2:=by simpa using JQ
      refine aa ⟨G,(F0++[e])++[z],R',neq+1,kp,by rw[ea];simp,by simpa using hp,by simp<;>lia,by simp at hF⊢;lia,?_,?_,by simp<;>lia⟩
      ·have hm:=j9 c JB Js;simpa using hm
      ·have K0:∀u∈F0++[e],lt u z=N2:=fun u j=>by
        cases q1:lt u z with
        |false=>rfl
        | true=>rcases c.neg u e z q1 with r|r
                ·rw[hE u j e (by simp)]at r;cases r
                ·rw[Js]at r;cases r
       have K1:∀u∈F0++[e],lt z u=N2:=λu j=>by
        cases q1:lt z u with
        |false=>rfl
        | true=>rcases c.neg z e u q1 with r|r
                ·rw[JZ]at r;cases r
                ·rw[hE e (by simp) u j]at r;cases r
       intro u j v J
       rcases LV.mp j with g|g<;>rcases LV.mp J with g2|g2
       ·exact hE u g v g2
       ·simp at g2;subst g2;exact K0 u g
       ·simp at g;subst g;exact K1 v g2
       ·simp at g g2;subst g g2;exact c.irr
   ·rintro r U ⟨G,F,R,neq,kp,ea,hp,hr,hF,hN,hE,JN⟩;exact⟨G,F,R,neq,kp,ea,hp,hr,hF,hN,hE⟩
   ·refine⟨B,[x],xs.drop (n+1),0,Jr,by rw[e1];simp,?_,by simp[Jo],rfl,?_,?_,by simp[Jo]⟩
    ·have h9:(B++x::xs.drop (n+1)).Perm xs:=by
      have h9:=Nt (x::xs.drop (n+1)) hB;rw[<-exs]at h9;exact h9
     simpa using h9
    ·refine LH.mpr ⟨List.Pairwise.imp_of_mem (λj J _=>Jp _ j _ J) (List.pairwise_of_forall_mem_list (r:=λ_ _=>True) λ_ _ _ _=>trivial),by simp,λu j v J=>?_⟩
     simp at J;subst J
     cases q1:lt u v with
     |false=>rfl
     | true=>rcases c.neg u y v q1 with r|r
             ·rw[Jp u j y Jq]at r;cases r
             ·rw[c.asym _ _ JW]at r;cases r
    ·intro u j v J;simp at j J;subst j J;exact c.irr
   ·rintro r U ⟨G,F,R,neq,kp,ea,hp,rfl,hF,hN,hE⟩;dsimp -zeta -zetaHave -zetaUnused only
    extract_lets -underBinder +onlyGivenNames vr vs vn2 vq2
    dsimp -zeta -zetaHave -zetaUnused only[vr];have K5:vn2=(G++F).length:=rfl;have eq2:neq=vq2:=rfl
    clear_value vn2 vq2
    clear vs vr;subst K5 eq2
    extract_lets -underBinder +onlyGivenNames Ju
    have Jy:∀(D:List LM) (fv:Ng),(MK fv).toList=L++(D++R)->du lt D->(D++R).Perm xs->D.length=(G++F).length->0<D.length->Kp st' fv->wpS (Mj prog w) A E s (Ju ()) Q fv:=by
     intro D fv e3 JD JE Jv Jz Fn;dsimp -zeta -zetaHave -zetaUnused only[Ju];clear Ju;have K6:0<D.length:=∅
     refine LG (jW (L:=L) (B:=D) (R:=R) e3 rfl (by rw[Jv]) λJR e4 JS=>?_)
     have o4:Ord lt D.reverse:=U6.mpr JD;have Jw:(D.reverse++R).Perm xs:=(Nt _ (Rc D)).trans JE;have JT:(D.reverse++R).length=xs.length:=Jw.length_eq;have JF:Ord lt ((D.reverse++R).take D.length):=by rw[List.take_append_of_le_length (by simp),NY (by simp)];exact o4
     have JG:∀u∈D.reverse++R,P u:=λu j=>hP u (Jw.mem_iff.mp j);have K7:D.length<=xs.length:=by rw[<-JT];simp
     rw[<-Jv];generalize D.length=N0 at JF K6 K7;generalize D.reverse++R=ys at e4 Jw JT JF JG;refine LG (ay (Q:=λr Jm=>Jm=JR/\∃n,r=(Y,n)/\1<=n/\n<=xs.length/\Ord lt (ys.take n))
      (N7 (λi r Jm=>Jm=JR/\r=(Y,i)/\Ord lt (ys.take i)) ?_ ?_ ⟨rfl,rfl,JF⟩) ?_)
     ·rintro i r Jm h1 hi ⟨rfl,rfl,ho⟩;dsimp only;obtain⟨u,j⟩:∃u,ys[i]?=Z u:=⟨_,z0 ∅⟩
      obtain⟨v,J⟩:∃v,ys[i-1]?=Z v:=⟨_,z0 ∅⟩
      refine LG (dW c ((Fn.trans JS).kind.trans hk) ((cB e4 rfl).trans j) ((cB e4 ∅).trans J) (JG _ (Mh j)) (JG _ (Mh J)) ?_)
      dsimp only;refine ae (λh=>?_) (λh=>?_)
      ·exact aa ⟨rfl,i,rfl,∅,∅,ho⟩
      ·exact aa ⟨rfl,rfl,qj c ho ∅ j J (by simpa using h)⟩
     ·rintro r Jm ⟨rfl,rfl,ho⟩;exact⟨rfl,_,rfl,∅,∅,ho⟩
     ·rintro r Jm ⟨rfl,m,rfl,Kc,Kd,ho⟩;refine aa ?_;have:=q (ys.take m) (ys.drop m) Jm (by rw[e4,NQ]) (perm_take.trans Jw) (fun z=>by
       have h3:=congrArg O6 z;rw[Mm,O9]at h3;lia) ho (Fn.trans JS)
      rw[Mm,Nz ∅]at this
      exact this
    clear_value Ju
    refine ae (λJt=>?_) (λJt=>?_)
    ·refine LG (jW (L:=L++G) (B:=F) (R:=R) (by rw[ea];simp) (by simp<;>lia) (by simp<;>lia) λfv e3 Fn=>?_)
     have Fn:=kp.trans Fn;have e3:(MK fv).toList=L++((G++F.reverse)++R):=by rw[e3];simp
     have JD:=sv hN hE;have JE:((G++F.reverse)++R).Perm xs:=(Nt _ (N4 _ (Rc _))).trans hp;have Jv:(G++F.reverse).length=(G++F).length:=by simp
     have Jz:0<(G++F.reverse).length:=by simp<;>lia
     exact Jy _ _ e3 JD JE Jv Jz Fn
    ·exact Jy _ _ ea hN hp rfl (by simp<;>lia) kp
  clear_value jp
  refine ae (λh1=>?_) (λh1=>?_)
  ·obtain⟨x0,JH⟩:∃x0,xs[0]?=Z x0:=⟨_,z0 JJ⟩;refine LG (dW c hk ((cB O (n:=0) ∅).trans JH) ((cB O ∅).trans hy) (hP _ (Mh JH)) (hP _ (Mh hy)) ?_)
   dsimp only;refine ae (λhr=>aa Jx) (λhr=>?_);have hr:lt x0 y=N2:=by simpa using hr
   have JU:∀u∈xs.take n,lt u x0=N2:=λu j=>by
    obtain⟨i,hi,eu⟩:=Oh.mp j;have JI:(xs.take n)[i]?=Z u:=by rw[<-eu];exact z0 hi
    have JA:(xs.take n)[0]?=Z x0:=by rw[O8 ∅];exact JH
    by_cases hi0:i=0
    ·subst hi0;rw[JA]at JI;cases JI;exact c.irr
    ·exact fH ho ∅ JA JI
   have K8:∀u∈xs.take n,lt y u=N2:=iC c ho ∅ hy c.irr
   have heq:∀u∈xs.take n,∀v∈xs.take n,lt u v=N2:=λu j v J=>by exact c.le_trans (c.le_trans (K8 v J) hr) (JU u j)
   refine LG (jW (L:=L) (B:=xs.take n) (R:=x::xs.drop (n+1)) (by rw[O];exact congrArg (L ++ ·) exs) rfl (by rw[Mm,Nz JK]) λJn e1 Jr=>?_)
   have hB:(xs.take n).reverse.Perm (xs.take n):=Rc _;have Jo:(xs.take n).reverse.length=n:=by rw[QE,Mm];lia
   have Jp:∀u∈(xs.take n).reverse,∀v∈(xs.take n).reverse,lt u v=N2:=λu j v J=>heq u (Qz.mp j) v (Qz.mp J);have Jq:y∈(xs.take n).reverse:=Qz.mpr JL;exact JM _ _ e1 hB Jo Jp Jq Jr
  ·have Jn:=st';have hn:n=1:=by lia
   have Jr:Kp st' st':=Kp.refl;have e1:(MK st').toList=L++(xs.take n++x::xs.drop (n+1)):=by rw[O];exact congrArg (L ++ ·) exs
   have hB:(xs.take n).Perm (xs.take n):=Uo _;have Jo:(xs.take n).length=n:=by rw[Mm];lia
   have Jq:=JL;have Jp:∀u∈xs.take n,∀v∈xs.take n,lt u v=N2:=λu j v J=>by
    have e0:xs.take n=[y]:=by subst hn;rw[db ∅ hy];rfl
    rw[e0]at j J;simp at j J;subst j J;exact c.irr
   exact JM _ _ e1 hB Jo Jp Jq Jr
end
end Srt
namespace Srt
variable{R:List LM}{st:Ng}
section
variable{prog:Ml}{w:MQ}{A:MU}{E:i0->s9->Prop}{s:s9}{kd:QL}{P:LM->Prop}{lt:LM->LM->Bool}
theorem mZ(c:Cm prog w A s kd P lt){L r:List LM}{n:Nat}{Q:Bool->Ng->Prop}(hk:O1 st=kd)(fv:(MK st).toList=L++(r++R))(h0:r≠[])(ho:Ord lt r)(hn:r.length<=n)(Jm:n<=(r++R).length)(hP:∀x∈r++R,P x)(q:∀r' R' st',(MK st').toList=L++(r'++R')->(r'++R').Perm (r++R)->r'.length=n->Ord lt r'->Kp st st'->Q F2 st'):wpS (Mj prog w) A E s (binarySort' L.length n r.length) Q st:=by
 have Js:0<r.length:=N6.mpr h0;rw[binarySort'_eq];refine LG (ay (Q:=λx st'=>x=(Y,())/\∃D T,Kp st st'/\(MK st').toList=L++(D++T)/\(D++T).Perm (r++R)/\D.length=n/\Ord lt D)
  (N7 (λi x st'=>x=(Y,())/\∃D T,Kp st st'/\(MK st').toList=L++(D++T)/\(D++T).Perm (r++R)/\D.length=i/\Ord lt D) ?_ ?_ ⟨rfl,r,R,Kp.refl,fv,Uo _,∅,ho⟩) ?_)
 ·rintro k x B Jt Ju ⟨rfl,D,T,kp,ea,J,hD,O⟩;dsimp only;subst hD;have hlen:=J.length_eq;rw[J4]at hlen;obtain⟨z,T',rfl⟩:∃z T',T=z::T':=by
   cases T with
   |nil=>simp at hlen Jm;lia
   |cons z T'=>exact⟨z,T',rfl⟩
  have Jn:∀u∈D,P u:=λu G=>hP u (J.mem_iff.mp (MJ _ G));have Jo:P z:=hP z (J.mem_iff.mp (by simp))
  have hz:(MK B)[L.length+D.length]?=Z z:=by rw[cB ea rfl,D2 ∅,Sa];rfl
  refine LG (ay (Q:=λx st'=>st'=B/\∃k,x=(Y,k,k)/\Gal lt N2 z D k k)
   (N7 (fun i x st'=>st'=B/\∃lo hi,x=(Y,lo,hi)/\Gal lt N2 z D lo hi/\hi-lo+i<=D.length) ?_ ?_ ⟨rfl,0,D.length,rfl,⟨∅,∅,fun _ _ h=>∅,fun i x hi hx=>by have:=(LP.mp hx).1;lia⟩,∅⟩) ?_)
  ·rintro i x U _ hi ⟨rfl,lo,j,rfl,F,hm⟩;dsimp only;have hl:=F.le;have Jp:=F.len;refine ae (λJq=>?_) (λJq=>?_)
   ·exact aa ⟨rfl,j,by rw[show lo=j by lia],by rw[show lo=j by lia]at F;exact F⟩
   ·obtain⟨u,G⟩:∃u,D[(lo+j) / 2]?=Z u:=⟨_,z0 ∅⟩
    have Jr:(MK U)[L.length+(lo+j) / 2]?=Z u:=by rw[cB ea rfl,LY ∅];exact G
    refine LG (dW c (kp.kind.trans hk) hz Jr Jo (Jn _ (Mh G)) ?_);dsimp only;refine ae (λhf=>?_) (λhf=>?_)
    ·exact aa ⟨rfl,_,_,rfl,⟨∅,∅,F.up,iB c O G (by simp[bey,hf])⟩,∅⟩
    ·exact aa ⟨rfl,_,_,rfl,⟨∅,Jp,iA c O G (by simpa[bey]using hf),F.dn⟩,∅⟩
  ·rintro x U ⟨rfl,lo,j,rfl,F,hm⟩;have hl:=F.le;exact⟨rfl,j,by rw[show lo=j by lia],by rw[show lo=j by lia]at F;exact F⟩
  ·rintro x U ⟨rfl,l,rfl,F⟩;dsimp only;obtain⟨X,Fn,e,hl,hX,hY⟩:=F.out;subst hl e;rw[moveDown'_eq];refine LG (Ou ?_);refine aa ⟨rfl,X++z::Fn,T',kp.trans ⟨rfl,rfl,rfl⟩,rE ea (by simp) (by simp;lia),?_,by simp;lia,?_⟩
   ·refine P1.trans ?_ J;rw[LZ,LZ];refine N4 _ ?_;rw[QA];exact VS.symm
   ·obtain⟨o1,o2,o3⟩:=LH.mp O;refine LH.mpr ⟨o1,QV.mpr ⟨λu G=>c.asym _ _ (by have:=hY u G;simpa[bey]using this),o2⟩,λu G v hv=>?_⟩
    rcases LI.mp hv with g|g
    ·subst g;have:=hX u G;simpa[bey]using this
    ·exact o3 u G v g
 ·rintro x B ⟨rfl,D,T,kp,ea,J,hD,O⟩;exact⟨rfl,D,T,kp,ea,J,∅,O⟩
 ·rintro x B ⟨rfl,D,T,kp,ea,J,hD,O⟩;exact aa (q D T B ea J hD O kp)
noncomputable def Pd:Nat->List (List LM)->List (Nat×Nat×Nat)->Prop
 |_,[],ps=>ps=[]
 |s,r::rs,ps=>∃p t,ps=(s,r.length,p)::t/\Pd (s+r.length) rs t
theorem Pd.split:∀{l t:List (List LM)} {s:Nat} {ps:List (Nat×Nat×Nat)},Pd s (l++t) ps->∃pl pt,ps=pl++pt/\pl.length=l.length/\Pd s l pl/\Pd (s+l.flatten.length) t pt
 |[],t,s,ps,h=>⟨[],ps,rfl,rfl,rfl,by simpa using h⟩
 |r::l,t,s,ps,h=>by
  obtain⟨p,q,e,h⟩:=h;obtain⟨pl,pt,e2,j,h1,h2⟩:=Pd.split h;refine⟨(s,r.length,p)::pl,pt,by rw[e,e2];rfl,by simp[j],⟨p,pl,rfl,h1⟩,?_⟩
  rw[Nr,J4,<-QM];exact h2
theorem Pd.join:∀{l t:List (List LM)} {s:Nat} {pl pt:List (Nat×Nat×Nat)},Pd s l pl->Pd (s+l.flatten.length) t pt->Pd s (l++t) (pl++pt)
 |[],t,s,pl,pt,h,g=>by have:pl=[]:=h;subst this;simpa using g
 |r::l,t,s,pl,pt,h,g=>by obtain⟨p,q,e,h⟩:=h;subst e;refine⟨p,q++pt,rfl,Pd.join h ?_⟩;rw[Nr,J4,<-QM]at g;exact g
theorem Pd.length:∀{l:List (List LM)} {s:Nat} {ps:List (Nat×Nat×Nat)},Pd s l ps->ps.length=l.length
 |[],_,_,h=>by rw[show _=[]from h];rfl
 |r::l,s,ps,h=>by obtain⟨p,q,e,h⟩:=h;rw[e];simp[h.length]
structure Rn(lt:LM->LM->Bool)(kd:QL)(a₀:List LM)(st:Ng)(rs:List (List LM))(R:List LM):Prop where
 arr:(MK st).toList=rs.flatten++R
 perm:(rs.flatten++R).Perm a₀
 ord:∀r∈rs,r≠[]/\Ord lt r
 pend:Pd 0 rs (Md st).toList
 kind:O1 st=kd
 fail:Ot st=Y
theorem Rn.merge(c:Cm prog w A s kd P lt){a₀:List LM}(hP:∀x∈a₀,P x){l t:List (List LM)}{j F:List LM}(h:Rn lt kd a₀ st (l++j::F::t) R){i:Nat}(hi:i=l.length){Q:Bool->Ng->Prop}(q:∀m st',Rn lt kd a₀ st' (l++m::t) R->m.length=j.length+F.length->Q F2 st'):wpS (Mj prog w) A E s (Wy i) Q st:=by
 obtain⟨g,lo,Jr,⟨O,U,Fn⟩,fv⟩:=FT (E:=E) c;obtain⟨pl,pt,ep,J,Jm,Jn⟩:=h.pend.split;obtain⟨L,t1,e1,Jo⟩:=Jn;obtain⟨p2,t2,e2,Jp⟩:=Jo;subst e1 e2;have o1:=h.ord j (by simp)
 have o2:=h.ord F (by simp)
 have G:∀x,x∈j∨x∈F->P x:=λx hx=>hP x (h.perm.mem_iff.mp (by simp only[OT,Nr,LV];rcases hx with z|z<;>simp[z]))
 have ip:∀(k:Nat) (v:Nat×Nat×Nat),(Md st).toList[k]?=Z v->(Md st)[k]?=Z v:=λk v e=>by rw[<-Mq];exact e
 refine fv O (U O) (Fn O) i (0+l.flatten.length) j.length L (0+l.flatten.length+j.length) F.length p2 l.flatten j F (t.flatten++R) st Q h.kind h.fail (ip _ _ ?_) (ip _ _ ?_) (by rw[h.arr];simp) (Sb _) rfl ∅ rfl o1.1 o2.1 (λx hx=>G x (.inl hx)) (λx hx=>G x (.inr hx)) o1.2 o2.2 ?_
 ·rw[ep,hi,<-J,D2 ∅,Sa];rfl
 ·rw[ep,hi,<-J,D2 ∅,show pl.length+1-pl.length=1 by lia];rfl
 ·intro m st' ea hm om hk hf Jq;have B:m.length=j.length+F.length:=by rw[hm.length_eq];simp
  refine q m st' ⟨by rw[ea];simp,?_,?_,?_,hk,hf⟩ B
  ·refine P1.trans ?_ h.perm;simp only[OT,Nr,LZ];refine N4 _ ?_;rw[<-LZ j];exact Nt _ hm
  ·intro r hr
   rcases LV.mp hr with z|z
   ·exact h.ord r (MJ _ z)
   ·rcases LI.mp z with z|z
    ·subst z;exact⟨λz=>by rw[z]at B;have:=N6.mpr o1.1;simp at B;lia,om⟩
    ·exact h.ord r (by simp[z])
  ·rw[Jq];have e3:(((Md st).setIfInBounds i (0+l.flatten.length,j.length+F.length,L)).eraseIdxIfInBounds (i+1)).toList=pl++(0+l.flatten.length,j.length+F.length,L)::t2:=by
    rw[Array.toList_eraseIdxIfInBounds,Su,ep,hi,<-J];rw[List.set_append_right _ _ ∅,Sa,List.eraseIdx_append_of_length_le ∅,show pl.length+1-pl.length=1 by lia];rfl
   rw[e3];refine Jm.join ⟨L,t2,by rw[B],?_⟩
   rw[B,<-QM];exact Jp
theorem qk{α:Type}{l:List α}(h:1<l.length):∃t a b,l=t++[a,b]:=by
 obtain⟨t1,b,e1⟩:∃t b,l=t++[b]:=⟨l.dropLast,l.getLast (λz=>by rw[z]at h;simp at h),(Oa _).symm⟩
 obtain⟨j,a,e2⟩:∃t b,t1=t++[b]:=⟨t1.dropLast,t1.getLast (λz=>by rw[e1,z]at h;simp at h),(Oa _).symm⟩
 exact⟨j,a,b,by rw[e1,e2];simp⟩
theorem Ec{α:Type}{l:List α}{i:Nat}(h:i+1<l.length):∃t a b u,l=t++a::b::u/\t.length=i:=by
 refine⟨l.take i,l[i],l[i+1],l.drop (i+2),?_,by rw[Mm];lia⟩
 rw[<-NF ∅,<-NF ∅,NQ]
theorem Rn.size{a₀:List LM}{rs:List (List LM)}(h:Rn lt kd a₀ st rs R):rs.flatten.length+R.length=a₀.length:=by have:=h.perm.length_eq;rw[J4]at this;exact this
theorem sx:∀{rs:List (List LM)},(∀r∈rs,r≠[])->rs.length<=rs.flatten.length
 |[],_=>by simp
 |r::rs,h=>by
  have h1:=N6.mpr (h r (by simp))
  have h2:=sx (rs:=rs) λr j=>h r (by simp[j])
  rw[Nr,J4,MP];lia
theorem wy{l:List (List LM)}{s pw:Nat}{ps:Array (Nat×Nat×Nat)}(h:Pd s l ps.toList):Pd s l (ps.modify (ps.size-1) λx=>(x.1,x.2.1,pw)).toList:=by
 rw[Array.toList_modify];have g:∀(l:List (List LM)) (s k:Nat) (ps:List (Nat×Nat×Nat)),Pd s l ps->Pd s l (ps.modify k λx=>(x.1,x.2.1,pw)):=by
  intro l
  induction l with
  |nil=>intro s k ps h;have:ps=[]:=h;subst this;cases k<;>rfl
  |cons r l ih=>
   intro s k ps h;obtain⟨p,t,e,h⟩:=h;subst e
   cases k with
   |zero=>exact⟨pw,t,rfl,h⟩
   |succ k=>exact⟨p,_,rfl,ih _ k t h⟩
 exact g _ _ _ _ h
theorem rF(c:Cm prog w A s kd P lt){Q:Unit->Ng->Prop}(hk:O1 st=kd)(hf:Ot st=Y)(hp:Md st=#[])(hP:∀x∈(MK st).toList,P x)(q:∀st',(MK st').toList.Perm (MK st).toList->Ord lt (MK st').toList->Ot st'=Y->Q () st'):wpS (Mj prog w) A E s sortRuns' Q st:=by
 rw[sortRuns'_eq];refine LG (PH ?_)
 try dsimp only
 have hsz:(MK st).size=(MK st).toList.length:=by simp
 generalize hA:(MK st).toList=a₀ at hP q hsz;generalize hS:(MK st).size=size at hsz;generalize minRun' size size 0=minrun;refine LG (ay (Q:=λr st'=>∃rs lo,r=(Y,lo)/\Rn lt kd a₀ st' rs [])
  (N7 (λi r st'=>∃rs R,r=(Y,rs.flatten.length)/\Rn lt kd a₀ st' rs R/\i<=rs.flatten.length) ?_ ?_ ⟨[],a₀,rfl,⟨by simpa using hA,by simp,by simp,by rw[hp];rfl,hk,hf⟩,by simp⟩) ?_)
 ·rintro i r Jt _ hi ⟨rs,R,rfl,L,Jq⟩
  try dsimp only
  have JE:=L.size;refine ae (λJB=>?_) (λJB=>?_)
  ·have:R=[]:=MZ.mp ∅
   subst this;exact aa ⟨rs,_,rfl,L⟩
  ·have Ju:size-rs.flatten.length=R.length:=by lia
   have JC:R≠[]:=λz=>by rw[z,O9]at Ju;lia
   have Jv:∀x∈R,P x:=λx hx=>hP x (L.perm.mem_iff.mp (Mp _ hx));rw[Ju];refine LG (iY c L.kind L.arr JC Jv λr R1 J ea Jm U ho kp=>?_)
   try dsimp only
   have F:Rn lt kd a₀ J rs (r++R1):=⟨ea,(N4 _ Jm).trans L.perm,L.ord,by rw[kp.pend];exact L.pend,kp.kind.trans L.kind,kp.fail.trans L.fail⟩
   have Jw:r.length+R1.length=R.length:=by rw[<-Jm.length_eq];simp
   refine ae (λJr=>?_) (λJr=>?_)
   ·refine LG (cI ?_);refine LG (mZ c F.kind F.arr U ho (n:=min R.length minrun) ∅ (by simp;lia) (λx hx=>Jv x (Jm.mem_iff.mp hx)) λr2 R2 B Jx Jp G JD Jo=>?_)
    try dsimp only
    refine ae (λh=>absurd h (by simp)) (λ_=>?_)
    have Jy:r2≠[]:=λz=>by rw[z]at G;simp at G;have:=N6.mpr U;lia
    have F:Rn lt kd a₀ B rs (r2++R2):=⟨Jx,(N4 _ Jp).trans F.perm,F.ord,by rw[Jo.pend];exact F.pend,Jo.kind.trans F.kind,Jo.fail.trans F.fail⟩
    rw[<-G];clear G Jp Jx Jo ea Jm kp Jw Jr;generalize B=J at F;clear ho U;have ho:=JD;have U:=Jy;generalize r2=r at F ho U;generalize R2=R1 at F;refine LG (PH ?_)
    try dsimp only
    have Jz:(Md J).size=rs.length:=by rw[<-My];exact F.pend.length
    cases hb:(Md J).back? with
    |none=>
     try dsimp only
     have HL:rs.flatten.length=rs.flatten.length:=rfl;refine LG (Ou ?_);have Js:=N6.mpr U;have Fn:(rs++[r]).flatten.length=rs.flatten.length+r.length:=by rw[OT,J4,HL];simp
     refine aa ⟨rs++[r],R1,by rw[Fn],⟨by rw[show _=_ from F.arr];simp,?_,?_,?_,F.kind,F.fail⟩,by rw[Fn];lia⟩
     ·refine P1.trans (Qf (by simp)) F.perm
     ·intro u hu
      rcases LV.mp hu with z|z
      ·exact F.ord u z
      ·simp at z;subst z;exact⟨U,ho⟩
     ·have h8:(Md (Qx J ((Md J).push (rs.flatten.length,r.length,0)))).toList=(Md J).toList++[(rs.flatten.length,r.length,0)]:=by
       show((Md J).push _).toList=_;rw[Mf]
      rw[show _=_ from h8];exact F.pend.join ⟨0,[],by rw[HL,Sb],rfl⟩
    |some v=>
     obtain⟨s1,n1,p1⟩:=v
     try dsimp only
     refine LG (ay (Q:=λx st'=>x=(Y,())/\∃rs',Rn lt kd a₀ st' rs' (r++R1)/\rs'.flatten.length=rs.flatten.length)
      (N7 (λi x st'=>x=(Y,())/\∃rs',Rn lt kd a₀ st' rs' (r++R1)/\rs'.flatten.length=rs.flatten.length) ?_ ?_ ⟨rfl,rs,F,rfl⟩) ?_)
     ·rintro j x B _ hj ⟨rfl,rs',O,G⟩;refine LG (PH ?_)
      try dsimp only
      have Jn:(Md B).size=rs'.length:=by rw[<-My];exact O.pend.length
      by_cases h1:(Md B).size > 1
      ·rw[if_pos h1];have h2:(Md B)[(Md B).size-2]?=Z ((Md B)[(Md B).size-2]'∅):=MX ∅
       rw[h2]
       try dsimp only
       refine ae (λh=>?_) (λh=>?_)
       ·exact aa ⟨rfl,rs',O,G⟩
       ·obtain⟨t,a,b,e⟩:=qk (l:=rs') ∅
        subst e;refine LG (O.merge c hP (by rw[Jn];simp) λm fv h4 hm=>?_)
        refine ae (λh=>absurd h (by simp)) (λ_=>aa ⟨rfl,_,h4,?_⟩)
        rw[<-G];simp[hm]
      ·rw[if_neg h1];exact aa ⟨rfl,rs',O,G⟩
     ·rintro x B ⟨rfl,rs',O,G⟩;exact⟨rfl,rs',O,G⟩
     ·rintro x B ⟨rfl,rs',O,G⟩
      try dsimp only
      refine LG (Ou ?_);have h4:Rn lt kd a₀ (Qx B ((Md B).modify ((Md B).size-1) λx=>(x.1,x.2.1,power' size (2*s1+n1) (2*s1+n1+n1+r.length) size))) rs' (r++R1):=⟨O.arr,O.perm,O.ord,wy O.pend,O.kind,O.fail⟩;generalize JA:Qx B ((Md B).modify ((Md B).size-1) λx=>(x.1,x.2.1,power' size (2*s1+n1) (2*s1+n1+n1+r.length) size))=fv at h4;have HL:=G;refine LG (Ou ?_);have Js:=N6.mpr U;have Fn:(rs'++[r]).flatten.length=rs.flatten.length+r.length:=by rw[OT,J4,HL];simp
      refine aa ⟨rs'++[r],R1,by rw[Fn],⟨by rw[show _=_ from h4.arr];simp,?_,?_,?_,h4.kind,h4.fail⟩,by rw[Fn];lia⟩
      ·refine P1.trans (Qf (by simp)) h4.perm
      ·intro u hu
       rcases LV.mp hu with z|z
       ·exact h4.ord u z
       ·simp at z;subst z;exact⟨U,ho⟩
      ·have h8:(Md (Qx fv ((Md fv).push (rs.flatten.length,r.length,0)))).toList=(Md fv).toList++[(rs.flatten.length,r.length,0)]:=by
        show((Md fv).push _).toList=_;rw[Mf]
       rw[show _=_ from h8];exact h4.pend.join ⟨0,[],by rw[HL,Sb],rfl⟩
   ·clear ea Jm kp Jw Jr;refine LG (PH ?_)
    try dsimp only
    have Jz:(Md J).size=rs.length:=by rw[<-My];exact F.pend.length
    cases hb:(Md J).back? with
    |none=>
     try dsimp only
     have HL:rs.flatten.length=rs.flatten.length:=rfl;refine LG (Ou ?_);have Js:=N6.mpr U;have Fn:(rs++[r]).flatten.length=rs.flatten.length+r.length:=by rw[OT,J4,HL];simp
     refine aa ⟨rs++[r],R1,by rw[Fn],⟨by rw[show _=_ from F.arr];simp,?_,?_,?_,F.kind,F.fail⟩,by rw[Fn];lia⟩
     ·refine P1.trans (Qf (by simp)) F.perm
     ·intro u hu
      rcases LV.mp hu with z|z
      ·exact F.ord u z
      ·simp at z;subst z;exact⟨U,ho⟩
     ·have h8:(Md (Qx J ((Md J).push (rs.flatten.length,r.length,0)))).toList=(Md J).toList++[(rs.flatten.length,r.length,0)]:=by
       show((Md J).push _).toList=_;rw[Mf]
      rw[show _=_ from h8];exact F.pend.join ⟨0,[],by rw[HL,Sb],rfl⟩
    |some v=>
     obtain⟨s1,n1,p1⟩:=v
     try dsimp only
     refine LG (ay (Q:=λx st'=>x=(Y,())/\∃rs',Rn lt kd a₀ st' rs' (r++R1)/\rs'.flatten.length=rs.flatten.length)
      (N7 (λi x st'=>x=(Y,())/\∃rs',Rn lt kd a₀ st' rs' (r++R1)/\rs'.flatten.length=rs.flatten.length) ?_ ?_ ⟨rfl,rs,F,rfl⟩) ?_)
     ·rintro j x B _ hj ⟨rfl,rs',O,G⟩;refine LG (PH ?_)
      try dsimp only
      have Jn:(Md B).size=rs'.length:=by rw[<-My];exact O.pend.length
      by_cases h1:(Md B).size > 1
      ·rw[if_pos h1];have h2:(Md B)[(Md B).size-2]?=Z ((Md B)[(Md B).size-2]'∅):=MX ∅
       rw[h2]
       try dsimp only
       refine ae (λh=>?_) (λh=>?_)
       ·exact aa ⟨rfl,rs',O,G⟩
       ·obtain⟨t,a,b,e⟩:=qk (l:=rs') ∅
        subst e;refine LG (O.merge c hP (by rw[Jn];simp) λm fv h4 hm=>?_)
        refine ae (λh=>absurd h (by simp)) (λ_=>aa ⟨rfl,_,h4,?_⟩)
        rw[<-G];simp[hm]
      ·rw[if_neg h1];exact aa ⟨rfl,rs',O,G⟩
     ·rintro x B ⟨rfl,rs',O,G⟩;exact⟨rfl,rs',O,G⟩
     ·rintro x B ⟨rfl,rs',O,G⟩
      try dsimp only
      refine LG (Ou ?_);have h4:Rn lt kd a₀ (Qx B ((Md B).modify ((Md B).size-1) λx=>(x.1,x.2.1,power' size (2*s1+n1) (2*s1+n1+n1+r.length) size))) rs' (r++R1):=⟨O.arr,O.perm,O.ord,wy O.pend,O.kind,O.fail⟩;generalize JA:Qx B ((Md B).modify ((Md B).size-1) λx=>(x.1,x.2.1,power' size (2*s1+n1) (2*s1+n1+n1+r.length) size))=fv at h4;have HL:=G;refine LG (Ou ?_);have Js:=N6.mpr U;have Fn:(rs'++[r]).flatten.length=rs.flatten.length+r.length:=by rw[OT,J4,HL];simp
      refine aa ⟨rs'++[r],R1,by rw[Fn],⟨by rw[show _=_ from h4.arr];simp,?_,?_,?_,h4.kind,h4.fail⟩,by rw[Fn];lia⟩
      ·refine P1.trans (Qf (by simp)) h4.perm
      ·intro u hu
       rcases LV.mp hu with z|z
       ·exact h4.ord u z
       ·simp at z;subst z;exact⟨U,ho⟩
      ·have h8:(Md (Qx fv ((Md fv).push (rs.flatten.length,r.length,0)))).toList=(Md fv).toList++[(rs.flatten.length,r.length,0)]:=by
        show((Md fv).push _).toList=_;rw[Mf]
       rw[show _=_ from h8];exact h4.pend.join ⟨0,[],by rw[HL,Sb],rfl⟩
 ·rintro r Jt ⟨rs,R,rfl,L,Jq⟩;have:=L.size;have:R=[]:=MZ.mp ∅
  subst this;exact⟨rs,_,rfl,L⟩
 ·rintro r Jt ⟨rs,lo,rfl,L⟩
  try dsimp only
  refine LG (ay (Q:=λr st'=>r=(Y,())/\∃rs,Rn lt kd a₀ st' rs []/\rs.length<=1)
   (N7 (λi r st'=>r=(Y,())/\∃rs,Rn lt kd a₀ st' rs []/\rs.length+i<=size) ?_ ?_ ⟨rfl,rs,L,?_⟩) ?_)
  ·rintro i r J _ hi ⟨rfl,rs,L,Jq⟩;refine LG (PH ?_)
   try dsimp only
   have Jz:(Md J).size=rs.length:=by rw[<-My];exact L.pend.length
   refine ae (λh=>?_) (λh=>?_)
   ·exact aa ⟨rfl,rs,L,∅⟩
   ·have go:∀k,k+1<rs.length->wpS (Mj prog w) A E s (Wy k) (fun b st'=>b=F2/\∃rs',Rn lt kd a₀ st' rs' []/\rs'.length+1=rs.length) J:=by
     intro k hk;obtain⟨t,a,b,u,e,ht⟩:=Ec hk;subst e;refine L.merge c hP ht.symm λm B O _=>⟨rfl,_,O,by simp;lia⟩
    refine LG (ay (go _ ?_) ?_)
    ·(repeat' split)<;>lia
    ·rintro b B ⟨rfl,rs',O,G⟩;refine ae (λh=>absurd h (by simp)) (λ_=>aa ⟨rfl,rs',O,∅⟩)
  ·rintro r J ⟨rfl,rs,L,Jq⟩;exact⟨rfl,rs,L,∅⟩
  ·have h1:=sx λr hr=>(L.ord r hr).1;have h2:=L.size;simp only[O9]at h2;lia
  ·rintro r J ⟨rfl,rs,L,hl⟩;refine aa (q J (by rw[L.arr];exact L.perm) ?_ L.fail)
   rw[L.arr,Np]
   match rs,hl,L with
   |[],_,_=>exact SH
   |[r],_,L=>simpa using(L.ord r (by simp)).2
end
end Srt
namespace Srt
def fI(cap:Nat):Prop:=∀(prog:Ml) (w:MQ) (A:MU) (E:i0->s9->Prop) (s:s9) (kd:QL) (P:LM->Prop) (lt:LM->LM->Bool),Cm prog w A s kd P lt->∀(st:Ng) (Q:Unit->Ng->Prop),O1 st=kd->Ot st=Y->Md st=#[]->(∀x∈(MK st).toList,P x)->2<=(MK st).size->(MK st).size<=cap->
 (∀st',(MK st').toList.Perm (MK st).toList->Ord lt (MK st').toList->Ot st'=Y->Q () st')->wpS (Mj prog w) A E s sortRuns' Q st
theorem ur{cap:Nat}:fI cap:=λ_ _ _ _ _ _ _ _ c _ _ j hf z B _ _ q=>rF c j hf z B q
theorem rG:fI 63:=by
 intro prog w A E s kd P lt c st Q hk hf Fn fv h2 Jm q;rw[sortRuns'_eq];refine LG (PH ?_);dsimp only;have J:minRun' (MK st).size (MK st).size 0=(MK st).size:=by
  obtain⟨f,hf⟩:∃f,(MK st).size=f+1:=⟨(MK st).size-1,∅⟩
  have:minRun' (f+1) (MK st).size 0=(MK st).size:=by rw[minRun'_succ,if_pos ∅];rfl
  rwa[<-hf]at this
 rw[J];have hsz:(MK st).size=(MK st).toList.length:=by simp
 generalize hA:(MK st).toList=a₀ at fv q hsz;generalize hS:(MK st).size=size at hsz h2 Jm J;have h0:a₀≠[]:=λz=>by rw[z]at hsz;simp at hsz;lia
 refine LG (ay (Q:=λr st'=>r=(Y,size)/\(MK st').toList.Perm a₀/\Ord lt (MK st').toList/\Ot st'=Y/\Md st'=#[(0,size,0)])
  (N7 (λi r st'=>(i=0/\r=(Y,0)/\st'=st)∨(1<=i/\r=(Y,size)/\(MK st').toList.Perm a₀/\Ord lt (MK st').toList/\Ot st'=Y/\Md st'=#[(0,size,0)])) ?_ ?_ (.inl ⟨rfl,rfl,rfl⟩)) ?_)
 ·rintro i r B _ hi (⟨rfl,rfl,rfl⟩|⟨_,rfl,hD⟩)
  ·dsimp only;rw[if_neg ∅]
   rw[show size-0=a₀.length by lia,show min a₀.length size=size by lia]
   refine LG (iY (L:=[]) c hk hA h0 fv λr R O ea F Jn ho kp=>?_);dsimp only;have hl:=F.length_eq;rw[J4]at hl;have fin:∀(r':List LM) (j:Ng),(MK j).toList=r'->r'.Perm a₀->Ord lt r'->Kp B j->wpS (Mj prog w) A E s (modify λz=>Qx z ((Md z).push (0,size,0))) (λ_ st'=>(MK st').toList.Perm a₀/\Ord lt (MK st').toList/\Ot st'=Y/\Md st'=#[(0,size,0)]) j:=λr' j e3 p3 o3 k3=>by refine Ou ?_;exact⟨by show(MK j).toList.Perm a₀;rw[e3];exact p3,by show Ord lt (MK j).toList;rw[e3];exact o3,k3.fail.trans hf,by show(Md j).push _=_;rw[k3.pend,Fn];rfl⟩
   by_cases hlt:r.length<size
   ·rw[if_pos hlt];refine LG (cI ?_);refine LG (mZ (L:=[]) c (kp.kind.trans hk) ea Jn ho (n:=size) ∅ (by simp;lia) (λx hx=>fv x (F.mem_iff.mp hx)) λr2 R2 j Jo G Jt Jp U=>?_)
    rw[if_neg (by simp)]
    refine LG (PH ?_);have hb:(Md j).back?=Y:=by rw[U.pend,kp.pend,Fn];rfl
    rw[hb];dsimp only;have Jq:=G.length_eq;rw[J4,J4]at Jq;have:R2=[]:=MZ.mp ∅
    subst this;rw[show 0+size=size by lia]
    refine LG (ay (fin r2 j (by simpa using Jo) (by simpa using G.trans F) Jp (kp.trans U)) λ_ Jr h4=>aa (.inr ⟨∅,rfl,h4⟩))
   ·rw[if_neg hlt];refine LG (PH ?_);have hb:(Md O).back?=Y:=by rw[kp.pend,Fn];rfl
    rw[hb];dsimp only;have:R=[]:=MZ.mp ∅
    subst this;have Js:r.length=size:=by simp at hl;lia
    rw[Js,show 0+size=size by lia]
    refine LG (ay (fin r O (by simpa using ea) (by simpa using F) ho kp) λ_ Jr h4=>aa (.inr ⟨∅,rfl,h4⟩))
  ·dsimp only;rw[if_pos (LW _)];exact aa ⟨rfl,hD⟩
 ·rintro r B (⟨h,_,_⟩|⟨_,rfl,hD⟩)
  ·lia
  ·exact⟨rfl,hD⟩
 ·rintro r B ⟨rfl,p1,o1,f1,pd⟩;dsimp only;refine LG (ay (N7 (I:=λ_ c st''=>st''=B/\c=(Y,())) (Q:=λc st''=>st''=B/\c=(Y,())) ?_ (λ_ _ hh=>hh) ⟨rfl,rfl⟩) ?_)
  ·rintro x c st'' _ _ ⟨rfl,rfl⟩;refine LG (PH ?_);rw[if_pos (by rw[pd];exact LW 1)]
   exact aa ⟨rfl,rfl⟩
  ·rintro c st'' ⟨rfl,rfl⟩;exact aa (q _ p1 o1 f1)
end Srt
namespace Srt
inductive Ky where
 |int (i:Int)
 |tup (l:List Ky)
mutual
noncomputable def aw:Ky->Ky->Ordering
 |.int a,.int b=>if a<b then .lt else if a=b then .eq else .gt
 |.int _,.tup _=>.lt
 |.tup _,.int _=>.gt
 |.tup a,.tup b=>cmpKs a b
noncomputable def cmpKs:List Ky->List Ky->Ordering
 |[],[]=>.eq
 |[],_::_=>.lt
 |_::_,[]=>.gt
 |x::xs,y::ys=>(aw x y).then (cmpKs xs ys)
end
mutual
theorem dv:∀a b,aw b a=(aw a b).swap
 |.int a,.int b=>by
  simp only[aw]
  by_cases h1:a<b
  ·rw[if_pos h1,if_neg ∅,if_neg ∅];rfl
  ·by_cases h2:a=b
   ·rw[if_neg h1,if_pos h2,if_neg ∅,if_pos h2.symm];rfl
   ·rw[if_neg h1,if_neg h2,if_pos ∅];rfl
 |.int _,.tup _=>by simp[aw]
 |.tup _,.int _=>by simp[aw]
 |.tup a,.tup b=>by simp only[aw];exact cmpKs_swap a b
theorem cmpKs_swap:∀a b,cmpKs b a=(cmpKs a b).swap
 |[],[]=>rfl
 |[],_::_=>rfl
 |_::_,[]=>rfl
 |x::xs,y::ys=>by
  simp only[cmpKs];rw[dv x y,cmpKs_swap xs ys]
  cases aw x y<;>rfl
end
mutual
theorem iD:∀a b,aw a b=.eq->a=b
 |.int a,.int b,h=>by
  simp only[aw]at h
  by_cases h1:a<b
  ·rw[if_pos h1]at h;cases h
  ·by_cases h2:a=b
   ·rw[h2]
   ·rw[if_neg h1,if_neg h2]at h;cases h
 |.int _,.tup _,h=>by simp[aw]at h
 |.tup _,.int _,h=>by simp[aw]at h
 |.tup a,.tup b,h=>by simp only[aw]at h;rw[cmpKs_eq a b h]
theorem cmpKs_eq:∀a b,cmpKs a b=.eq->a=b
 |[],[],_=>rfl
 |[],_::_,h=>by simp[cmpKs]at h
 |_::_,[],h=>by simp[cmpKs]at h
 |x::xs,y::ys,h=>by
  simp only[cmpKs]at h
  cases e:aw x y with
  |lt=>rw[e]at h;cases h
  |gt=>rw[e]at h;cases h
  |eq=>rw[e]at h;rw[iD x y e,cmpKs_eq xs ys h]
end
mutual
theorem jX:∀a b c,aw a b=.lt->aw b c=.lt->aw a c=.lt
 |.int a,.int b,.int c,h,g=>by
  simp only[aw]at h g⊢;have h1:a<b:=by
   by_cases h1:a<b
   ·exact h1
   ·rw[if_neg h1]at h;split at h<;>cases h
  have h2:b<c:=by
   by_cases h1:b<c
   ·exact h1
   ·rw[if_neg h1]at g;split at g<;>cases g
  rw[if_pos ∅]
 |.int _,.tup _,.int _,_,g=>by simp[aw]at g
 |.int _,.int _,.tup _,_,_=>by simp[aw]
 |.int _,.tup _,.tup _,_,_=>by simp[aw]
 |.tup _,.int _,_,h,_=>by simp[aw]at h
 |.tup _,.tup _,.int _,_,g=>by simp[aw]at g
 |.tup a,.tup b,.tup c,h,g=>by simp only[aw]at h g⊢;exact cmpKs_trans a b c h g
theorem cmpKs_trans:∀a b c,cmpKs a b=.lt->cmpKs b c=.lt->cmpKs a c=.lt
 |[],[],_,h,_=>by simp[cmpKs]at h
 |[],_::_,[],_,g=>by simp[cmpKs]at g
 |[],_::_,_::_,_,_=>by simp[cmpKs]
 |_::_,[],_,h,_=>by simp[cmpKs]at h
 |_::_,_::_,[],_,g=>by simp[cmpKs]at g
 |x::xs,y::ys,z::zs,h,g=>by
  simp only[cmpKs]at h g⊢
  cases e:aw x y with
  |gt=>rw[e]at h;cases h
  |eq=>
   have:=iD x y e;subst this;rw[e]at h
   cases e2:aw x z with
   |gt=>rw[e2]at g;cases g
   |lt=>rfl
   |eq=>rw[e2]at g;exact cmpKs_trans xs ys zs h g
  |lt=>
   cases e2:aw y z with
   |gt=>rw[e2]at g;cases g
   |lt=>rw[jX x y z e e2];rfl
   |eq=>have:=iD y z e2;subst this;rw[e];rfl
end
noncomputable def ltK(a b:Ky):Bool:=aw a b==.lt
noncomputable def ql(a b:List Ky):Bool:=cmpKs a b==.lt
theorem qm(a b:Ky)(h:ltK a b=F2):ltK b a=N2:=by unfold ltK at h⊢;rw[dv a b,(by simpa using h:aw a b=.lt)];rfl
theorem n8(a b:Ky)(h:ltK a b=N2)(g:ltK b a=N2):a=b:=by
 unfold ltK at h g;rw[dv a b]at g;apply iD
 cases e:aw a b with
 |eq=>rfl
 |lt=>rw[e]at h;cases h
 |gt=>rw[e]at g;cases g
theorem BX(a b c:Ky)(h:ltK a c=F2):ltK a b=F2∨ltK b c=F2:=by
 cases e:ltK a b with
 |true=>exact .inl rfl
 |false=>
  right
  cases e2:ltK b a with
  |false=>rw[n8 a b e e2]at h;exact h
  |true=>unfold ltK at h e2⊢;rw[jX b a c (by simpa using e2) (by simpa using h)];rfl
theorem wz(x y:Ky)(xs ys:List Ky):ql (x::xs) (y::ys)=if(!ltK x y && !ltK y x)=F2 then ql xs ys else ltK x y:=by
 unfold ql ltK;rw[dv x y];simp only[cmpKs]
 cases aw x y<;>simp
mutual
noncomputable def toK:NM->Ky
 |.int i=>.int i
 |.tuple xs=>.tup (toKs xs)
 |_=>.int 0
noncomputable def toKs:List NM->List Ky
 |[]=>[]
 |x::xs=>toK x::toKs xs
end
inductive Cmpb:NM->NM->Prop where
 |int (a b:Int):Cmpb (.int a) (.int b)
 |nil (ys:List NM):Cmpb (.tuple []) (.tuple ys)
 |nil' (xs:List NM):Cmpb (.tuple xs) (.tuple [])
 |cons {x y:NM} {xs ys:List NM}:Cmpb x y->Cmpb (.tuple xs) (.tuple ys)->Cmpb (.tuple (x::xs)) (.tuple (y::ys))
theorem Cmpb.eqv{x y:NM}(h:Cmpb x y):Oq x y=(!ltK (toK x) (toK y) && !ltK (toK y) (toK x)):=by
 have g:∀{x y:NM},Cmpb x y->Oq x y=(aw (toK x) (toK y)==.eq):=by
  intro x y h
  induction h with
  |int a b=>
   simp only[Oq,toK,aw]
   by_cases h1:a<b
   ·rw[if_pos h1];simp;lia
   ·by_cases h2:a=b
    ·rw[if_neg h1,if_pos h2];simp[h2]
    ·rw[if_neg h1,if_neg h2];simp;lia
  |nil ys=>cases ys<;>simp[Oq,UJ,toK,toKs,aw,cmpKs]
  |nil' xs=>cases xs<;>simp[Oq,UJ,toK,toKs,aw,cmpKs]
  |@cons x y xs ys h1 h2 ih1 j=>
   simp only[Oq]at j⊢;simp only[UJ,toK,toKs,aw,cmpKs]at j⊢;rw[ih1,j]
   cases aw (toK x) (toK y)<;>simp
 rw[g h];unfold ltK;rw[dv (toK x) (toK y)]
 cases aw (toK x) (toK y)<;>rfl
section
variable{prog:Ml}{w:MQ}{A:MU}{E:i0->s9->Prop}{s:s9}
theorem trd{b:Bool}{Q:Bool->s9->Prop}(q:Q b s):LR (Mj prog w) A (truthOfDropped (.bool b)) Q E s:=by
 unfold truthOfDropped
 wp_walk
 exact q
theorem iE(a b:Int):ltK (.int a) (.int b)=decide (a<b):=by
 simp only[ltK,aw]
 by_cases h:a<b
 ·simp[h]
 ·by_cases h2:a=b<;>simp[h,h2]
theorem wB{a b:Int}{t u:Tok}{Q:i0->s9->Prop}(q:Q (.bool (decide (a<b))) s):LR (Mj prog w) A (W9 .Lt (.int a t) (.int b u)) Q E s:=wpAny_richCompare_same (T:="int") rfl rfl F.slot_int_lt (call_int_lt ⟨by simp,q⟩)
noncomputable def cE:List NM->List NM->Option Bool
 |x::xs,y::ys=>if Oq x y=F2 then cE xs ys else Z (ltK (toK x) (toK y))
 |_,_=>Y
theorem ja:∀{xs ys:List NM},Cmpb (.tuple xs) (.tuple ys)->ltK (toK (.tuple xs)) (toK (.tuple ys))=match cE xs ys with|some b=>b|none=>decide (xs.length<ys.length)
 |[],[],_=>rfl
 |[],_::_,_=>by simp[cE,toK,toKs,ltK,aw,cmpKs]
 |_::_,[],_=>by simp[cE,toK,toKs,ltK,aw,cmpKs]
 |x::xs,y::ys,h=>by
  cases h with
  |cons h1 h2=>
   have ih:=ja h2;have e:∀a b:List Ky,ltK (.tup a) (.tup b)=ql a b:=λa b=>by simp[ltK,ql,aw]
   simp only[toK,toKs,e]at ih⊢;rw[wz,<-h1.eqv];simp only[cE]
   split
   ·rw[ih];simp
   ·rfl
noncomputable def cO{α β:Type}(M:R5)(A:MU)(E:i0->s9->Prop)(f:α->β->Sem (ForInStep β))(Q:β->s9->Prop):List α->β->s9->Prop
 |[],c,s=>Q c s
 |x::xs,c,s=>LR M A (f x c) (λr s'=>match r with|.done c'=>Q c' s'|.yield c'=>cO M A E f Q xs c' s') E s
theorem gf{α β:Type}{M:R5}{f:α->β->Sem (ForInStep β)}{Q:β->s9->Prop}:∀{l:List α} {c:β} {s:s9},cO M A E f Q l c s->LR M A (forIn l c f) Q E s
 |[],c,s,h=>by rw[Sn];exact z4 h
 |x::xs,c,s,h=>by
  rw[Qb];refine gV (Nv h (λr s' j=>?_) λ_ _ z=>z)
  cases r with
  |done c'=>exact z4 j
  |yield c'=>exact gf j
theorem cg{h:Heap}:∀{vs:List i0} {xs:List NM} {as:List Xc},Ul h vs xs as->vs.length=xs.length
 |_,_,_,.nil=>rfl
 |_,_,_,.cons _ r=>by simp[cg r]
theorem jb{α β:Type}{M:R5}{n:Nat}{f:α->Option β×Unit->Sem (ForInStep (Option β×Unit))}{g:Bool->β}{pr:α->i0×i0}{Q:Option β×Unit->s9->Prop}:
 ∀{l:List α} {vs us:List i0} {xs ys:List NM} {as bs:List Xc},l.map pr=vs.zip us->Ul s.heap vs xs as->Ul s.heap us ys bs->Cmpb (.tuple xs) (.tuple ys)->NR xs=F2->NR ys=F2->OQ xs<=n->
  (∀(z:α) (x y:i0) (d e:NM) (as bs:List Xc) (R:ForInStep (Option β×Unit)->s9->Prop),z∈l->pr z=(x,y)->QK s.heap x d as->QK s.heap y e bs->Cmpb d e->d.canLay0=F2->e.canLay0=F2->d.depth<=n->
   R (if Oq d e=F2 then .yield (Y,())else .done (Z (g (ltK (toK d) (toK e))),())) s->LR M A (f z (Y,())) R E s)->
  Q ((cE xs ys).map g,()) s->cO M A E f Q l (Y,()) s
 |[],vs,us,xs,ys,as,bs,e,j,B,F,_,_,_,_,q=>by
  have h1:=cg j;have h2:=cg B;have:vs=[]∨us=[]:=by
   cases vs with
   |nil=>exact .inl rfl
   | cons v vs=>cases us with
     |nil=>exact .inr rfl
     |cons u us=>simp at e
  have e2:cE xs ys=Y:=by
   rcases this with rfl|rfl
   ·cases xs with
    |nil=>simp[cE]
    |cons x xs=>simp at h1
   ·cases ys with
    |nil=>cases xs<;>simp[cE]
    |cons y ys=>simp at h2
  rw[e2]at q;exact q
 |z::l,vs,us,xs,ys,as,bs,e,j,B,F,lx,ly,hd,hf,q=>by
  cases j with
  |nil=>simp at e
  |cons rx j=>
   cases B with
   |nil=>simp at e
   |cons ry B=>
    simp only[LX,QU,Qg]at e;simp only[NR,r0]at lx ly;simp only[OQ]at hd
    cases F with
    |cons G J=>
     simp only[cO];refine hf z _ _ _ _ _ _ _ (by simp) e.1 rx ry G lx.1 ly.1 ∅ ?_
     simp only[cE]at q
     split at q
     ·next h=>rw[if_pos h];exact jb e.2 j B J lx.2 ly.2 ∅ (λz x y d e as bs R L=>hf z x y d e as bs R (by simp[L])) q
     ·next h=>rw[if_neg h];exact q
def GZ(n:Nat):Prop:=∀(prog:Ml) (w:MQ) (A:MU) (s:s9) (a b:i0) (d e:NM) (as bs:List Xc) (E:i0->s9->Prop) (Q:i0->s9->Prop),d.depth<=n->Cmpb d e->QK s.heap a d as->QK s.heap b e bs->d.canLay0=F2->e.canLay0=F2->A.units+n+1<Po->
 Q (.bool (ltK (toK d) (toK e))) s->LR (Mj prog w) A (W9 .Lt a b) Q E s
theorem FU:∀n,GZ n:=by
 intro n
 induction n with
 |zero=>
  intro prog w A s a b d e as bs E Q hd z ra rb ld le Fn q
  cases z with
  |int i j=>
   cases ra;cases rb
   exact wB (by rw[<-iE];exact q)
  |nil ys=>simp[Q0]at hd
  |nil' xs=>simp[Q0]at hd
  |cons _ _=>simp[Q0]at hd
 |succ n ih=>
  intro prog w A s a b d e as bs E Q hd z ra rb ld le Fn q;have tup:∀xs ys,d=.tuple xs->e=.tuple ys->LR (Mj prog w) A (W9 .Lt a b) Q E s:=by
   rintro xs ys rfl rfl
   cases ra with
   |tuple h1 h2 fv G=>
    cases rb with
    |tuple g1 g2 g3 J=>
     rename_i l ol vl nl p ob vb nb;have tl:s.TypeIs (.ref l) "tuple":=⟨_,h1,h2⟩;have tb:s.TypeIs (.ref p) "tuple":=⟨_,g1,g2⟩;refine wpAny_richCompare_same_room tl tb Wh (MB Wh tl F.entry_tuple_lt ?_ (F.args_tuple_lt_2 _ _)) ∅
     unfold NN.«tuple.__lt__»;refine gV ?_;have L:isSubtype (.type "tuple") (.type "tuple")=pure F2:=by rw[OK];kernel_rfl
     wp_walk
     rw[fv]
     wp_walk
     rw[g3];refine z4 ?_;refine z4 ?_;refine gV (gf (jb (n:=n) (g:=λb=>Fin.done (Flow.ret (UT b))) (pr:=id) (List.map_id _) G J z ld le (by simp[Q0]at hd;lia) ?_ ?_))
     ·rintro⟨x,y⟩ x' y' d e as bs R _ hz rx ry z ld le hd r
      cases hz
      dsimp only;refine gV (VT d e _ _ _ _ _ _ rx ry ld le ?_ prog w E _ ?_)
      ·show A.units+1+min d.depth e.depth<Po;lia
      ·by_cases B:Oq d e=F2
       ·rw[if_pos B]at r;rw[B];exact z4 r
       ·rw[if_neg B]at r;have B:Oq d e=N2:=by simpa using B
        rw[B];refine gV (Oc (gV (ih prog w _ s x y d e as bs E _ hd z rx ry ld le ?_ ?_)))
        ·show A.units+1+n+1<Po;lia
        ·exact z4 r
     ·have e1:=ja z
      cases e2:cE xs ys with
      |some b=>rw[e2]at e1;dsimp only at e1;rw[e1]at q;exact z4 ⟨_,rfl,by simp,q⟩
      |none=>
       rw[e2]at e1;dsimp only at e1;rw[e1]at q;have O:=cg G;have U:=cg J;refine z4 ⟨_,rfl,?_,?_⟩
       ·simp[Rk]
       ·simp only[My]at O U;simp only[Rk];rw[O,U];exact q
  cases z with
  |int i j=>
   cases ra;cases rb
   exact wB (by rw[<-iE];exact q)
  |nil ys=>exact tup _ _ rfl rfl
  |nil' xs=>exact tup _ _ rfl rfl
  |cons _ _=>exact tup _ _ rfl rfl
end
end Srt
namespace Srt
variable{n:Nat}
section
variable{prog:Ml}{w:MQ}{A:MU}{E:i0->s9->Prop}{s:s9}
theorem jY{α β:Type}{M:R5}{f:α->Sem β}{g:α->β}:∀{l:List α} {Q:List β->s9->Prop},(∀x∈l,∀R:β->s9->Prop,R (g x) s->LR M A (f x) R E s)->Q (l.map g) s->LR M A (l.mapM f) Q E s
 |[],Q,_,q=>by rw[List.mapM_nil];exact z4 q
 |x::xs,Q,h,q=>by rw[Sv];refine gV (h x (by simp) _ (gV (jY (λy j=>h y (by simp[j])) (z4 q))))
theorem eT{α β:Type}{M:R5}{f:α->Sem β}{g:α->β}{xs:Array α}{Q:Array β->s9->Prop}(h:∀x∈xs.toList,∀R:β->s9->Prop,R (g x) s->LR M A (f x) R E s)(q:Q (xs.map g) s):LR M A (xs.mapM f) Q E s:=by
 rw[Array.mapM_eq_mapM_toList];rw[map_eq_pure_bind];refine gV (jY h (z4 ?_));have:(xs.toList.map g).toArray=xs.map g:=by apply Rx.mp;simp
 rw[this];exact q
theorem n9{a:Xc}{v:i0}{vs:List i0}{o:Obj}(h1:s.heap.get? a=Z o)(h2:o.cls=.type "tuple")(j:o.data=.seq (v::vs).toArray n){Q:Option i0->s9->Prop}(q:Q (Z v) s):LR (Mj prog w) A (firstOfTuple' (.ref a)) Q E s:=by
 unfold firstOfTuple';have ty:s.TypeIs (.ref a) "tuple":=⟨_,h1,h2⟩
 wp_walk
 rw[j];refine z4 ?_;refine z4 ?_;exact z4 q
theorem BY{a:Xc}{o:Obj}{T:i0}(h1:s.heap.get? a=Z o)(h2:o.cls=T){Q:i0->s9->Prop}(q:Q T s):LR (Mj prog w) A (typeOf (.ref a)) Q E s:=by
 wp_walk
 rw[h2];exact q
theorem wD{x y:i0}{d e:NM}{as bs:List Xc}(j:Cmpb d e)(rx:QK s.heap x d as)(ry:QK s.heap y e bs)(ld:d.canLay0=F2)(le:e.canLay0=F2)(hd:d.depth<=n)(z:A.units+n+1<Po){Q:Bool->s9->Prop}(q:Q (ltK (toK d) (toK e)) s):LR (Mj prog w) A (oneLt' N2 x y) Q E s:=by rw[oneLt'_eq];exact gV (FU n prog w A s x y d e as bs E _ hd j rx ry ld le z (trd q))
theorem ng{b:Bool}{x y:i0}{xs ys:List NM}{as bs:List Xc}(hb:b=F2->∀d e,xs.head?=Z d->ys.head?=Z e->(∃i,d=.int i)/\∃i,e=.int i)(F:Cmpb (.tuple xs) (.tuple ys))(rx:QK s.heap x (.tuple xs) as)(ry:QK s.heap y (.tuple ys) bs)(lx:NR xs=F2)(ly:NR ys=F2)(hd:OQ xs<=n)(hu:A.units+n+1<Po){Q:Bool->s9->Prop}(q:Q (ltK (toK (.tuple xs)) (toK (.tuple ys))) s):
 LR (Mj prog w) A (keyLt' (tuples' b) x y) Q E s:=by
 cases rx with
 |tuple h1 h2 h3 G=>
  cases ry with
  |tuple g1 g2 g3 J=>
   refine gV (Vv h1 h3 ?_);refine gV (Vv g1 g3 ?_);refine gV (gf (jb (n:=n) (g:=id) (pr:=Prod.fst) (List.zipIdx_map_fst _ _) G J F lx ly hd ?_ ?_))
   ·rintro⟨⟨x,y⟩,i⟩ x' y' d e as bs R hz hp rx ry F ld le hd r
    cases hp
    dsimp only;refine gV (VT d e _ _ _ _ _ _ rx ry ld le ∅ prog w E _ ?_)
    by_cases B:Oq d e=F2
    ·rw[if_pos B]at r;rw[B];exact z4 r
    ·rw[if_neg B]at r;have B:Oq d e=N2:=by simpa using B
     rw[B];refine gV ?_
     by_cases z:(b&&i==0)=F2
     ·rw[z];simp only[r0,beq_iff_eq]at z;obtain⟨rfl,rfl⟩:=z;have j:=List.mem_zipIdx_iff_getElem?.mp hz;obtain⟨L,O,t1,U,e1,e2⟩:∃(L O:Int) (t1 U:Tok),x=.int L t1/\y=.int O U:=by
       generalize hV:Tp _=vl at G j;generalize hU:Tp _=ul at J j
       cases G with
       |nil=>simp at j
       |cons p1 p2=>
        cases J with
        |nil=>simp at j
        |cons q1 q2=>
         simp at j;obtain⟨⟨L,ei⟩,⟨O,ej⟩⟩:=hb rfl _ _ rfl rfl;subst ei ej
         cases p1;cases q1
         exact⟨_,_,_,_,j.1.symm,j.2.symm⟩
      subst e1 e2
      cases rx;cases ry
      refine oneLt_int ?_;rw[<-iE];exact z4 r
     ·have z:(b&&i==0)=N2:=by simpa using z
      rw[z];exact wD F rx ry ld le hd hu (z4 r)
   ·have e1:=ja F
    cases e2:cE xs ys with
    |some b=>rw[e2]at e1;dsimp only at e1;rw[e1]at q;exact z4 q
    |none=>rw[e2]at e1;dsimp only at e1;rw[e1]at q;have Fn:=cg G;have fv:=cg J;refine z4 ?_;simp only[My]at Fn fv;rw[Fn,fv];exact q
end
end Srt
namespace Srt
structure qo(n:Nat)(ds:List NM):Prop where
 cmp:∀d∈ds,∀e∈ds,Cmpb d e
 lay:∀d∈ds,d.canLay0=F2/\d.depth<=n
 kind:(∀d∈ds,∃i,d=.int i)∨(∀d∈ds,∃i xs,d=.tuple (.int i::xs))∨(∀d∈ds,∃ys xs,d=.tuple (.tuple ys::xs))
noncomputable def cV(h:Heap):i0->Option i0
 |.ref a=>(h.get? a).bind λo=>match o.data with|.seq xs _=>xs[0]?|_=>Y
 |_=>Y
variable{vs:List i0}{h:Heap}{v:i0}
section
variable{prog:Ml}{w:MQ}{A:MU}{E:i0->s9->Prop}{s:s9}
noncomputable def dM(h:Heap)(x:LM):Ky:=toK (Ob h x.1)
def RdL(h:Heap)(vs:List i0)(ds:List NM):Prop:=∀v∈vs,∃d∈ds,∃as,QK h v d as
theorem hJ{arr:Array i0}{T:String}(h0:0<arr.size)(h:∀v∈arr.toList,∀R:i0->s9->Prop,R (.type T) s->LR (Mj prog w) A (typeOf v) R E s){Q:Option i0->s9->Prop}(q:Q (Z (.type T)) s):LR (Mj prog w) A (oneTypeOnly' arr) Q E s:=by
 rw[oneTypeOnly'_eq];refine gV (eT (g:=λ_=>N1 T) h ?_);have e:(Ry (λ_=>N1 T) arr)[0]?=Z (N1 T):=by rw[Array.getElem?_map,MX h0];rfl
 rw[e];dsimp only;have e2:((Ry (λ_=>N1 T) arr).all λx=>x==N1 T)=F2:=by rw[Vw];intro i hi;simp
 rw[e2];exact z4 q
theorem ut{n:Nat}{kd:QL}{ds:List NM}(j:RdL s.heap vs ds)(hs:qo n ds)(h:∀(x y:i0) (d e:NM) (as bs:List Xc) (E:i0->s9->Prop) (Q:Bool->s9->Prop),d∈ds->e∈ds->QK s.heap x d as->QK s.heap y e bs->Q (ltK (toK d) (toK e)) s->LR (Mj prog w) A (keyLt' kd x y) Q E s):
 Cm prog w A s kd (λx=>x.1∈vs) (λx y=>ltK (dM s.heap x) (dM s.heap y)) where
 asym:=λx y=>qm _ _
 neg:=λx y z=>BX _ _ _
 run:=λx y E Q hx B q=>by obtain⟨d,hd,as,ra⟩:=j _ hx;obtain⟨e,he,bs,rb⟩:=j _ B;have e1:=OR (hs.lay d hd).1 ra;have e2:=OR (hs.lay e he).1 rb;unfold dM at q;rw[e1,e2]at q;exact h _ _ d e as bs E Q hd he ra rb q
theorem qp(j:∀v∈vs,∃u,cV h v=Z u):((vs.toArray.map (cV h)).all λx=>x.isSome)=F2:=by rw[Vw];intro i hi;simp at hi;obtain⟨u,z⟩:=j vs[i] (PM hi);simp[z]
theorem wF{x:i0}(hx:x∈(Wi id (vs.toArray.map (cV h))).toList):∃v∈vs,cV h v=Z x:=by simp at hx;exact hx
theorem wG{u:i0}(j:cV h v=Z u):0<(Wi id ((v::vs).toArray.map (cV h))).size:=by rw[<-My];simp[j]
theorem nh{d:NM}{xs:List NM}{as:List Xc}(r:QK h v (.tuple (d::xs)) as):∃a o u us n bs,v=.ref a/\h.get? a=Z o/\o.cls=.type "tuple"/\o.data=.seq (u::us).toArray n/\QK h u d bs:=by
 cases r with
 |@tuple a o vs n xs as h1 h2 j h4=>
  generalize z:vs.toList=vl at h4
  cases h4 with
  |@cons u us _ _ bs _ B p2=>exact⟨_,_,u,us,n,bs,rfl,h1,h2,by rw[j];congr 1;apply Rx.mp;simpa using z,B⟩
theorem FV{n:Nat}{ds:List NM}(U:RdL s.heap (v::vs) ds)(hs:qo n ds)(z:A.units+n+1<Po):
 ∃kd,(∀(E:i0->s9->Prop) (Q:QL->s9->Prop),Q kd s->LR (Mj prog w) A (keyKind' (v::vs).toArray) Q E s)/\Cm prog w A s kd (λx=>x.1∈v::vs) (λx y=>ltK (dM s.heap x) (dM s.heap y)):=by
 rcases hs.kind with G|G|G
 ·refine⟨oneType',λE Q q=>?_,ut U hs λx y d e as bs E Q hd he ra rb q=>?_⟩
  ·have hint:∀u∈v::vs,∃i t,u=.int i t:=fun u z=>by
    obtain⟨d,hd,as,ra⟩:=U u z;obtain⟨i,rfl⟩:=G d hd
    cases ra
    exact⟨_,_,rfl⟩
   rw[Wa];refine gV (eT (g:=λ_=>(Y:Option i0)) (λu z R r=>?_) ?_)
   ·obtain⟨i,t,rfl⟩:=hint u (by simpa using z)
    rw[firstOfTuple'_int];exact z4 r
   ·have e1:((Ry (fun _=>(Y:Option i0)) (v::vs).toArray).all fun x=>x.isSome)=N2:=by
     simp
    rw[e1];have e2:((Ry (λ_=>(Y:Option i0)) (v::vs).toArray)[0]?.bind id).isSome=N2:=by simp
    simp only[e2,NS,if_false];refine gV (hJ (T:="int") (by simp) (λu z R r=>?_) ?_)
    ·obtain⟨i,t,rfl⟩:=hint u (by simpa using z)
     exact z4 r
    ·exact z4 q
  ·obtain⟨i,rfl⟩:=G d hd;obtain⟨j,rfl⟩:=G e he
   cases ra;cases rb
   rw[keyLt'_oneType];exact oneLt_int (by rw[<-iE];exact q)
 ·refine⟨tuples' F2,λE Q q=>?_,ut U hs λx y d e as bs E Q hd he ra rb q=>?_⟩
  ·have hf:∀u∈v::vs,∃a o i t us n,u=.ref a/\s.heap.get? a=Z o/\o.cls=.type "tuple"/\o.data=.seq (.int i t::us).toArray n:=fun u z=>by
    obtain⟨d,hd,as,ra⟩:=U u z;obtain⟨i,xs,rfl⟩:=G d hd;obtain⟨a,o,u1,us,n,bs,e1,e2,J,F,L⟩:=nh ra
    cases L
    exact⟨a,o,_,_,us,n,e1,e2,J,F⟩
   have B:∀u∈v::vs,∃i t,cV s.heap u=Z (.int i t):=λu z=>by obtain⟨a,o,i,t,us,n,rfl,e2,J,F⟩:=hf u z;exact⟨i,t,by simp[cV,e2,F]⟩
   rw[Wa];refine gV (eT (g:=cV s.heap) (λu z R r=>?_) ?_)
   ·obtain⟨a,o,i,t,us,n,rfl,e2,J,F⟩:=hf u (by simpa using z)
    refine n9 e2 J F ?_;simpa[cV,e2,F]using r
   ·rw[qp (λu z=>let⟨i,t,e⟩:=B u z; ⟨_,e⟩)];refine gV (Oc ?_);obtain⟨fv,t0,e0⟩:=B v (by simp)
    refine gV (hJ (T:="int") (wG e0) (λu z R r=>?_) ?_)
    ·obtain⟨u',O,e⟩:=wF z;obtain⟨i,t,e'⟩:=B u' O;rw[e']at e;cases e;exact z4 r
    ·exact z4 q
  ·obtain⟨i,xs,rfl⟩:=G d hd;obtain⟨j,ys,rfl⟩:=G e he;have l1:=hs.lay _ hd;have l2:=hs.lay _ he;refine ng (n:=n) (λ_ d e hd he=>?_) (hs.cmp _ hd _ he) ra rb (by simpa[Rf]using l1.1) (by simpa[Rf]using l2.1) (by have:=l1.2;simp[Q0]at this;lia) z q
   simp at hd he;subst hd he;exact⟨⟨_,rfl⟩,_,rfl⟩
 ·refine⟨tuples' N2,λE Q q=>?_,ut U hs λx y d e as bs E Q hd he ra rb q=>?_⟩
  ·have hf:∀u∈v::vs,∃a o b ob us n,u=.ref a/\s.heap.get? a=Z o/\o.cls=.type "tuple"/\o.data=.seq (.ref b::us).toArray n/\s.heap.get? b=Z ob/\ob.cls=.type "tuple":=fun u z=>by
    obtain⟨d,hd,as,ra⟩:=U u z;obtain⟨ys,xs,rfl⟩:=G d hd;obtain⟨a,o,u1,us,n,bs,e1,e2,J,F,L⟩:=nh ra
    cases L with
    |tuple h1 h2 h3 h4=>exact⟨a,o,_,_,us,n,e1,e2,J,F,h1,h2⟩
   have B:∀u∈v::vs,∃b ob,cV s.heap u=Z (.ref b)/\s.heap.get? b=Z ob/\ob.cls=.type "tuple":=λu z=>by obtain⟨a,o,b,ob,us,n,rfl,e2,J,F,L,Fn⟩:=hf u z;exact⟨b,ob,by simp[cV,e2,F],L,Fn⟩
   rw[Wa];refine gV (eT (g:=cV s.heap) (λu z R r=>?_) ?_)
   ·obtain⟨a,o,b,ob,us,n,rfl,e2,J,F,L,Fn⟩:=hf u (by simpa using z)
    refine n9 e2 J F ?_;simpa[cV,e2,F]using r
   ·rw[qp (λu z=>let⟨i,t,e,_⟩:=B u z; ⟨_,e⟩)];refine gV (Oc ?_);obtain⟨fv,t0,e0,_⟩:=B v (by simp)
    refine gV (hJ (T:="tuple") (wG e0) (λu z R r=>?_) ?_)
    ·obtain⟨u',O,e⟩:=wF z;obtain⟨b,ob,e',L,Fn⟩:=B u' O;rw[e']at e;cases e;exact BY L Fn r
    ·exact z4 q
  ·obtain⟨zs,xs,rfl⟩:=G d hd;obtain⟨zs',ys,rfl⟩:=G e he;have l1:=hs.lay _ hd;have l2:=hs.lay _ he;exact ng (n:=n) (λh=>by cases h) (hs.cmp _ hd _ he) ra rb (by simpa[Rf]using l1.1) (by simpa[Rf]using l2.1) (by have:=l1.2;simp[Q0]at this;lia) z q
end
end Srt
namespace Srt
inductive Pl:NM->Prop where
 |int (i:Int):Pl (.int i)
 |tup (xs:List NM):(∀x∈xs,Pl x)->Pl (.tuple xs)
theorem be{h h':Heap}(k:∀b o,h.get? b=Z o->o.cls=.type "tuple"->h'.get? b=Z o){d:NM}(p:Pl d):∀{v:i0} {as:List Xc},QK h v d as->QK h' v d as:=by
 induction p with
 |int i=>intro v as r;cases r;exact .int _ _
 |tup xs hx ih=>
  intro v as r
  cases r with
  |tuple h1 h2 z B=>
   refine .tuple (k _ _ h1 h2) h2 z ?_;have g:∀(xs:List NM),(∀x∈xs,∀{v:i0} {as:List Xc},QK h v x as->QK h' v x as)->∀(vs:List i0) (as:List Xc),Ul h vs xs as->Ul h' vs xs as:=by
    intro xs
    induction xs with
    |nil=>intro _ vs as r;cases r;exact .nil
    |cons x xs ihx=>
     intro j vs as r
     cases r with
     |cons F p2=>exact .cons (j x (by simp) F) (ihx (λy G=>j y (by simp[G])) _ _ p2)
   exact g xs ih _ _ B
section
variable{prog:Ml}{w:MQ}{A:MU}{E:i0->s9->Prop}{s:s9}
theorem zy{α:Type}{R:α->α->Prop}:∀{l:List α},l.length<2->l.Pairwise R
 |[],_=>.nil
 |[_],_=>List.pairwise_singleton _ _
theorem BZ{α:Type}:∀{l:List α},2<=l.length->∃x r,l=x::r
 |x::r,_=>⟨x,r,rfl⟩
theorem C0{cap:Nat}(S:fI cap){m:Nat}{a:Xc}{vs:List i0}{n:Nat}{ds:List NM}(ha:s.heap.get? a=Z (V7 "list" vs.toArray n))(Fn:RdL s.heap vs ds)(hs:qo m ds)(hp:∀d∈ds,Pl d)(hl:vs.length<=LK)(Jq:vs.length<=cap)(hu:A.units+m+1<Po){Q:PySem.Fin->s9->Prop}(q:∀(h':Heap) (out:List i0) (n':Nat),(∀b o,b≠a->s.heap.get? b=Z o->h'.get? b=Z o)->h'.get? a=Z (V7 "list" out.toArray n')->out.Perm vs->out.Pairwise (λx y=>ltK (toK (Ob s.heap y)) (toK (Ob s.heap x))=N2)->Q (.done (.ret .none)) {s with heap:=h'}):
 LR (Mj prog w) A (NN.«list.sort» ⟨[.ref a],[]⟩) Q E s:=by
 rw[list_sort_plain];refine gV (Vv ha rfl ?_);refine gV (PD ha rfl ?_ (by simpa using hl) (by simp))
 have g1:=OS ha (λ_=>#[]);generalize Jr:s.heap.update a (Om λ_=>#[])=h1 at g1;generalize (if((#[]:Array i0).size==vs.toArray.size)=F2 then n else n+1)=n1 at g1
 refine gV (Wb g1 rfl ?_);refine gV (R8 ?_ (by simpa using hl))
 refine gV (RA ?_ (by simp))
 refine Na ?_;dsimp only;generalize O:({heap:=(h1.push {cls:=N1 "tuple",data:=Qh vs.toArray.toList.toArray}).push {cls:=N1 "list",data:=Qh [].toArray},gens:=s.gens,drawn:=s.drawn,toks:=s.toks,os:=s.os}:s9)=s3;have g3:s3.heap.get? a=Z (V7 "list" #[] n1):=by rw[<-O];exact q7 _ (q7 _ g1)
 have keep:∀b o,b≠a->s.heap.get? b=Z o->s3.heap.get? b=Z o:=λb o G J=>by rw[<-O,<-Jr];exact q7 _ (q7 _ (by rw[Nb _ _ _ _ G];exact J))
 have keepT:∀b o,s.heap.get? b=Z o->o.cls=.type "tuple"->s3.heap.get? b=Z o:=λb o G hc=>keep b o (λz=>by rw[z,ha]at G;cases G;simp at hc) G
 have Js:RdL s3.heap vs ds:=λv hv=>by obtain⟨d,hd,as,r⟩:=Fn v hv;exact⟨d,hd,as,be keepT (hp d hd) r⟩
 have same:∀v∈vs,Ob s3.heap v=Ob s.heap v:=λv hv=>by obtain⟨d,hd,as,r⟩:=Fn v hv;rw[OR (hs.lay d hd).1 r,OR (hs.lay d hd).1 (be keepT (hp d hd) r)]
 have q:∀(h':Heap) (out:List i0) (n':Nat),(∀b o,b≠a->s.heap.get? b=Z o->h'.get? b=Z o)->h'.get? a=Z (V7 "list" out.toArray n')->out.Perm vs->out.Pairwise (λx y=>ltK (toK (Ob s.heap y)) (toK (Ob s.heap x))=N2)->Q (.done (.ret .none)) {s3 with heap:=h'}:=by rw[<-O];exact q
 have Ju:∀A':MU,A'.units=A.units->True:=λ_ _=>trivial;clear O
 let Good:Ng->Prop:=λst'=>Ot st'=Y/\(MK st').toList.Perm (vs.zip vs)/\(MK st').toList.Pairwise (λx y=>ltK (dM s3.heap y) (dM s3.heap x)=N2)
 by_cases F:vs.toArray.size<2
 ·rw[if_pos F,if_pos F];refine gV (z4 ?_);have B:vs.length<2:=by simpa using F
  have run:LR (Mj prog w) A ((pure ():StateT Ng Sem Unit).run (Ru general' (vs.toArray.zip vs.toArray) #[] 7 Y)) (λr s'=>s'=s3/\Good r.2) E s3:=by
   refine z4 ⟨rfl,rfl,?_,?_⟩
   ·show(vs.toArray.zip vs.toArray).toList.Perm _;simp
   ·show List.Pairwise _ (vs.toArray.zip vs.toArray).toList;exact zy (by simpa using B)
  refine gV (Nv (Q:=λr s'=>s'=s3/\Good r.2) run (λr s' Fn=>?_) (λ_ _ z=>z));obtain⟨rfl,L,j,U⟩:=Fn;obtain⟨u,st'⟩:=r;refine gV (Wb g3 rfl ?_);refine gV (PD g3 rfl ?_ (by simp) (by simp only[Array.size_map];have:=j.length_eq;simp at this;rw[this];lia))
  dsimp only at L;rw[L];simp only[bne_self_eq_false,NS,if_false];refine z4 ?_;have gq:=OS g3 (λ_=>Ry (λx=>x.snd) (MK st'));have eo:Ry (λx=>x.snd) (MK st')=((MK st').toList.map λx=>x.snd).toArray:=by apply Rx.mp;simp
  refine q _ ((MK st').toList.map λx=>x.snd) _ (λb o G J=>?_) (by rw[gq,eo]) ?_ ?_
  ·rw[Nb _ _ _ _ G];exact keep b o G J
  ·have fv:=j.map (λx:LM=>x.snd);rw[VU (by simp)]at fv
   exact fv
  ·rw[Nu];refine U.imp_of_mem λ{x y} hx hy hxy=>?_;have mx:=Sd (j.mem_iff.mp hx);have my:=Sd (j.mem_iff.mp hy);unfold dM at hxy;rw[mx.1,my.1,same y.2 (by rw[<-my.1];exact my.2),same x.2 (by rw[<-mx.1];exact mx.2)]at hxy
   exact hxy
 ·rw[if_neg F,if_neg F];have B:2<=vs.length:=by simpa using F
  obtain⟨v0,Jt,Jm⟩:=BZ B;obtain⟨kd,Jn,Jo⟩:=FV (prog:=prog) (w:=w) (A:=A) (v:=v0) (vs:=Jt) (by rw[<-Jm];exact Js) hs hu
  rw[<-Jm]at Jn Jo;refine gV (Jn E _ ?_);have run:LR (Mj prog w) A (sortRuns'.run (Ru kd (vs.toArray.zip vs.toArray) #[] 7 Y)) (λr s'=>s'=s3/\Good r.2) E s3:=by
   have ez:(MK (Ru kd (vs.toArray.zip vs.toArray) #[] 7 Y)).toList=vs.zip vs:=by show(vs.toArray.zip vs.toArray).toList=_;simp
   have h9:wpS (Mj prog w) A E s3 sortRuns' (λ_ st'=>Good st') (Ru kd (vs.toArray.zip vs.toArray) #[] 7 Y):=by
    have Jp:(MK (Ru kd (vs.toArray.zip vs.toArray) #[] 7 Y)).size=vs.length:=by rw[<-My,ez];simp
    refine S _ _ _ _ _ _ _ _ Jo (Ru kd (vs.toArray.zip vs.toArray) #[] 7 Y) _ rfl rfl rfl (λx hx=>?_) (by rw[Jp];exact B) (by rw[Jp];exact Jq) λst' p1 p2 p3=>⟨p3,by rw[ez]at p1;exact p1,p2⟩
    rw[ez]at hx;exact(Sd hx).2
   exact h9
  refine gV (Nv (Q:=λr s'=>s'=s3/\Good r.2) run (λr s' Fn=>?_) (λ_ _ z=>z));obtain⟨rfl,L,j,U⟩:=Fn;obtain⟨u,st'⟩:=r;refine gV (Wb g3 rfl ?_);refine gV (PD g3 rfl ?_ (by simp) (by simp only[Array.size_map];have:=j.length_eq;simp at this;rw[this];lia))
  dsimp only at L;rw[L];simp only[bne_self_eq_false,NS,if_false];refine z4 ?_;have gq:=OS g3 (λ_=>Ry (λx=>x.snd) (MK st'));have eo:Ry (λx=>x.snd) (MK st')=((MK st').toList.map λx=>x.snd).toArray:=by apply Rx.mp;simp
  refine q _ ((MK st').toList.map λx=>x.snd) _ (λb o G J=>?_) (by rw[gq,eo]) ?_ ?_
  ·rw[Nb _ _ _ _ G];exact keep b o G J
  ·have fv:=j.map (λx:LM=>x.snd);rw[VU (by simp)]at fv
   exact fv
  ·rw[Nu];refine U.imp_of_mem λ{x y} hx hy hxy=>?_;have mx:=Sd (j.mem_iff.mp hx);have my:=Sd (j.mem_iff.mp hy);unfold dM at hxy;rw[mx.1,my.1,same y.2 (by rw[<-my.1];exact my.2),same x.2 (by rw[<-mx.1];exact mx.2)]at hxy
   exact hxy
theorem uu(u:i0):VQ "sorted" ⟨[u],[]⟩=pure ():=by kernel_rfl
theorem ni{cap:Nat}(S:fI cap){m:Nat}{u:i0}{ds:List NM}{C:Heap->List i0->Prop}{Q:i0->s9->Prop}(hu:A.units+m+3<Po)(hs:qo m ds)(F:∀d∈ds,Pl d)(G:∀(E:i0->s9->Prop) (R:List i0->s9->Prop),(∀(h':Heap) (vs':List i0) (t':Nat),C h' vs'->RdL h' vs' ds->vs'.length<=LK/\vs'.length<=cap->s.toks<=t'->R vs' {s with heap:=h',toks:=t'})->LR (Mj prog w) A.in1 (collect u) R E s)(q:∀(h1 h2:Heap) (vs out:List i0) (n' t':Nat),C h1 vs->(∀b o,h1.get? b=Z o->h2.get? b=Z o)->h2.get? h1.objs.size=Z (V7 "list" out.toArray n')->out.Perm vs->out.Pairwise (λx y=>ltK (toK (Ob h2 y)) (toK (Ob h2 x))=N2)->RdL h2 out ds->vs.length<=LK->s.toks<=t'->Q (.ref h1.objs.size) {s with heap:=h2,toks:=t'}):
 LR (Mj prog w) A (call (.builtin "sorted") [u]) Q E s:=by
 refine Ts (RF plain_sorted entry_sorted (OI (uu u) ?_));unfold Builtin.sorted;refine gV (OI (a:=()) (by kernel_rfl) ?_)
 refine gV (G _ _ λh1 vs t' hC L J ht=>?_);obtain⟨J,O⟩:=J;refine gV (RA ?_ J);refine gV (Na ?_);have U:RdL (h1.push {cls:=N1 "list",data:=Qh vs.toArray}) vs ds:=λv B=>by obtain⟨d,hd,as,r⟩:=L v B;exact⟨d,hd,as,be (λb o z _=>q7 _ z) (F d hd) r⟩
 have ha:(h1.push {cls:=N1 "list",data:=Qh vs.toArray}).get? h1.objs.size=Z (V7 "list" vs.toArray 0):=LF _ rfl;refine MB slot_list_sort (T:="list") ⟨_,ha,rfl⟩ entry_list_sort ?_ (args_list_sort _);refine C0 S (m:=m) ha U hs F J O (by show A.units+1+1+m+1<Po;lia) λh2 out n' keep g2 j Fn=>⟨_,rfl,z4 ?_⟩
 have old:∀b o,h1.get? b=Z o->h2.get? b=Z o:=λb o z=>keep b o (Mt (LD z)) (q7 _ z);have fv:RdL h2 vs ds:=λv B=>by obtain⟨d,hd,as,r⟩:=L v B;exact⟨d,hd,as,be (λb o z _=>old b o z) (F d hd) r⟩
 refine q h1 h2 vs out n' t' hC old g2 j ?_ (λv B=>fv v (j.mem_iff.mp B)) J ht;have same:∀v∈vs,Ob (h1.push {cls:=N1 "list",data:=Qh vs.toArray}) v=Ob h2 v:=λv B=>by obtain⟨d,hd,as,r⟩:=L v B;rw[OR (hs.lay d hd).1 (be (λb o z _=>old b o z) (F d hd) r),OR (hs.lay d hd).1 (be (λb o z _=>q7 _ z) (F d hd) r)]
 refine Fn.imp_of_mem λ{x y} hx hy hxy=>?_;rw[same y (j.mem_iff.mp hy),same x (j.mem_iff.mp hx)]at hxy;exact hxy
end
end Srt
namespace It
noncomputable def iO(f0:i0)(b:Bool)(d:Xc)(i n ep:Nat)(ok ov:i0):Obj:={cls:=.type "dict_itemiterator",data:=.fields #[f0,.bool b,.ref d,.int i 0,.int n 0,.int ep 0,ok,ov]}
theorem slot_next:Slot "dict_itemiterator" "__next__" "dict_itemiterator.__next__":=.of (owner:="dict_itemiterator") (n:="__next__") (by rw[QP,Pc];kernel_rfl) (by decide +kernel) (by decide +kernel) (by decide +kernel) (.inl (by decide +kernel)) (by rw[OK];kernel_rfl)
theorem bu:Vr table "dict_itemiterator.__next__"=Z NN.«dict_itemiterator.__next__»:=Rt (by kernel_rfl)
theorem bI(a:i0):V5 "dict_itemiterator.__next__" ⟨[a],[]⟩:=by unfold V5;kernel_rfl
theorem jZ:mroOf (.type "dict_itemiterator")=pure [.type "dict_itemiterator",.type "object"]:=by rw[mroOf_type];kernel_rfl
variable{a it d:Xc}{b:Bool}{i ep:Nat}{ov:i0}{oa:Obj}
section
variable{prog:Ml}{w:MQ}{A:MU}{E:i0->s9->Prop}{s:s9}
theorem zz{M:R5}{Q:Option Obj->s9->Prop}(q:Q (s.heap.get? a) s):LR M A (loadIfAlive a) Q E s:=λΓ p hp=>by show Sem.wp M Γ (Sem.loadIfAlive a Sem.pure) _ _ p s;rw[Sem.wp_loadIfAlive];exact q
theorem cW(ty:s.TypeIs (.ref it) "dict_itemiterator"){types:List String}{Q:Bool->s9->Prop}(q:Q (types.any λt=>[N1 "dict_itemiterator",N1 "object"].contains (N1 t)) s):LR (model prog w) A (Pa (.ref it) types) Q E s:=by
 have hm:=jZ;unfold Pa
 wp_walk
 exact q
theorem wH{n:Nat}{ok:i0}{Q:Bool->s9->Prop}(hi:s.heap.get? it=Z (iO (Oz a) b d i n ep ok ov))(j:s.heap.get? a=Z oa)(q:∀h',h'.get? it=Z (iO (Oz a) F2 d i n ep ok ov)->NH it s.heap h'->Q N2 {s with heap:=h'}):LR (model prog w) A (OX (.ref it)) Q E s:=by
 unfold OX;refine gV (MR hi rfl (x:=Oz a) rfl ?_);refine gV (zz ?_);rw[show((a:Int)).toNat=a from LO a,j];dsimp only;rw[if_neg (by simp)]
 refine gV (MR hi rfl (x:=.bool b) rfl ?_)
 cases b with
 |true=>
  rw[if_neg (by decide)]
  exact z4 (q s.heap hi (Heap.SameBut.refl ..))
 |false=>
  rw[if_pos (by decide)]
  refine gV (Ms hi (by simp) λh' e' s'=>?_)
  exact z4 (q h' e' s')
theorem wJ{n:Nat}{ok k v:i0}{Q:i0->s9->Prop}(hi:s.heap.get? it=Z (iO (Oz a) b d i n ep ok ov))(z:s.heap.get? a=Z oa)(q:∀h',h'.get? it=Z (iO (Oz a) F2 d i n ep ok ov)->h'.get? s.heap.objs.size=Z {cls:=.type "tuple",data:=.seq #[k,v]}->(∀b o,b≠it->s.heap.get? b=Z o->h'.get? b=Z o)->Q (.ref s.heap.objs.size) {s with heap:=h'}):LR (model prog w) A (Ow (.ref it) 6 k v) Q E s:=by
 unfold Ow;refine gV (R8 ?_ (by size_fits))
 have j:=LD hi;refine gV (wH (a:=a) (oa:=oa) (q7 _ hi) (q7 _ z) λh' e' s'=>?_);dsimp only;rw[if_neg (by simp)]
 refine z4 (q h' e' ?_ λb o B e=>?_)
 ·exact s'.extBut _ _ (Ny j) (LF _ rfl)
 ·exact s'.extBut _ _ B (q7 _ e)
theorem C2{ok cd:i0}{dd:Option Xc}{sl:Array (Option i0)}{es:Array Nq}{e:Nq}{Q:Option i0->s9->Prop}(hi:s.heap.get? it=Z (iO (Oz a) b d i es.size ep ok ov))(B:a≠it)(L:s.heap.get? a=Z oa)(hd:s.heap.get? d=Z {cls:=cd,dict:=dd,data:=.dict es ep,slots:=sl})(he:es[i]?=Z e)(q:∀h',h'.get? it=Z (iO (Oz a) F2 d (i+1) es.size ep ok ov)->h'.get? s.heap.objs.size=Z {cls:=.type "tuple",data:=.seq #[e.key,e.val]}->(∀b o,b≠it->s.heap.get? b=Z o->h'.get? b=Z o)->Q (Z (.ref s.heap.objs.size)) {s with heap:=h'}):LR (model prog w) A (OB (.ref it)) Q E s:=by
 have ty:s.TypeIs (.ref it) "dict_itemiterator":=⟨_,hi,rfl⟩;unfold OB;refine gV (Ol (Mw (name:=Mu "__next__") ty slot_next (MB slot_next ty bu ?_ (bI _))));unfold NN.«dict_itemiterator.__next__»;have hm:=jZ
 wp_walk
 dsimp only;rw[if_neg (by simp)]
 wp_walk
 simp only[LO,he];refine gV (Nv (Q:=λn s'=>n=2/\s'=s) ?_ (λn s' hs=>?_) λ_ _ z=>z)
 ·wp_walk
  exact⟨by kernel_rfl,rfl⟩
 obtain⟨rfl,rfl⟩:=hs;refine gV (cW ty ?_);refine gV (Ms hi (by simp) λh1 e1 s1=>?_)
 refine gV (Na ?_);have j:SW {s' with heap:=h1} (.ref it) "dict_itemiterator":=⟨_,e1,rfl⟩
 refine gV (cW j ?_);rw[if_neg (by decide +kernel)]at e1
 have e1:h1.get? it=Z (iO (Oz a) b d (i+1) es.size ep ok ov):=e1;have hsz:h1.objs.size=s'.heap.objs.size:=s1.1;have F:h1.get? a=Z oa:=s1.extBut a oa B L;refine Qe (by decide +kernel) ?_
 refine gV (cW j ?_);refine Qe (by decide +kernel) ?_
 refine wJ (s:={s' with heap:=h1}) e1 F λh2 e2 G O=>?_
 refine z4 ⟨_,rfl,z4 ?_⟩;dsimp only at G⊢;rw[hsz]at G⊢;exact q h2 e2 G λb o J e=>O b o J (s1.extBut b o J e)
theorem nx_end{f0 ok cd:i0}{dd:Option Xc}{sl:Array (Option i0)}{es:Array Nq}{Q:Option i0->s9->Prop}(j:A.handled=Y)(hi:s.heap.get? it=Z (iO f0 b d es.size es.size ep ok ov))(hd:s.heap.get? d=Z {cls:=cd,dict:=dd,data:=.dict es ep,slots:=sl})(q:∀h',(∀b o,b≠it->s.heap.get? b=Z o->h'.get? b=Z o)->Q Y {s with heap:=h'}):LR (model prog w) A (OB (.ref it)) Q E s:=by
 have ty:s.TypeIs (.ref it) "dict_itemiterator":=⟨_,hi,rfl⟩;unfold OB;refine gV (Ol (Mw (name:=Mu "__next__") ty slot_next (MB slot_next ty bu ?_ (bI _))));unfold NN.«dict_itemiterator.__next__»;have hm:=jZ
 wp_walk
 dsimp only;rw[if_neg (by simp)]
 wp_walk
 have he:es[es.size]?=Y:=Q3 (LW _);simp only[LO,he];refine gV (Nv (Q:=λn s'=>n=2/\s'=s) ?_ (λn s' hs=>?_) λ_ _ z=>z)
 ·wp_walk
  exact⟨by kernel_rfl,rfl⟩
 obtain⟨rfl,rfl⟩:=hs;refine gV (Ms hi (by simp) λh1 e1 s1=>?_)
 refine gV (m:=V3 (.type "StopIteration") []) ?_;simp only[V3,Vn];refine gV (Nf ?_ (by size_fits))
 refine gV (m:=P9 _ _) (OI (a:=NZ) (by first|rfl|(simp only[P9];rfl)) (Nf ?_ (by size_fits)))
 simp only[Wx];refine gV (SU ?_)
 first|rw[show A.in1.handled=Y from j]|rw[j]
 refine gV (z4 (Uh ?_));exact gV (P0 (T:="StopIteration") (b:=F2) ⟨_,LF _ rfl,rfl⟩ R9 (z4 (q _ λb o B e=>q7 _ (q7 _ (s1.extBut b o B e)))))
end
end It
namespace It
variable{it d:Xc}{ep:Nat}
section
variable{prog:Ml}{w:MQ}{A:MU}{E:i0->s9->Prop}{s:s9}
theorem wK{i n:Nat}{k v:i0}{Q:i0->s9->Prop}(hi:s.heap.get? it=Z (iO .none N2 d i n ep .none .none))(q:∀h',h'.get? it=Z (iO (Oz s.heap.objs.size) N2 d i n ep k v)->h'.get? s.heap.objs.size=Z {cls:=.type "tuple",data:=.seq #[k,v]}->(∀b o,b≠it->s.heap.get? b=Z o->h'.get? b=Z o)->Q (.ref s.heap.objs.size) {s with heap:=h'}):LR (model prog w) A (Ow (.ref it) 6 k v) Q E s:=by
 unfold Ow;refine gV (R8 ?_ (by size_fits))
 have B:=LD hi;have j:=q7 ({cls:=.type "tuple",data:=.seq [k,v].toArray}) hi;unfold OX;refine gV (gV (MR j rfl (x:=.none) rfl (z4 ?_)));dsimp only;rw[if_pos rfl];refine gV (MR j rfl (x:=.none) rfl ?_);refine gV (MR j rfl (x:=.none) rfl ?_);refine gV (Ms j (by simp) λh1 e1 s1=>?_)
 refine gV (Ms e1 (by simp) λh2 e2 s2=>?_)
 refine gV (Ms e2 (by simp) λL G s3=>?_)
 refine gV (Ms G (by simp) λF J s4=>?_)
 refine gV (SJ ?_);have kp:∀b o,b≠it->(s.heap.push {cls:=.type "tuple",data:=.seq [k,v].toArray}).get? b=Z o->F.get? b=Z o:=λb o z e=>s4.extBut b o z (s3.extBut b o z (s2.extBut b o z (s1.extBut b o z e)));refine z4 (q F J (kp _ _ (Ny B) (LF _ rfl)) λb o z e=>kp b o z (q7 _ e))
theorem C3{i:Nat}{cd:i0}{dd:Option Xc}{sl:Array (Option i0)}{es:Array Nq}{e:Nq}{Q:Option i0->s9->Prop}(hi:s.heap.get? it=Z (iO .none N2 d i es.size ep .none .none))(hd:s.heap.get? d=Z {cls:=cd,dict:=dd,data:=.dict es ep,slots:=sl})(he:es[i]?=Z e)(q:∀h',h'.get? it=Z (iO (Oz s.heap.objs.size) N2 d (i+1) es.size ep e.key e.val)->h'.get? s.heap.objs.size=Z {cls:=.type "tuple",data:=.seq #[e.key,e.val]}->(∀b o,b≠it->s.heap.get? b=Z o->h'.get? b=Z o)->Q (Z (.ref s.heap.objs.size)) {s with heap:=h'}):LR (model prog w) A (OB (.ref it)) Q E s:=by
 have ty:s.TypeIs (.ref it) "dict_itemiterator":=⟨_,hi,rfl⟩;unfold OB;refine gV (Ol (Mw (name:=Mu "__next__") ty slot_next (MB slot_next ty bu ?_ (bI _))));unfold NN.«dict_itemiterator.__next__»;have hm:=jZ
 wp_walk
 dsimp only;rw[if_neg (by simp)]
 wp_walk
 simp only[LO,he];refine gV (Nv (Q:=λn s'=>n=2/\s'=s) ?_ (λn s' hs=>?_) λ_ _ z=>z)
 ·wp_walk
  exact⟨by kernel_rfl,rfl⟩
 obtain⟨rfl,rfl⟩:=hs;refine gV (cW ty ?_);refine gV (Ms hi (by simp) λh1 e1 s1=>?_)
 refine gV (Na ?_);have j:SW {s' with heap:=h1} (.ref it) "dict_itemiterator":=⟨_,e1,rfl⟩
 refine gV (cW j ?_);rw[if_neg (by decide +kernel)]at e1
 have e1:h1.get? it=Z (iO .none N2 d (i+1) es.size ep .none .none):=e1;have hsz:h1.objs.size=s'.heap.objs.size:=s1.1;refine Qe (by decide +kernel) ?_
 refine gV (cW j ?_);refine Qe (by decide +kernel) ?_
 refine wK (s:={s' with heap:=h1}) e1 λh2 e2 B G=>?_
 refine z4 ⟨_,rfl,z4 ?_⟩;dsimp only at e2 B⊢;rw[hsz]at e2 B⊢;exact q h2 e2 B λb o F e=>G b o F (s1.extBut b o F e)
structure H0(h0:Heap)(s:s9)(it d:Xc)(es:Array Nq)(ep i:Nat)(acc:Array i0):Prop where
 dict:∃cd dd sl,s.heap.get? d=Z {cls:=cd,dict:=dd,data:=.dict es ep,slots:=sl}
 iter:(i=0/\s.heap.get? it=Z (iO .none N2 d 0 es.size ep .none .none))∨(1<=i/\∃(a:Xc) (b:Bool) (ok ov:i0) (oa:Obj),s.heap.get? it=Z (iO (Oz a) b d i es.size ep ok ov)/\a≠it/\s.heap.get? a=Z oa/\oa.cls=.type "tuple")
 size:acc.size=i
 nd:acc.toList.Nodup
 item:∀j,j<i->∃t e,acc[j]?=Z (.ref t)/\es[j]?=Z e/\s.heap.get? t=Z {cls:=.type "tuple",data:=.seq #[e.key,e.val]}/\h0.get? t=Y
theorem C4(hn:A.handled=Y){S:Xc}{es:Array Nq}{res:i0}{R:VF->s9->Prop}(G:S≠it)(Jp:S≠d)(Jq:it≠d)(hz:es.size<=LK)(h0:Heap)(Jt:S<h0.objs.size->True):
 ∀(k i:Nat) (s:s9) (acc:Array i0) (c:Nat),es.size-i=k->i<=es.size->H0 h0 s it d es ep i acc->s.heap.get? S=Z {cls:=.type "list",data:=.seq acc c}->
  (∀b o,b≠it->b≠S->h0.get? b=Z o->s.heap.get? b=Z o)->
  (∀(h':Heap) (acc':Array i0) (c':Nat),(∀b o,b≠it->b≠S->h0.get? b=Z o->h'.get? b=Z o)->h'.get? S=Z {cls:=.type "list",data:=.seq acc' c'}->acc'.size=es.size->acc'.toList.Nodup->(∀j,j<es.size->∃t e,acc'[j]?=Z (.ref t)/\es[j]?=Z e/\h'.get? t=Z {cls:=.type "tuple",data:=.seq #[e.key,e.val]}/\h0.get? t=Y)->R (.ok (.ret res)) {s with heap:=h'})->
  Pb (model prog w) A (.builtin "list.extend.loop" ⟨[.ref S,.ref it,res],[]⟩) R s:=by
 intro k
 induction k with
 |zero=>
  intro i s acc c hk hi H O kp q;have J:i=es.size:=∅
  obtain⟨cd,dd,sl,hd⟩:=H.dict;refine Pm UD ?_;unfold NN.«list.extend.loop»;dsimp only;refine gV ?_;have key:∀(f0:i0) (b:Bool) (ok ov:i0),s.heap.get? it=Z (iO f0 b d es.size es.size ep ok ov)->LR (model prog w) (A.under (Vx "list.extend.loop" {pos:=[MA S,MA it,res]})) (OB (.ref it)) (λa s'=>a=Y/\∃h',(∀b o,b≠it->s.heap.get? b=Z o->h'.get? b=Z o)/\s'={s with heap:=h'}) (λe s'=>R (.error e) s') s:=by intro f0 b ok ov hi;refine nx_end hn hi hd λh' kp'=>⟨rfl,h',kp',rfl⟩
  have fv:LR (model prog w) (A.under (Vx "list.extend.loop" {pos:=[MA S,MA it,res]})) (OB (.ref it)) (λa s'=>a=Y/\∃h',(∀b o,b≠it->s.heap.get? b=Z o->h'.get? b=Z o)/\s'={s with heap:=h'}) (λe s'=>R (.error e) s') s:=by
   rcases H.iter with⟨h0,e⟩|⟨h1,a,b,ok,ov,oa,e,_⟩
   ·refine key .none N2 .none .none ?_;rw[<-J,h0];rw[<-J,h0]at e;exact e
   ·refine key (Oz a) b ok ov ?_;rw[<-J];rw[<-J]at e;exact e
  refine Nv fv (λa s' hs=>?_) λ_ _ z=>z;obtain⟨rfl,h',kp',rfl⟩:=hs;refine z4 (q h' acc c (λb o h1 h2 e=>kp' b o h1 (kp b o h1 h2 e)) (kp' S _ G O) (by rw[H.size];exact J) H.nd λj hj=>?_)
  obtain⟨t,e,e1,e2,B,e4⟩:=H.item j ∅
  refine⟨t,e,e1,e2,kp' t _ (λz=>?_) B,e4⟩
  rcases H.iter with⟨_,e⟩|⟨_,a,b,ok,ov,oa,e,_⟩
  ·rw[z,e]at B;simp[iO]at B
  ·rw[z,e]at B;simp[iO]at B
 |succ k ih=>
  intro i s acc c hk hi H O kp q;have Jr:i<es.size:=∅
  obtain⟨cd,dd,sl,hd⟩:=H.dict;have he:es[i]?=Z es[i]:=MX Jr;refine Pm UD ?_;unfold NN.«list.extend.loop»;dsimp only;refine gV ?_;have key:LR (model prog w) (A.under (Vx "list.extend.loop" {pos:=[MA S,MA it,res]})) (OB (.ref it)) (λv s'=>v=Z (.ref s.heap.objs.size)/\∃(h':Heap) (a:Xc) (b:Bool) (ok ov:i0) (oa:Obj),s'={s with heap:=h'}/\h'.get? it=Z (iO (Oz a) b d (i+1) es.size ep ok ov)/\a≠it/\h'.get? a=Z oa/\oa.cls=.type "tuple"/\h'.get? s.heap.objs.size=Z {cls:=.type "tuple",data:=.seq #[es[i].key,es[i].val]}/\∀b o,b≠it->s.heap.get? b=Z o->h'.get? b=Z o) (λe s'=>R (.error e) s') s:=by
   rcases H.iter with⟨h0,e⟩|⟨h1,a,b,ok,ov,oa,e,e1,e2,B⟩
   ·subst h0;refine C3 e hd he λh' g1 g2 g3=>⟨rfl,h',_,_,_,_,_,rfl,g1,?_,g2,rfl,g2,g3⟩;exact Ny (LD e)
   ·refine C2 e e1 e2 hd he λh' g1 g2 g3=>⟨rfl,h',a,_,_,_,oa,rfl,g1,e1,g3 a oa e1 e2,B,g2,g3⟩
  refine Nv key (λv s' hs=>?_) λ_ _ z=>z;obtain⟨rfl,h',a,b,ok,ov,oa,rfl,g1,g2,g3,g4,g5,Fn⟩:=hs;have L:=LD O;refine gV (PD (Fn S _ G O) rfl ?_ (by rw[H.size];lia) (by simp[H.size];lia))
  refine z4 ⟨UK RZ _,?_⟩;have gS:=OS (c:="list") (Fn S _ G O) (λx=>x.push (MA s.heap.objs.size));have oth:∀b o,b≠S->h'.get? b=Z o->(h'.update S (Om λx=>x.push (MA s.heap.objs.size))).get? b=Z o:=λb o hb e=>by rw[Nb _ _ _ _ hb];exact e
  have tup_ne:∀t (o:Obj),s.heap.get? t=Z o->o.cls=.type "tuple"->t≠it/\t≠S:=λt o e ec=>by
   constructor
   ·intro z
    rcases H.iter with⟨_,e'⟩|⟨_,a,b,ok,ov,oa,e',_⟩
    ·rw[z,e']at e;cases e;simp[iO]at ec
    ·rw[z,e']at e;cases e;simp[iO]at ec
   ·intro z;rw[z,O]at e;cases e;simp at ec
  refine ih (i+1) _ _ _ ∅ ∅ ⟨⟨cd,dd,sl,oth d _ Jp.symm (Fn d _ Jq.symm hd)⟩,.inr ⟨∅,a,b,ok,ov,oa,oth it _ G.symm g1,g2,oth a _ ?_ g3,g4⟩,by simp[H.size],?_,?_⟩ gS (λb o h1 h2 e=>oth b o h2 (Fn b o h1 (kp b o h1 h2 e))) λh2 Jm c2=>q h2 Jm c2
  ·intro z;rw[z,Fn S _ G O]at g3;cases g3;simp at g4
  ·rw[Mf];refine Qq.mpr ⟨H.nd,by simp,λx hx y hy Js=>?_⟩
   simp at hy;subst hy Js;obtain⟨j,hj,ej⟩:=Oh.mp hx;obtain⟨t,e,e1,e2,B,e4⟩:=H.item j (by rw[<-H.size];simpa using hj)
   have e5:acc[j]?=Z (MA s.heap.objs.size):=by rw[<-Mq,z0 hj,ej]
   rw[e5]at e1;cases e1;exact absurd (LD B) (Nj _)
  ·intro j hj
   by_cases Jn:j<i
   ·obtain⟨t,e,e1,e2,B,e4⟩:=H.item j Jn;obtain⟨t1,t2⟩:=tup_ne t _ B rfl;refine⟨t,e,?_,e2,oth t _ t2 (Fn t _ t1 B),e4⟩;rw[Array.getElem?_push_lt (by rw[H.size];exact Jn)]
    rw[<-e1,MX]
   ·have:j=i:=by lia
    subst this;have U:it<s.heap.objs.size:=by
     rcases H.iter with⟨_,e'⟩|⟨_,a,b,ok,ov,oa,e',_⟩
     ·exact LD e'
     ·exact LD e'
    have Jo:h0.get? s.heap.objs.size=Y:=by
     cases hq:h0.get? s.heap.objs.size with
     |none=>rfl
     |some o=>exact absurd (LD (kp _ _ (Ny U) (Ny L) hq)) (Nj _)
    refine⟨s.heap.objs.size,es[j],?_,he,oth _ _ (Ny L) g5,Jo⟩;have:=H.size;subst this;simp
end
end It
namespace It
variable{v d:Xc}{es:Array Nq}{ep:Nat}{cd:i0}{dd:Option Xc}{sl:Array (Option i0)}
section
variable{prog:Ml}{w:MQ}{A:MU}{E:i0->s9->Prop}{s:s9}
theorem C5{Q:i0->s9->Prop}(j:s.heap.get? v=Z {cls:=.type "dict_items",data:=.fields #[.ref d]})(hd:s.heap.get? d=Z {cls:=cd,dict:=dd,data:=.dict es ep,slots:=sl})(q:Q (.ref s.heap.objs.size) {s with heap:=s.heap.push (iO .none N2 d 0 es.size ep .none .none)}):LR (model prog w) A (Tq (.ref v)) Q E s:=by
 have ty:s.TypeIs (.ref v) "dict_items":=⟨_,j,rfl⟩;refine SK ty TK (MB TK ty F.entry_dict_items_iter ?_ (F.args_dict_items_iter_1 _));unfold NN.«dict_items.__iter__»
 wp_walk
 exact⟨_,rfl,"dict_itemiterator",_,⟨_,LF _ rfl,rfl⟩,slot_next.lookup,q⟩
theorem wL{Q:Bool->s9->Prop}(B:s.heap.get? v=Z {cls:=.type "dict_items",data:=.fields #[.ref d]})(q:Q N2 s):LR (model prog w) A (OW (.ref v)) Q E s:=by
 have ty:s.TypeIs (.ref v) "dict_items":=⟨_,B,rfl⟩;unfold OW;refine gV (U0 ty F.slot_dict_items_len.lookup ?_);generalize j:("dict_items.__len__":String)=z
 (fail_if_success (clear j z));wp_delta
 rw[show splitId z=Z ("dict_items","__len__")from by subst j;decide +kernel]
 subst j;refine gV (P0 (b:=F2) ty (by rw[OK];kernel_rfl) ?_)
 rw[if_neg (by decide)]
 refine Rg (by decide +kernel) ?_
 refine gV (PY ty ?_);exact z4 q
open Builtin.List in
theorem zA{B:MU}(hn:A.handled=Y){S:Xc}{c:Nat}{R:VF->s9->Prop}(res:i0)(J:s.heap.get? v=Z {cls:=.type "dict_items",data:=.fields #[.ref d]})(hd:s.heap.get? d=Z {cls:=cd,dict:=dd,data:=.dict es ep,slots:=sl})(G:s.heap.get? S=Z {cls:=.type "list",data:=.seq #[] c})(hz:es.size<=LK)(q:∀(h':Heap) (acc':Array i0) (c':Nat),(∀b o,b≠S->s.heap.get? b=Z o->h'.get? b=Z o)->h'.get? S=Z {cls:=.type "list",data:=.seq acc' c'}->acc'.size=es.size->acc'.toList.Nodup->(∀j,j<es.size->∃t e,acc'[j]?=Z (.ref t)/\es[j]?=Z e/\h'.get? t=Z {cls:=.type "tuple",data:=.seq #[e.key,e.val]}/\s.heap.get? t=Y)->R (.ok (.ret res)) {s with heap:=h'}):
 LR (model prog w) B (listExtendWith (.ref S) (.ref v) res) (λfin s'=>match fin with|.done f=>R (.ok f) s'|.again c'=>c'.quiet=F2/\Pb (model prog w) A c' R s') (λe s'=>R (.error e) s') s:=by
 have ty:s.TypeIs (.ref v) "dict_items":=⟨_,J,rfl⟩;have Jm:S≠v:=λe=>by rw[e,J]at G;simp at G
 have L:S≠d:=λe=>by rw[e,hd]at G;simp at G
 have O:=LD hd;have z:=LD G;have Jo:=LD J;have h1:listSameRef (.ref S) (.ref v)=N2:=by simp[listSameRef,Jm]
 unfold listExtendWith;refine gV (PY ty ?_);rw[if_neg (by rw[h1];decide)]
 refine gV (C5 J hd ?_);refine gV (Na (wL (d:=d) (q7 _ J) ?_));refine Rg (by decide +kernel) ?_
 refine gV (Oc ?_);unfold listTouch;have U:(s.heap.push (iO .none N2 d 0 es.size ep .none .none)).get? S=Z (V7 "list" #[] c):=q7 _ G;refine gV (gV (PD U rfl ?_ (by simp) (by simp)))
 have Fn:=OS U (λx=>x.push NZ);refine PD Fn rfl ?_ (by simp;decide) (by simp)
 have Jn:=OS Fn (λx=>x.pop);refine z4 ⟨UK RZ _,?_⟩;have oth:∀b o,b≠S->s.heap.get? b=Z o->(((s.heap.push (iO .none N2 d 0 es.size ep .none .none)).update S (Om λx=>x.push NZ)).update S (Om λx=>x.pop)).get? b=Z o:=λb o fv e=>by rw[Nb _ _ _ _ fv,Nb _ _ _ _ fv];exact q7 _ e
 have hit:(((s.heap.push (iO .none N2 d 0 es.size ep .none .none)).update S (Om λx=>x.push NZ)).update S (Om λx=>x.pop)).get? s.heap.objs.size=Z (iO .none N2 d 0 es.size ep .none .none):=by rw[Nb _ _ _ _ (Ny z),Nb _ _ _ _ (Ny z)];exact LF _ rfl
 refine C4 hn (S:=S) (it:=s.heap.objs.size) (d:=d) (es:=es) (ep:=ep) (Mt z) L (Ny O) hz s.heap (λ_=>trivial) es.size 0 _ #[] _ ∅ ∅ ⟨⟨cd,dd,sl,oth d _ L.symm hd⟩,.inl ⟨rfl,hit⟩,rfl,by simp,λj hj=>∅⟩ Jn (λb o h1 h2 e=>oth b o h2 e) λh' acc' c' k1 k2 k3 k5 k4=>?_
 exact q h' acc' c' (λb o fv e=>k1 b o (Mt (LD e)) fv e) k2 k3 k5 k4
theorem collect_view(hn:A.handled=Y){Q:List i0->s9->Prop}(Fn:s.heap.get? v=Z {cls:=.type "dict_items",data:=.fields #[.ref d]})(hd:s.heap.get? d=Z {cls:=cd,dict:=dd,data:=.dict es ep,slots:=sl})(hz:es.size<=LK)(q:∀(h':Heap) (us:List i0),(∀b o,s.heap.get? b=Z o->h'.get? b=Z o)->us.length=es.size->us.Nodup->(∀j,j<es.size->∃t e,us[j]?=Z (.ref t)/\es[j]?=Z e/\h'.get? t=Z {cls:=.type "tuple",data:=.seq #[e.key,e.val]}/\s.heap.get? t=Y)->Q us {s with heap:=h'}):LR (model prog w) A (collect (.ref v)) Q E s:=by
 unfold collect;refine gV (wpAny_runValue (Pm U7 ?_));unfold NN.«proto.collect»;dsimp only;refine gV (RA ?_ (by simp))
 refine z4 ⟨So _ (by decide +kernel),?_⟩
 refine Pm VV ?_;unfold NN.«list.__iadd__»;refine gV (OI (a:=(MA s.heap.objs.size,[MA v])) (by kernel_rfl) ?_)
 have fv:=LD Fn;have z:(s.heap.push {cls:=N1 "list",data:=Qh [].toArray}).get? s.heap.objs.size=Z {cls:=N1 "list",data:=Qh #[] 0}:=LF _ rfl;have fin:∀(h':Heap) (acc:Array i0) (c':Nat),(∀b o,b≠s.heap.objs.size->(s.heap.push {cls:=N1 "list",data:=Qh [].toArray}).get? b=Z o->h'.get? b=Z o)->h'.get? s.heap.objs.size=Z {cls:=.type "list",data:=.seq acc c'}->acc.size=es.size->acc.toList.Nodup->(∀j,j<es.size->∃t e,acc[j]?=Z (.ref t)/\es[j]?=Z e/\h'.get? t=Z {cls:=.type "tuple",data:=.seq #[e.key,e.val]}/\(s.heap.push {cls:=N1 "list",data:=Qh [].toArray}).get? t=Y)->
  LR (model prog w) A (do
   let o <-load s.heap.objs.size
   match o.data with
   |.seq xs _=>pure xs.toList
   |_=>unsupported "internal:collect") Q E {s with heap:=h'}:=by
  intro h' acc c' B G J L O;refine gV (Wp G ?_);exact z4 (q h' acc.toList (λb o e=>B b o (Mt (LD e)) (q7 _ e)) (by simpa using J) L λj hj=>by
   obtain⟨t,e,e1,e2,e3,e4⟩:=O j hj;refine⟨t,e,by rw[Mq];exact e1,e2,e3,?_⟩
   cases hq:s.heap.get? t with
   |none=>rfl
   |some o=>rw[q7 _ hq]at e4;cases e4)
 refine Nv (zA (s:={s with heap:=s.heap.push {cls:=N1 "list",data:=Qh [].toArray}}) (R:=λr s'=>r=.ok (.ret (.ref s.heap.objs.size))/\LR (model prog w) A (do
  let o <-load s.heap.objs.size
  match o.data with
  |.seq xs _=>pure xs.toList
  |_=>unsupported "internal:collect") Q E s') hn (MA s.heap.objs.size) (q7 _ Fn) (q7 _ hd) z hz λh' acc c' B G J L O=>⟨rfl,fin h' acc c' B G J L O⟩) (λfn s' h=>?_) (λe s' h=>?_)
 ·cases fn with
  |done f=>
   obtain⟨e,h⟩:=h
   cases e
   exact h
  |again c'=>refine⟨h.1,OE h.2 λr s1 U=>?_⟩;obtain⟨rfl,U⟩:=U;exact U
 ·cases h.1
end
end It
section
section
variable{P:Ml}{w:MQ}{H:Hp}{h:Heap}{a:Xc}{o:HO}
theorem ObjOk.there(x:ObjOk P w H h a o):∃ob,h.get? a=Z ob:=by
 cases o with
 |lst xs=>obtain⟨_,_,_,_,e⟩:=x;exact⟨_,e⟩
 |tup xs=>obtain⟨_,_,_,_,e,_⟩:=x;exact⟨_,e⟩
 |dK kvs=>obtain⟨_,_,_,_,o,_,_,e,_⟩:=x;exact⟨_,e⟩
 |dT kvs=>obtain⟨_,_,_,_,o,_,_,e,_⟩:=x;exact⟨_,e⟩
 |set S n=>obtain⟨o,_,_,_,e,_⟩:=x;exact⟨_,e⟩
 |ins C dx fs=>obtain⟨_,_,_,e,_⟩:=x;exact⟨_,e⟩
 |own y=>obtain⟨_,e⟩:=x;exact⟨_,e⟩
 |xd fs=>obtain⟨_,⟨_,_,_,e,_⟩,_⟩:=x;exact⟨_,e⟩
 |rng lo hi=>obtain⟨_,_,_,e⟩:=x;exact⟨_,e⟩
 |frz ob u=>obtain⟨e,_⟩:=x;exact⟨_,e⟩
 |tbl ps=>exact⟨_,show h.get? a=Z _ from x⟩
 |met f y=>exact⟨_,show h.get? a=Z _ from x⟩
 |ext φ=>obtain⟨_,⟨_,e⟩,_⟩:=x;exact⟨_,e⟩
end
noncomputable def lay(H:Hp)(N:Xc->Option HO):Hp:=λb=>match N b with|some o=>Z o|none=>H b
section
variable{X:Cx}{pins:List (Xc×Obj)}{σ:List (Option V)}{H:Hp}{s:s9}{h':Heap}{N:Xc->Option HO}
theorem lh{o:HO}(e:N b=Z o):lay H N b=Z o:=by unfold lay;rw[e]
theorem iF(e:N b=Y):lay H N b=H b:=by unfold lay;rw[e]
theorem Inv.fresh'(I:Inv X pins σ H s)(e:s.heap.get? b=Y):H b=Y:=by
 cases q:H b with
 |none=>rfl
 |some o=>obtain⟨ob,eo⟩:=(I.hok b o q).there;rw[e]at eo;cases eo
theorem Inv.laidN(I:Inv X pins σ H s)(k:∀b u,s.heap.get? b=Z u->h'.get? b=Z u)(j:∀b o,N b=Z o->s.heap.get? b=Y)(new:∀b o,N b=Z o->ObjOk X.prog X.w (lay H N) h' b o):Inv X pins σ (lay H N) {s with heap:=h',toks:=t'}:=by
 have old:∀b u,s.heap.get? b=Z u->N b=Y:=λb u e=>by
  cases q:N b with
  |none=>rfl
  |some o=>rw[j b o q]at e;cases e
 have oldH:∀b o,H b=Z o->lay H N b=Z o:=λb o e=>by obtain⟨ob,eo⟩:=(I.hok b o e).there;rw[iF (old b ob eo)];exact e
 refine I.un ⟨λb u q _ _ _=>k b u q,λb u q _ _ _=>⟨u.slots,k b u q⟩,λb u q n _=>by rw[iF (old b u q)];exact n,λb u q _=>⟨u,k b u q⟩,λb xs q=>oldH b _ q,λb u xs q=>oldH b _ q,λb ps q=>⟨#[],by rw[oldH b _ q];simp⟩⟩ λb o e=>?_
 cases q:N b with
 |some o'=>rw[lh q]at e;cases e;exact new b o q
 |none=>rw[iF q]at e;exact(I.hok b o e).stay (λc v _ q=>k c v q) (λc q=>oldH c _ q) λc xs q=>oldH c _ q
end
namespace Mi
open L2.Srt
inductive Sh where
 |int
 |tup (l:List Sh)
mutual
noncomputable def hs:Sh->D->Bool
 |.int,.int _=>F2
 |.tup l,.tup ds=>hss l ds
 |_,_=>N2
noncomputable def hss:List Sh->List D->Bool
 |[],[]=>F2
 |s::l,d::ds=>hs s d&&hss l ds
 |_,_=>N2
end
mutual
noncomputable def pd:D->NM
 |.int i=>.int i
 |.tup ds=>.tuple (pds ds)
 |_=>.none
noncomputable def pds:List D->List NM
 |[]=>[]
 |d::ds=>pd d::pds ds
end
mutual
noncomputable def dep:Sh->Nat
 |.int=>0
 |.tup l=>deps l+1
noncomputable def deps:List Sh->Nat
 |[]=>0
 |s::l=>max (dep s) (deps l)
end
noncomputable def hW:Sh->Bool
 |.int=>F2
 |.tup (.int::l)=>decide (deps l<=6)
 |.tup (.tup a::l)=>decide (deps (.tup a::l)<=6)
 |.tup []=>N2
noncomputable def kyD(d:D):Ky:=toK (pd d)
theorem uv{x:D}(h:hs .int x=F2):∃i,x=.int i:=by cases x<;>first|exact⟨_,rfl⟩|cases h
theorem uw{l:List Sh}{x:D}(h:hs (.tup l) x=F2):∃ds,x=.tup ds/\hss l ds=F2:=by cases x<;>first|exact⟨_,rfl,h⟩|cases h
theorem oB{a:List D}(h:hss [] a=F2):a=[]:=by
 cases a with
 |nil=>rfl
 |cons _ _=>cases h
variable{s:Sh}
theorem oC{l:List Sh}{a:List D}(h:hss (s::l) a=F2):∃x r,a=x::r/\hs s x=F2/\hss l r=F2:=by
 cases a with
 |nil=>cases h
 |cons x r=>exact⟨x,r,rfl,RG.mp h⟩
mutual
theorem wM:∀(s:Sh) (x y:D),hs s x=F2->hs s y=F2->Cmpb (pd x) (pd y)
 |.int,_,_,h,g=>by obtain⟨a,rfl⟩:=uv h;obtain⟨b,rfl⟩:=uv g;simp only[pd];exact .int a b
 |.tup l,_,_,h,g=>by obtain⟨a,rfl,h⟩:=uw h;obtain⟨b,rfl,g⟩:=uw g;simp only[pd];exact hss_cmp l a b h g
theorem hss_cmp:∀(l:List Sh) (a b:List D),hss l a=F2->hss l b=F2->Cmpb (.tuple (pds a)) (.tuple (pds b))
 |[],_,_,h,g=>by cases oB h;cases oB g;simp only[pds];exact .nil _
 |s::l,_,_,h,g=>by obtain⟨x,a,rfl,j⟩:=oC h;clear h;have h:=j;obtain⟨y,b,rfl,z⟩:=oC g;clear g;have g:=z;simp only[pds];exact .cons (wM s x y h.1 g.1) (hss_cmp l a b h.2 g.2)
end
mutual
theorem ka:∀(s:Sh) (x:D),hs s x=F2->Pl (pd x)/\(pd x).canLay0=F2/\(pd x).depth<=dep s
 |.int,_,h=>by obtain⟨a,rfl⟩:=uv h;simp only[pd];exact⟨.int a,rfl,by simp[Q0]⟩
 |.tup l,_,h=>by obtain⟨a,rfl,h⟩:=uw h;obtain⟨h1,h2,j⟩:=hss_pl l a h;simp only[pd];exact⟨.tup _ h1,by simpa[Rf]using h2,by simp[Q0,dep];lia⟩
theorem hss_pl:∀(l:List Sh) (a:List D),hss l a=F2->(∀x∈pds a,Pl x)/\NR (pds a)=F2/\OQ (pds a)<=deps l
 |[],_,h=>by cases oB h;simp[pds,NR,OQ]
 |s::l,_,h=>by
  obtain⟨x,a,rfl,j⟩:=oC h;clear h;have h:=j;obtain⟨h1,h2,F⟩:=ka s x h.1;obtain⟨g1,g2,g3⟩:=hss_pl l a h.2;simp only[pds];refine⟨λy B=>?_,by simp[NR,h2,g2],by simp[OQ,deps];lia⟩
  rcases LI.mp B with z|z
  ·rw[z];exact h1
  ·exact g1 y z
end
mutual
theorem oD(M:Mem):∀(s:Sh) (x:D) (n:Nat),hs s x=F2->dep s<=n->rb n M x=Z (pd x)
 |.int,_,n,h,_=>by obtain⟨a,rfl⟩:=uv h;cases n<;>simp[rb,pd]
 |.tup l,_,n,h,j=>by
  obtain⟨a,rfl,h⟩:=uw h;simp only[dep]at j;obtain⟨k,rfl⟩:∃k,n=k+1:=⟨n-1,∅⟩
  simp only[rb,pd];rw[hss_rb M l a k h ∅];rfl
theorem hss_rb(M:Mem):∀(l:List Sh) (a:List D) (n:Nat),hss l a=F2->deps l<=n->b9 (rb n M) a=Z (pds a)
 |[],_,_,h,_=>by cases oB h;simp[pds,b9]
 |s::l,_,n,h,j=>by obtain⟨x,a,rfl,z⟩:=oC h;clear h;have h:=z;simp only[deps]at j;simp only[pds,b9];rw[oD M s x n h.1 ∅,hss_rb M l a n h.2 ∅];rfl
end
theorem jc(h:hW s=F2):dep s<=7:=by
 match s,h with
 |.int,_=>simp[dep]
 |.tup (.int::l),h=>simp[hW]at h;simp[dep,deps];lia
 |.tup (.tup a::l),h=>simp only[hW,decide_eq_true_eq]at h;simp only[dep];lia
theorem sy(h:hW s=F2){xs:List D}(hx:∀x∈xs,hs s x=F2):qo 7 (xs.map pd)/\∀d∈xs.map pd,Pl d:=by
 refine⟨⟨?_,?_,?_⟩,?_⟩
 ·intro d hd e he;obtain⟨x,h1,rfl⟩:=LU.mp hd;obtain⟨y,h2,rfl⟩:=LU.mp he;exact wM s x y (hx x h1) (hx y h2)
 ·intro d hd;obtain⟨x,h1,rfl⟩:=LU.mp hd;obtain⟨_,g2,g3⟩:=ka s x (hx x h1);exact⟨g2,by have:=jc h;lia⟩
 ·match s,h with
  |.int,_=>
   left
   intro d hd;obtain⟨x,h1,rfl⟩:=LU.mp hd;have:=hx x h1
   cases x<;>simp[hs]at this
   exact⟨_,rfl⟩
  |.tup (.int::l),_=>
   right;left
   intro d hd;obtain⟨x,h1,rfl⟩:=LU.mp hd;have:=hx x h1
   cases x<;>simp[hs]at this
   rename_i ds
   cases ds with
   |nil=>simp[hss]at this
   |cons y ys=>
    simp[hss]at this
    cases y<;>simp[hs]at this
    exact⟨_,_,rfl⟩
  |.tup (.tup a::l),_=>
   right;right
   intro d hd;obtain⟨x,h1,rfl⟩:=LU.mp hd;have:=hx x h1
   cases x<;>simp[hs]at this
   rename_i ds
   cases ds with
   |nil=>simp[hss]at this
   |cons y ys=>
    simp[hss]at this
    cases y<;>simp[hs]at this
    exact⟨_,_,rfl⟩
 ·intro d hd;obtain⟨x,h1,rfl⟩:=LU.mp hd;exact(ka s x (hx x h1)).1
theorem eU{α β:Type}(f:α->β):∀{l m:List β},l.Perm m->∀{t:List α},t.map f=m->∃t':List α,t'.Perm t/\t'.map f=l:=by
 intro l m h
 induction h with
 |nil=>intro t e;exact⟨[],by rw[List.map_eq_nil_iff.mp e],rfl⟩
 |cons x h ih=>
  intro t e
  cases t with
  |nil=>simp at e
  |cons a t=>simp at e;obtain⟨t',h1,h2⟩:=ih e.2;exact⟨a::t',h1.cons a,by simp[h2,e.1]⟩
 |swap x y l=>
  intro t e
  match t,e with
  |a::b::t,e=>simp at e;exact⟨b::a::t,.swap _ _ _,by simp[e]⟩
 |trans h1 h2 j z=>intro t e;obtain⟨F,p2,e2⟩:=z e;obtain⟨t1,B,e1⟩:=j e2;exact⟨t1,B.trans p2,e1⟩
def gh(ys:List D):Prop:=ys.Pairwise λa b=>ltK (kyD b) (kyD a)=N2
theorem sB{K:Frag}{H:Hp}:∀{ds:List D} {vs:List V} {us:List i0},RDs K H ds vs->Vals vs us->∃t:List (D×V×i0),t.map (·.1)=ds/\t.map (·.2.1)=vs/\t.map (·.2.2)=us/\∀p∈t,RD K H p.1 p.2.1/\RelV p.2.1 p.2.2
 |[],vs,us,h,g=>by
  cases RDs.nil_iff.mp h
  cases g
  exact⟨[],rfl,rfl,rfl,λ_ h=>by simp at h⟩
 |d::ds,vs,us,h,g=>by
  obtain⟨v,r,rfl,h1,h2⟩:=WS.mp h
  cases g with
  |cons g1 g2=>
   rename_i u us;obtain⟨t,e1,e2,j,B⟩:=sB h2 g2;exact⟨(d,v,u)::t,by simp[e1],by simp[e2],by simp[j],λp F=>by
    rcases LI.mp F with z|z
    ·rw[z];exact⟨h1,g1⟩
    ·exact B p z⟩
theorem sC{K:Frag}{H:Hp}:∀{t:List (D×V×i0)},(∀p∈t,RD K H p.1 p.2.1/\RelV p.2.1 p.2.2)->RDs K H (t.map (·.1)) (t.map (·.2.1))/\Vals (t.map (·.2.1)) (t.map (·.2.2))
 |[],_=>⟨RDs.nil,.nil⟩
 |p::t,h=>by
  obtain⟨h1,h2⟩:=sC (t:=t) λq j=>h q (by simp[j])
  exact⟨RDs.cons (h p (by simp)).1 h1,.cons (h p (by simp)).2 h2⟩
section
variable{X:Cx}
theorem rH{cap:Nat}(S:fI cap)(L:X.A.units+16<Po){pins:List (Xc×Obj)}{s:s9}{σ:St}{H:Hp}{Q:VK}(I:Inv X pins σ H s){M:Mem}(rm:RM X.K M H){es:List D}{sh:Sh}{vs:List V}{p:Xc}(rvs:RDs X.K H es vs)(hok:hW sh=F2)(O:∀d∈es,hs sh d=F2)(q:∀p ys,M p=Y->ys.Perm es->gh ys->KE' X.K M H Q (.ref p) (ag M p (.lst ys))){its:List i0}(hv:Vals vs its)(hl:vs.length<=LK)(Jo:vs.length<=cap)(U:∀(E:i0->s9->Prop) (R:List i0->s9->Prop),(∀(h':Heap) (tk:Nat),(∀b o,s.heap.get? b=Z o->h'.get? b=Z o)->s.toks<=tk->R its {s with heap:=h',toks:=tk})->LR (Mj X.prog X.w) X.A.in1 (collect (.ref p)) R E s):
 LR (Mj X.prog X.w) X.A (call (.builtin "sorted") [.ref p]) (EP X pins σ Q) X.xe s:=by
 obtain⟨hS,J⟩:=sy hok O;have Jr:=jc hok;obtain⟨t,t1,t2,t3,t4⟩:=sB rvs hv;have Fn:∀pp∈t,∃as,QK s.heap pp.2.2 (pd pp.1) as:=λpp j=>by
  have hm:pp.1∈es:=by rw[<-t1];exact Mn j
  exact bJ I rm 16 pp.1 (pd pp.1) pp.2.1 pp.2.2 (oD M sh pp.1 16 (O _ hm) ∅) (t4 pp j).1 (t4 pp j).2
 have fv:RdL s.heap its (es.map pd):=λu L=>by rw[<-t3]at L;obtain⟨pp,j,rfl⟩:=LU.mp L;obtain⟨as,ra⟩:=Fn pp j;exact⟨pd pp.1,Mn (by rw[<-t1];exact Mn j),as,ra⟩
 refine ni S (m:=7) (ds:=es.map pd) (C:=λh' vs'=>vs'=its/\∀b o,s.heap.get? b=Z o->h'.get? b=Z o) ∅ hS J (λE R hR=>?_) λh1 h2 vs' out n' tk hC old g2 F Jm Js Jt ht=>?_
 ·refine U E R λh' tk kp Jp=>hR h' its tk ⟨rfl,kp⟩ (λu L=>?_) ⟨by rw[<-hv.length];exact hl,by rw[<-hv.length];exact Jo⟩ Jp
  obtain⟨d,hd,as,ra⟩:=fv u L;exact⟨d,hd,as,be (λb o e _=>kp b o e) (J d hd) ra⟩
 ·obtain⟨rfl,kp⟩:=hC;rw[<-t3]at F;obtain⟨t',p1,p2⟩:=eU (fun pp:D×V×i0=>pp.2.2) F rfl;have hz:=sC (t:=t') fun pp j=>t4 pp (p1.mem_iff.mp j);have Jn:∀b o,s.heap.get? b=Z o->h2.get? b=Z o:=fun b o e=>old b o (kp b o e);have z:s.heap.get? h1.objs.size=Y:=by
   cases hq:s.heap.get? h1.objs.size with
   |none=>rfl
   |some o=>exact absurd (LD (kp _ _ hq)) (Nj _)
  have Jq:=I.fresh' z;have hlen:(t'.map (·.2.1)).length<=LK:=by rw[tv,p1.length_eq,<-tv (f:=λpp:D×V×i0=>pp.2.1),t2];exact hl
  have I2:=I.laidN (t':=tk) (h':=h2) (N:=λb=>if b=h1.objs.size then Z (.lst (t'.map (·.2.1)))else Y) Jn (λb o e=>by
   by_cases B:b=h1.objs.size
   ·rw[B];exact z
   ·rw[if_neg B]at e;cases e) (λb o e=>by
   by_cases B:b=h1.objs.size
   ·subst B;rw[if_pos rfl]at e;cases e;exact⟨hlen,out,n',by rw[<-p2];exact hz.2,g2⟩
   ·rw[if_neg B]at e;cases e)
  have eH:lay H (λb=>if b=h1.objs.size then Z (.lst (t'.map (·.2.1)))else Y)=upd H h1.objs.size (.lst (t'.map (·.2.1))):=by
   funext b
   unfold lay upd;dsimp only
   by_cases B:b=h1.objs.size
   ·rw[if_pos B,if_pos B]
   ·rw[if_neg B,if_neg B]
  rw[eH]at I2;refine⟨.ref h1.objs.size,_,I2,rfl,?_⟩;refine cm rm hz.1 (λp' n=>q p' _ n ?_ ?_) Jq
  ·have:=p1.map (λpp:D×V×i0=>pp.1);rw[t1]at this;exact this
  ·unfold gh;rw[Nu];rw[<-p2,Nu]at Jm;refine Jm.imp_of_mem fun {a b} ha B hab=>?_;have rd:∀pp∈t',Ob h2 pp.2.2=pd pp.1:=fun pp j=>by
    have G:=p1.mem_iff.mp j;obtain⟨as,ra⟩:=Fn pp G;have hm:pp.1∈es:=by rw[<-t1];exact Mn G
    exact OR (hS.lay _ (Mn hm)).1 (be (λb o e _=>Jn b o e) (J _ (Mn hm)) ra)
   rw[rd a ha,rd b B]at hab;exact hab
end
end Mi
end
namespace Mi
open L2.Srt
noncomputable def kvD(kv:D×D):D:=.tup [kv.1,kv.2]
noncomputable def kb(ta:TEd):TEd:=λρ M Q=>ta ρ M λx M1=>∃a t kvs sh,x=.ref a/\M1 a=Z (.dct t kvs)/\hW sh=F2/\(∀kv∈kvs,hs sh (kvD kv)=F2)/\∀p ys,M1 p=Y->ys.Perm (kvs.map kvD)->gh ys->Q (.ref p) (ag M1 p (.lst ys))
theorem uz{ta:TEd}(h:ad ta):ad (kb ta):=λρ M Q Q' i q=>h _ _ _ _ (λx G j=>(by obtain⟨a,t,kvs,sh,e,e1,e2,z,B⟩:=j;exact⟨a,t,kvs,sh,e,e1,e2,z,λp ys n F hs=>i _ _ (B p ys n F hs)⟩)) q
def lj(K:Frag)(H:Hp)(kv:D×D)(e:Nq):Prop:=∃kV vV,RD K H kv.1 kV/\RelV kV e.key/\RD K H kv.2 vV/\RelV vV e.val
variable{K:Frag}{H:Hp}
theorem sD{d:D}{k:Key}(h:RKey d k):RD K H d (kV k):=by
 cases d<;>first
  |exact h.elim
  |(cases h;first|exact WQ.mpr rfl|exact WY.mpr rfl)
theorem nj{K:Frag}{H:Hp}:∀{ds:List D} {ks:List Key},NA RKey ds ks->RDs K H ds (ks.map kV)
 |_,_,.nil=>RDs.nil
 |_,_,.cons r t=>RDs.cons (sD r) (nj t)
theorem AF{P:Ml}{w:MQ}{K:Frag}{H:Hp}:∀{kvs:List (D×D)} {ps:List (Key×V)} {vs:List (Key×i0)} {es:List Nq},NA (λ(p:D×D) (q:Key×V)=>RKey p.1 q.1/\RD K H p.2 q.2) kvs ps->KV ps vs->Pairs (aU P w) es vs->NA (lj K H) kvs es
 |_,_,_,_,.nil,.nil,.nil=>.nil
 |_,_,_,_,.cons j t1,.cons z B,.cons h1 h2 t3=>by
  refine .cons ⟨kV _,_,sD j.1,?_,j.2,by rw[h2];exact z.2⟩ (AF t1 B t3)
  rw[<-z.1]at h1
  rcases aW h1 with⟨i,t,e1,e2⟩|⟨x,t,e1,e2⟩
  ·rw[e1,e2];exact⟨t,rfl⟩
  ·rw[e1,e2];exact⟨t,rfl⟩
theorem AG{P:Ml}{w:MQ}{K:Frag}{H:Hp}:∀{kvs:List (D×D)} {ps:List (List Key×V)} {xs:List (List Key×Xc×i0)},NA (λ(p:D×D) (q:List Key×V)=>RKeys p.1 q.1/\RD K H p.2 q.2) kvs ps->NA (λ(p:List Key×V) (q:List Key×Xc×i0)=>p.1=q.1/\H q.2.1=Z (.tup (p.1.map kV))/\RelV p.2 q.2.2) ps xs->NA (lj K H) kvs (xs.map (entryOfKey (Se (aU P w))))
 |_,_,_,.nil,.nil=>.nil
 |kv::_,_,_,.cons z t1,.cons B F=>by
  refine .cons ?_ (AG t1 F);obtain⟨d,v⟩:=kv;have j:=z.1
  cases d<;>first
   |exact j.elim
   |exact⟨.ref _,_,WZ ⟨_,_,rfl,B.2.1,nj j⟩,rfl,z.2,B.2.2⟩
theorem cr{α β:Type}{R:α->β->Prop}:∀{l:List α} {m:List β},NA R l m->l.length=m.length
 |_,_,.nil=>rfl
 |_,_,.cons _ t=>by simp[cr t]
noncomputable abbrev Rw:=Xc×(D×D)×V×V×Nq
theorem AH{K:Frag}{H:Hp}{G:Xc->Nq->Prop}:∀{kvs:List (D×D)} {es:List Nq} {us:List i0},NA (lj K H) kvs es->us.length=es.length->(∀j,j<es.length->∃t e,us[j]?=Z (.ref t)/\es[j]?=Z e/\G t e)->
 ∃L:List Rw,L.map (λr=>MA r.1)=us/\L.map (λr=>r.2.1)=kvs/\∀r∈L,RD K H r.2.1.1 r.2.2.1/\RelV r.2.2.1 r.2.2.2.2.key/\RD K H r.2.1.2 r.2.2.2.1/\RelV r.2.2.2.1 r.2.2.2.2.val/\G r.1 r.2.2.2.2
 |_,_,us,.nil,B,_=>⟨[],by simp at B;simp[B],rfl,λ_ h=>by simp at h⟩
 |kv::kvs,e::es,us,.cons r t,B,h=>by
  cases us with
  |nil=>simp at B
  |cons u us=>
   obtain⟨L,h1,h2,J⟩:=AH (us:=us) t (by simpa using B) λj O=>by
    obtain⟨t,e',e1,e2,F⟩:=h (j+1) (by simpa using O)
    exact⟨t,e',by simpa using e1,by simpa using e2,F⟩
   obtain⟨t0,e',e1,e2,F⟩:=h 0 (by simp)
   simp at e1 e2;subst e1 e2;obtain⟨kV,vV,g1,g2,g3,U⟩:=r;exact⟨(t0,kv,kV,vV,e)::L,by simp[h1],by simp[h2],λr Fn=>by
    rcases LI.mp Fn with z|z
    ·rw[z];exact⟨g1,g2,g3,U,F⟩
    ·exact J r z⟩
theorem zB{L:List Rw}(j:(L.map λr=>r.1).Nodup){r:Rw}(B:r∈L):L.find? (λx=>decide (x.1=r.1))=Z r:=by
 induction L with
 |nil=>simp at B
 |cons x L ih=>
  simp only[LX,NL]at j
  rcases LI.mp B with z|z
  ·subst z;simp
  ·have:x.1≠r.1:=λe=>j.1 (by rw[e];exact Mn z)
   rw[Q4 (by simpa using this)]
   exact ih j.2 z
variable{a:Xc}{kvs:List (D×D)}
section
variable{X:Cx}
theorem Ed{h:Heap}{P:Ml}{w:MQ}{ps:List (List Key×V)}(ok:ObjOk P w H h a (.dT ps))(pr:NA (λ(p:D×D) (q:List Key×V)=>RKeys p.1 q.1/\RD K H p.2 q.2) kvs ps):
 ∃cd dd sl es ep,h.get? a=Z {cls:=cd,dict:=dd,data:=.dict es ep,slots:=sl}/\es.size<=LK/\NA (lj K H) kvs es.toList:=by
 obtain⟨G,B,xs,j,o,es,ep,h1,h2,z,F,J⟩:=ok;obtain⟨cd,dd,dat,sl⟩:=o;dsimp only at z;subst z;have pp:=AG (P:=P) (w:=w) pr j;rw[<-F]at pp;refine⟨cd,dd,sl,es,ep,h1,?_,pp⟩;have:=cr pp;have:=cr pr;simp at *;lia
theorem sF{pins:List (Xc×Obj)}{σ:St}{s:s9}{M:Mem}(I:Inv X pins σ H s)(rm:RM X.K M H){t:Bool}(e:M a=Z (.dct t kvs)):
 ∃cd dd sl es ep,s.heap.get? a=Z {cls:=cd,dict:=dd,data:=.dict es ep,slots:=sl}/\es.size<=LK/\NA (lj X.K H) kvs es.toList/\IsD H a:=by
 have ro:=rm a _ e
 cases t with
 |false=>obtain⟨ps,j,pr⟩:=ro;obtain⟨J,F,vs,B,o,es,ep,h1,h2,z,L,G,O⟩:=I.hok a _ j;obtain⟨cd,dd,dat,sl⟩:=o;dsimp only at z;subst z;have pp:=AF pr B G;refine⟨cd,dd,sl,es,ep,h1,?_,pp,.inl ⟨_,Rd.of j⟩⟩;have:=cr pp;have:=cr pr;simp at *;lia
 |true=>obtain⟨ps,j,pr⟩:=ro;obtain⟨cd,dd,sl,es,ep,h1,h2,z⟩:=Ed (I.hok a _ j) pr;exact⟨cd,dd,sl,es,ep,h1,h2,z,.inr ⟨_,Rd.of j⟩⟩
theorem wN{d:Xc}{Q:i0->s9->Prop}{A:MU}{E:i0->s9->Prop}{s:s9}{cd:i0}{dd:Option Xc}{sl:Array (Option i0)}{es:Array Nq}{ep:Nat}{prog:Ml}{w:MQ}(ty:s.TypeIs (.ref d) "dict")(z:(d==O0)=N2)(hd:s.heap.get? d=Z {cls:=cd,dict:=dd,data:=.dict es ep,slots:=sl})(q:Q (.ref s.heap.objs.size) {s with heap:=s.heap.push {cls:=.type "dict_items",data:=.fields #[.ref d]}}):LR (model prog w) A (call (.builtin "dict.items") [.ref d]) Q E s:=by
 have j:cd=.type "dict":=by obtain⟨o,h1,h2⟩:=ty;rw[hd]at h1;cases h1;exact h2
 subst j;refine MB Vy ty F.entry_dict_items ?_ (F.args_dict_items_1 _);unfold NN.«dict.items»
 wp_walk
 exact⟨_,rfl,q⟩
theorem zC{e:Expr}{ta:TEd}{p pos apos cpos:Pos}(hu:X.A.units+16<Po)(m:ad ta)(hc:X.calm=F2)(he:PE X e (lE X.K ta))(hg:Gl X "sorted")(hm:X.mg "sorted"=Y)(Jp:SR e "items" X.env (eval e X.env)=eval e X.env)(Jq:(apos.endLine==cpos.line)=F2):
 PE X (.Call (.Name "sorted" p) [.Call (.Attribute e "items" apos) [] [] cpos] [] pos) (lE X.K (kb ta)):=by
 intro pins s σ H Q I h;obtain⟨ρ,M,rs,rm,h⟩:=h;refine NI (bZ I hg hm (u:=.builtin "sorted") (by decide +kernel) ?_ (by decide) (by decide))
 refine Ro ?_ rfl rfl;refine P4 ?_;refine wpAny_Call_method0_late Jp Jq (thn (he pins s σ H (λv H1=>∃fv a t kvs sh,Ext M H fv H1/\RM X.K fv H1/\v=.ref a/\fv a=Z (.dct t kvs)/\hW sh=F2/\(∀kv∈kvs,hs sh (kvD kv)=F2)/\∀p ys,fv p=Y->ys.Perm (kvs.map kvD)->gh ys->KE' X.K M H Q (.ref p) (ag fv p (.lst ys))) I ⟨ρ,M,rs,rm,m _ _ _ _ (λx fv ⟨a,t,kvs,sh,e,e1,e2,e3,q1⟩ v H1 x1 Fn JB=>by subst e;exact⟨fv,a,t,kvs,sh,x1,Fn,WR.mp JB,e1,e2,e3,q1⟩) h⟩) λv s1 ⟨x,H1,I1,r1,fv,a,t,kvs,sh,x1,Fn,ex,e1,hok,Jt,q⟩=>?_)
 subst ex;obtain rfl:v=MA a:=r1;obtain⟨cd,dd,sl,es,ep,hd,hz,Ju,hD⟩:=sF I1 Fn e1;obtain⟨t1,t2,JC⟩:=jz I1 hD;refine⟨"dict","dict.items",F.plainAttrs_dict,Vy,F.type_dict_items,t1,t2,R7 rfl (PySem.evalArgs_none ?_)⟩;refine wN t1 JC hd ?_;refine Qn ?_;have kpv:∀b o,s1.heap.get? b=Z o->(s1.heap.push {cls:=N1 "dict_items",data:=W6 #[MA a]}).get? b=Z o:=λb o e=>q7 _ e;obtain⟨hS,JD⟩:=sy (xs:=kvs.map kvD) hok (λd hd=>by obtain⟨kv,JE,rfl⟩:=LU.mp hd;exact Jt kv JE)
 have U:=jc hok;have Jv:∀(h':Heap) (r:Rw),(∀b o,s1.heap.get? b=Z o->h'.get? b=Z o)->r.2.1∈kvs->RD X.K H1 r.2.1.1 r.2.2.1->RelV r.2.2.1 r.2.2.2.2.key->RD X.K H1 r.2.1.2 r.2.2.2.1->RelV r.2.2.2.1 r.2.2.2.2.val->h'.get? r.1=Z {cls:=.type "tuple",data:=.seq #[r.2.2.2.2.key,r.2.2.2.2.val]}->∃as,QK h' (.ref r.1) (pd (kvD r.2.1)) as:=by
  intro h' r kp hm g1 g2 g3 g4 g5;have J:=Jt _ hm
  match sh,J,U with
  |.tup l,J,U=>
   simp only[kvD,hs]at J
   match l,J,U with
   |[sa,sb],J,U=>
    simp only[hss,r0,and_true]at J;simp only[dep,deps]at U;obtain⟨as,ra⟩:=bJ I1 Fn 16 _ _ _ _ (oD fv sa _ 16 J.1 ∅) g1 g2
    obtain⟨bs,rb'⟩:=bJ I1 Fn 16 _ _ _ _ (oD fv sb _ 16 J.2 ∅) g3 g4
    have ra:=be (λb o e _=>kp b o e) (ka sa _ J.1).1 ra;have rb':=be (λb o e _=>kp b o e) (ka sb _ J.2).1 rb';have fin:QK h' (.ref r.1) (.tuple [pd r.2.1.1,pd r.2.1.2]) (as++(bs++[])):=.tuple g5 rfl rfl (.cons ra (.cons rb' .nil));exact⟨_,fin⟩
   |[],J,_=>simp[hss]at J
   |[_],J,_=>simp[hss]at J
   |_::_::_::_,J,_=>simp[hss]at J
  |.int,J,_=>simp[kvD,hs]at J
 refine ni (cap:=LK) ur (m:=7) (ds:=(kvs.map kvD).map pd) (C:=λh' us=>(∀b o,s1.heap.get? b=Z o->h'.get? b=Z o)/\∃L:List Rw,L.map (λr=>MA r.1)=us/\L.map (λr=>r.2.1)=kvs/\us.Nodup/\∀r∈L,RD X.K H1 r.2.1.1 r.2.2.1/\RelV r.2.2.1 r.2.2.2.2.key/\RD X.K H1 r.2.1.2 r.2.2.2.1/\RelV r.2.2.2.1 r.2.2.2.2.val/\h'.get? r.1=Z {cls:=.type "tuple",data:=.seq #[r.2.2.2.2.key,r.2.2.2.2.val]}/\s1.heap.get? r.1=Y) ∅ hS JD (λE R hR=>?_) λh1 h2 us out n' tk hC old g2 Jm Jw JK JL ht=>?_
 ·refine It.collect_view (A:=X.A.in1) (s:={s1 with heap:=s1.heap.push {cls:=N1 "dict_items",data:=W6 #[MA a]}}) (I.ok.hd hc) (LF _ rfl) (kpv _ _ hd) hz λh' us k1 k2 k3 k4=>?_
  obtain⟨L,l1,l2,l3⟩:=AH (G:=λt e=>h'.get? t=Z {cls:=.type "tuple",data:=.seq #[e.key,e.val]}/\s1.heap.get? t=Y) Ju (by simpa using k2) λj hj=>by
   obtain⟨t,e,e1,e2,e3,e4⟩:=k4 j (by simpa using hj)
   refine⟨t,e,e1,by rw[Mq];exact e2,e3,?_⟩
   cases hq:s1.heap.get? t with
   |none=>rfl
   |some o=>rw[kpv _ _ hq]at e4;cases e4
  refine hR h' us _ ⟨λb o e=>k1 b o (kpv b o e),L,l1,l2,k3,l3⟩ (λu hu=>?_) ⟨by rw[k2];exact hz,by rw[k2];exact hz⟩ (LW _)
  rw[<-l1]at hu;obtain⟨r,O,rfl⟩:=LU.mp hu;obtain⟨p1,p2,p3,p4,p5,p6⟩:=l3 r O;have hm:r.2.1∈kvs:=by rw[<-l2];exact Mn O
  obtain⟨as,ra⟩:=Jv h' r (λb o e=>k1 b o (kpv b o e)) hm p1 p2 p3 p4 p5;exact⟨_,Mn (Mn hm),as,ra⟩
 ·obtain⟨kp,L,l1,l2,l3,l4⟩:=hC;rw[<-l1]at Jm;obtain⟨L',p1,p2⟩:=eU (fun r:Rw=>MA r.1) Jm rfl;have Jx:∀b o,s1.heap.get? b=Z o->h2.get? b=Z o:=fun b o e=>old b o (kp b o e);have B:s1.heap.get? h1.objs.size=Y:=by
   cases hq:s1.heap.get? h1.objs.size with
   |none=>rfl
   |some o=>exact absurd (LD (kp _ _ hq)) (Nj _)
  have JF:(L.map λr=>r.1).Nodup:=by
   rw[<-l1]at l3;have:(L.map λr=>MA r.1)=(L.map λr=>r.1).map MA:=by simp
   rw[this]at l3;exact List.Pairwise.of_map _ (λa b Jo he=>Jo (by rw[he])) l3
  have Jn:∀r∈L',r∈L:=λr O=>p1.mem_iff.mp O;have hp:∀r∈L,r.1≠h1.objs.size:=λr O=>Mt (LD (l4 r O).2.2.2.2.1)
  let N:Xc->Option HO:=λb=>if b=h1.objs.size then Z (.lst (L'.map λr=>V.ref r.1))else(L.find? λx=>decide (x.1=b)).map λr=>.tup [r.2.2.1,r.2.2.2.1]
  have Jy:N h1.objs.size=Z (.lst (L'.map λr=>V.ref r.1)):=by show(if _ then _ else _)=_;rw[if_pos rfl]
  have JG:∀r∈L,N r.1=Z (.tup [r.2.2.1,r.2.2.2.1]):=λr O=>by
   show(if _ then _ else _)=_
   rw[if_neg (hp r O),zB JF O];rfl
  have Jr:∀b o,N b=Z o->b=h1.objs.size/\o=.lst (L'.map λr=>V.ref r.1)∨∃r∈L,b=r.1/\o=.tup [r.2.2.1,r.2.2.2.1]:=λb o e=>by
   by_cases hb:b=h1.objs.size
   ·subst hb;rw[Jy]at e;cases e;exact .inl ⟨rfl,rfl⟩
   ·right
    have e:((L.find? λx=>decide (x.1=b)).map λr=>HO.tup [r.2.2.1,r.2.2.2.1])=Z o:=by
     have e':(if b=h1.objs.size then Z (HO.lst (L'.map λr=>V.ref r.1))else(L.find? λx=>decide (x.1=b)).map λr=>HO.tup [r.2.2.1,r.2.2.2.1])=Z o:=e
     rw[if_neg hb]at e';exact e'
    cases hf:L.find? λx=>decide (x.1=b)with
    |none=>rw[hf]at e;cases e
    |some r=>rw[hf]at e;cases e;have JH:=Wj hf;exact⟨r,SA hf,(by simpa using JH:r.1=b).symm,rfl⟩
  have oldH:∀b o,H1 b=Z o->lay H1 N b=Z o:=λb o e=>by
   rw[iF]
   ·exact e
   ·cases hq:N b with
    |none=>rfl
    |some o'=>
     obtain⟨ob,eo⟩:=(I1.hok b o e).there
     rcases Jr b o' hq with⟨rfl,_⟩|⟨r,O,rfl,_⟩
     ·rw[B]at eo;cases eo
     ·rw[(l4 r O).2.2.2.2.2]at eo;cases eo
  have st:Stab H1 (lay H1 N):=⟨λb xs e=>oldH b _ e,λb o u e=>oldH b _ e⟩;have Js:L'.length=kvs.length:=by rw[p1.length_eq,<-l2];simp
  have JI:=cr Ju;have I2:=I1.laidN (t':=tk) (h':=h2) (N:=N) Jx (λb o e=>by
   rcases Jr b o e with⟨rfl,_⟩|⟨r,O,rfl,_⟩
   ·exact B
   ·exact(l4 r O).2.2.2.2.2) (λb o e=>by
   rcases Jr b o e with⟨rfl,rfl⟩|⟨r,O,rfl,rfl⟩
   ·refine⟨by rw[tv,Js,JI];simpa using hz,out,n',?_,g2⟩
    rw[<-p2];have:∀l:List Rw,Vals (l.map λr=>V.ref r.1) (l.map λr=>MA r.1):=by
     intro l
     induction l with
     |nil=>exact .nil
     |cons r l ih=>exact .cons rfl ih
    exact this L'
   ·obtain⟨q1,q2,q3,q4,q5,q6⟩:=l4 r O;exact⟨by show 2<=LK;decide,[r.2.2.2.2.key,r.2.2.2.2.val],.cons q2 (.cons q4 .nil),_,old _ _ q5,rfl,0,rfl⟩)
  refine⟨.ref h1.objs.size,_,I2,rfl,?_⟩;have Jz:fv h1.objs.size=Y:=Fn.out (I1.fresh' B);have JA:RDs X.K (lay H1 N) (L'.map λr=>kvD r.2.1) (L'.map λr=>V.ref r.1):=by
   have:∀l:List Rw,(∀r∈l,r∈L)->RDs X.K (lay H1 N) (l.map λr=>kvD r.2.1) (l.map λr=>V.ref r.1):=by
    intro l
    induction l with
    |nil=>intro _;exact RDs.nil
    |cons r l ih=>
     intro hl;obtain⟨q1,q2,q3,q4,q5,q6⟩:=l4 r (hl r (by simp))
     refine RDs.cons (WZ ⟨r.1,_,rfl,lh (JG r (hl r (by simp))),RDs.cons (q1.mono st) (RDs.cons (q3.mono st) RDs.nil)⟩) (ih λr' JJ=>hl r' (by simp[JJ]))
   exact this L' Jn
  refine q h1.objs.size (L'.map λr=>kvD r.2.1) Jz ?_ ?_ (.ref h1.objs.size) (lay H1 N) (x1.trans ⟨λb o _ e=>oldH b o e,λb o n e=>?_⟩) (λa' o' e'=>?_) (WR.mpr rfl)
  ·have:=p1.map (λr:Rw=>kvD r.2.1);rw[show L.map (λr:Rw=>kvD r.2.1)=(L.map λr=>r.2.1).map kvD by simp,l2]at this
   exact this
  ·unfold gh;rw[Nu];rw[<-p2,Nu]at Jw;refine Jw.imp_of_mem fun {a b} ha hb Jo=>?_;have rd:∀r∈L',Ob h2 (MA r.1)=pd (kvD r.2.1):=fun r O=>by
    obtain⟨q1,q2,q3,q4,q5,q6⟩:=l4 r (Jn r O);have hm:r.2.1∈kvs:=by rw[<-l2];exact Mn (Jn r O)
    obtain⟨as,ra⟩:=Jv h2 r Jx hm q1 q2 q3 q4 (old _ _ q5);exact OR (hS.lay _ (Mn (Mn hm))).1 ra
   rw[rd a ha,rd b hb]at Jo;exact Jo
  ·have hb:b≠h1.objs.size:=fun z=>by
    rw[z,I1.fresh' B]at e;cases e
   exact aC hb
  ·by_cases hz:a'=h1.objs.size
   ·subst hz;rw[ab]at e';cases e';exact⟨_,lh Jy,JA⟩
   ·rw[aC hz]at e';exact(Fn a' o' e').mono st λho e=>oldH a' ho e
end
section
noncomputable def oE(to tk tx:TEd):TEd:=λρ M Q=>to ρ M λx M1=>∃a t kvs,x=.ref a/\M1 a=Z (.dct t kvs)/\tk ρ M1 λk M2=>tx ρ M2 λz M3=>∃t' kvs',M3 a=Z (.dct t' kvs')/\eN t' k=F2/\Q ((dget kvs' k).getD z) M3
theorem wP{to tk tx:TEd}(h1:ad to)(h2:ad tk)(B:ad tx):ad (oE to tk tx):=λρ M Q Q' i q=>h1 _ _ _ _ (λx O j=>(by obtain⟨a,t,kvs,e,e1,F⟩:=j;exact⟨a,t,kvs,e,e1,h2 _ _ _ _ (λk M2 G=>B _ _ _ _ (λz U j=>(by obtain⟨t',kvs',J,ok,L⟩:=j;exact⟨t',kvs',J,ok,i _ _ L⟩)) G) F⟩)) q
section
variable{X:Cx}
theorem Ee{M:Mem}(rm:RM K M H){t:Bool}(e:M a=Z (.dct t kvs)):IsD H a:=by
 have ro:=rm a _ e
 cases t with
 |false=>obtain⟨ps,j,_⟩:=ro;exact .inl ⟨_,Rd.of j⟩
 |true=>obtain⟨ps,j,_⟩:=ro;exact .inr ⟨_,Rd.of j⟩
theorem C6{o e f:Expr}{to tk tx:TEd}{apos cpos:Pos}(Fn:X.A.units+1<Po)(mo:ad to)(mk:ad tk)(mx:ad tx)(ho:PE X o (lE X.K to))(he:PE X e (lE X.K tk))(hf:PE X f (lE X.K tx))(m:M2 X o "get" apos e f cpos):
 PE X (.Call (.Attribute o "get" apos) [e,f] [] cpos) (lE X.K (oE to tk tx)):=by
 refine PE.imp (yv Fn ho he hf m) λσ H Q h=>?_;obtain⟨ρ,M,rs,rm,q⟩:=h;refine⟨ρ,M,rs,rm,mo _ _ _ _ (λx fv g9 v H1 L j rd1=>?_) q⟩;obtain⟨a,t,kvs,e,e1,q1⟩:=g9;subst e
 cases WR.mp rd1
 have B:=rs.mono (L.stab rm);refine⟨a,rfl,Ee j e1,ρ,fv,B,j,mk _ _ _ _ (λk M2 q2 v2 H2 O F G=>?_) q1⟩;have J:=B.mono (O.stab j);refine⟨ρ,M2,J,F,mx _ _ _ _ (λz M3 g9 v3 H3 U rm3 rd3=>?_) q2⟩;obtain⟨t',kvs',e3,ok,q3⟩:=g9;obtain⟨w,g,g1,g2⟩:=kW rm3 e3 ok (G.mono (U.stab F));refine⟨w,g,?_⟩;refine q3 _ H3 (L.trans (O.trans U)) rm3 ?_
 cases e4:dget kvs' k with
 |none=>rw[g2 e4];exact rd3
 |some d=>obtain⟨w',e5,r5⟩:=g1 d e4;rw[e5];exact r5
end
end
end Mi
section
noncomputable def Itv(K:Frag)(a:Xc)(n:Nat):It:=⟨λi H=>i<n/\∃xs x,SqL K H a xs/\xs[n-1-i]?=Z x,λi H x H'=>H'=H/\∀xs,SqL K H a xs->xs[n-1-i]?=Z x,λi _=>n<=i⟩
theorem zD{tg:Expr}(a it:Xc)(n:Nat):gF P w K tg (Itv K a n) [it] it (λi h=>i<=n/\h.get? it=Z (Rv.rO a ((n:Int)-1-i))) where
 mem:=by simp
 obj:=λi h st b j=>by
  have e:b=it:=by simpa using j
  subst e;exact⟨_,st.2,λv z=>by cases z⟩
 keep:=λi h h' st k=>⟨st.1,k it (by simp) _ st.2⟩
 item:=by
  intro X F hw G O i pins s σ H E I hf st B;subst F hw G;obtain⟨hi,xs,x,U,hx⟩:=B;obtain⟨its,rv,p,hz⟩:=I.list U;obtain⟨u,Fn,ru⟩:=rv.get hx;obtain⟨f0,f1,f2,J,f4,L⟩:=hf it (by simp)
  have e:(n:Int)-1-i=((n-1-i:Nat):Int):=∅
  have e2:(n:Int)-1-((i+1:Nat):Int)=((n-1-i:Nat):Int)-1:=∅
  refine Rv.nx_item (i:=n-1-i) (x:=u) (by rw[<-e];exact st.2) p.isList (by simpa using Fn) λh' st' sb=>?_
  have fv:Inv X pins σ H {s with heap:=h'}:=I.turned (t':=s.toks) (λb o j e=>(sb.2 b j).trans e) f0 f1 J f4 L
  exact⟨u,rfl,nU (s:={s with heap:=h'}) (n:="list_reverseiterator") st' rfl rfl (by decide) ⟨x,H,fv,ru,⟨rfl,λys hy=>by rw[I.list_inj hy U];exact hx⟩,⟨∅,by rw[e2];exact st'⟩,λb j=>(hf b j).1⟩⟩
 done:=by
  intro X F hw G O i pins s σ H E I hf st B;subst F hw G;have B:n<=i:=B;obtain⟨f0,f1,f2,J,f4,L⟩:=hf it (by simp)
  have e:(n:Int)-1-i = -1:=by have:=st.1;lia
  exact Rv.nx_end (I.ok.hd O) (by rw[<-e];exact st.2) λh' k=>⟨rfl,I.turned (t':=s.toks) (λb o _ e=>k b o e) f0 f1 J f4 L⟩
 self:=λA i s Q E st h=>Rv.it_self st.2 h
section
variable{X:Cx}
noncomputable def H8(K:Frag)(tl:TE):TI:=λσ H R=>tl σ H λx H1=>∃a xs,x=.ref a/\SqL K H1 a xs/\R (Itv K a xs.length) H1
theorem Ef{tg e:Expr}(he:PE X e te)(G:Gl X "reversed")(hm:X.mg "reversed"=Y)(hs:Mk [e] X.env=[(N2,eval e X.env)]):
 PI X tg (.Call (.Name "reversed" p) [e] [] pos) (H8 X.K te):=by
 intro pins s σ H R I h;refine NI (bZ I G hm (u:=.type "reversed") boot_reversed ?_ (by decide) (by decide))
 refine Nc ?_ (by rw[hs];rfl) rfl
 rw[hs];refine P4 (thn (he pins s σ H _ I h) λu s1 J=>?_);obtain⟨x,H1,B,L,O⟩:=J;obtain⟨a,xs,rfl,sq,q⟩:=O
 cases L
 refine Qn ?_;obtain⟨its,rv,pl,Fn⟩:=B.list sq;have hlen:=rv.length;obtain⟨⟨cls,dd,dat,sl⟩,n,e1,j,F,z⟩:=pl;dsimp only at j F z;subst j z;refine Rv.call_rev e1 ?_;have sz:its.toArray.size=its.length:=LN;rw[sz,<-hlen];refine Rv.it_self (s:={s1 with heap:=s1.heap.push (Rv.rO a ((xs.length:Nat)-1))}) (LF _ rfl) ?_
 refine⟨s1.heap.objs.size,[s1.heap.objs.size],_,_,H1,rfl,B.kept (t':=s1.toks) λb o e=>q7 _ e,zD a _ xs.length,⟨Og _,?_⟩,λb U=>?_,q⟩
 ·rw[show((xs.length:Int)-1-(0:Nat))=(xs.length:Int)-1 by lia];exact LF _ rfl
 ·have e:b=s1.heap.objs.size:=by simpa using U
  subst e;exact B.fpOk (LW _) (B.hok.fresh (LW _))
end
namespace Mi
section
variable{X:Cx}
noncomputable def oF(ta:TEd):TId:=λρ M R=>ta ρ M λx M1=>∃a ds,x=.ref a/\M1 a=Z (.lst ds)/\R ds.reverse (λM=>M a=Z (.lst ds)) M1
theorem wQ{ta:TEd}(h:ad ta):cn (oF ta):=λρ M Q Q' i q=>h _ _ _ _ (λx B j=>(by obtain⟨a,ds,e,e1,z⟩:=j;exact⟨a,ds,e,e1,i _ _ _ z⟩)) q
theorem Eg{K:Frag}{H1:Hp}{a:Xc}{ds:List D}:gQ K H1 ds.reverse (λM=>M a=Z (.lst ds)) (Itv K a ds.length):=λM H st rm c i=>by
 obtain⟨vs,j,rv⟩:=rm _ _ c;have sq:=SqL.of (K:=K) j;have l:=rv.length;rw[QE];refine⟨λhi=>hi,λhi=>⟨⟨hi,vs,vs[ds.length-1-i]'∅,sq,z0 ∅⟩,λx H' y=>?_⟩⟩
 obtain⟨e,y⟩:=y;subst e;obtain⟨d,hd,rd⟩:=rv.getV (y vs sq);exact⟨.inl rfl,d,by rw[U5 hi];exact hd,rd⟩
theorem Eh{tg e:Expr}{ta:TEd}{p pos:Pos}(m:ad ta)(he:PE X e (lE X.K ta))(j:Gl X "reversed")(hm:X.mg "reversed"=Y)(hs:Mk [e] X.env=[(N2,eval e X.env)]):
 PI X tg (.Call (.Name "reversed" p) [e] [] pos) (lI X.K (oF ta)):=by
 refine PI.imp (Ef he j hm hs) λσ H R h=>?_;obtain⟨ρ,M,rs,rm,q⟩:=h;refine⟨ρ,M,rs,rm,m _ _ _ _ (λx F g9 v H1 x1 rm1 rd1=>?_) q⟩;obtain⟨a,ds,e,e1,z⟩:=g9;subst e
 cases WR.mp rd1
 obtain⟨vs,B,rv⟩:=rm1 _ _ e1;refine⟨a,vs,rfl,SqL.of B,?_⟩;rw[rv.length];exact z _ H1 x1 rm1 Eg
end
end Mi
end
namespace Mi
end Mi
section
section
variable{prog:Ml}{w:MQ}{A:MU}{E:i0->s9->Prop}
theorem nr{it l:Xc}{items:Array i0}(j:l≠it):∀(n i:Nat) (s:s9) (Q:List i0->s9->Prop),s.heap.IsListIter it l i->s.heap.IsList l items->i+n<=items.size->
 (∀h':Heap,h'.IsListIter it l (i+n)->NH it s.heap h'->Q ((items.toList.drop i).take n) {s with heap:=h'})->LR (model prog w) A (draw (.ref it) n) Q E s
 |0,i,s,Q,hi,B,hs,q=>by
  unfold draw;have:=q s.heap (by simpa using hi) ⟨rfl,λ_ _=>rfl⟩
  exact z4 (by simpa using this)
 |n+1,i,s,Q,hi,B,hs,q=>by
  unfold draw;refine gV (Tr hi B (x:=items[i]'∅) (by simp) λh' F sb=>?_)
  refine gV (Na (nr j n (i+1) _ _ F (B.extBut sb.extBut j) ∅ λh2 G z=>?_))
  refine z4 ?_;have e:items[i]'∅::(items.toList.drop (i+1)).take n=(items.toList.drop i).take (n+1):=by rw[NF (i:=i) (l:=items.toList) (by simp;lia),List.take_succ_cons];rfl
  have:=q h2 (by rw[show i+(n+1)=i+1+n by lia];exact G) ⟨z.1.trans sb.1,λb J=>(z.2 b J).trans (sb.2 b J)⟩
  rw[<-e]at this;exact this
theorem jd{l:Xc}{items:Array i0}{Q:List i0->s9->Prop}(F:A.handled=Y)(j:s.heap.IsList l items)(q:∀h',(∀b o,s.heap.get? b=Z o->h'.get? b=Z o)->Q items.toList {s with heap:=h'}):LR (model prog w) A (W5 (.ref l) items.size Y) Q E s:=by
 unfold W5;have nb:∀Q':Bool->s9->Prop,Q' N2 s->LR (model prog w) A (VW (.ref l)) Q' E s:=λQ' h=>by unfold VW;refine gV (U0 j.typeIs slot_list_iter.lookup ?_);exact z4 h
 refine gV (nb _ ?_);simp only[NS,if_false];refine gV (Na (Oo j ?_));have lt:l<s.heap.objs.size:=by obtain⟨o,e,_⟩:=j;exact LD e
 refine gV (Na (nr (items:=items) (Mt lt) items.size 0 _ _ ⟨_,LF _ rfl,rfl,rfl⟩ (j.push _) ∅ λh2 G z=>?_))
 have B:h2.IsList l items:=(j.push _).extBut z.extBut (Mt lt);rw[Up,NY (by simp)]
 rw[if_neg (by simp)]
 refine gV (Na (U2 F (s:={s with heap:=h2}) G B (by simp) λJ eb=>?_))
 simp only[Option.isSome_none,NS,if_false];refine z4 (q J λb o e=>?_);have nb:b≠s.heap.objs.size:=Mt (LD e);exact eb b o nb (z.extBut b o nb (q7 _ e))
theorem rJ{k:Nat}{l:Xc}{items:Array i0}{Q:Unit->s9->Prop}(z:A.handled=Y)(B:s.heap.IsList l items)(F:(NB elts env).length=items.size)(j:(NB elts env).findIdx? (·.1)=Y)(q:∀h',(∀b o,s.heap.get? b=Z o->h'.get? b=Z o)->LR (model prog w) A (SO ((NB elts env).map (·.2)) items.toList) Q E {s with heap:=h'}):
 LR (model prog w) A (assign (.Tuple elts k pos) env (.ref l)) Q E s:=by
 rw[assign_Tuple];refine gV (Pt ?_);unfold unpack;rw[j,F];exact gV (Na (jd z B q))
end
section
variable{X:Cx}
noncomputable def H9(K:Frag)(n:Nat)(t:TGs):TG:=λv σ H Q=>∃a xs,v=.ref a/\SqL K H a xs/\xs.length=n/\t xs σ H Q
theorem Ei{es:List Expr}{k:Nat}{t:TGs}{n:Nat}(z:X.calm=F2)(h:PGs X es t)(B:(NB es X.env).length=n)(j:(NB es X.env).findIdx? (·.1)=Y):PG X (.Tuple es k pos) (H9 X.K n t):=by
 intro pins s σ H v u Q I r hw;obtain⟨a,xs,e1,F,G,hw⟩:=hw;subst e1
 cases r
 obtain⟨its,rv,J,O⟩:=I.list F;refine rJ (I.ok.hd z) J.isList (by simp[B,<-G,rv.length]) j λh' hx=>?_
 have L:Inv X pins σ H {s with heap:=h'}:=I.kept (t':=s.toks) hx
 exact h pins _ σ H xs _ Q L (by simpa using rv) hw
end
namespace Mi
section
variable{X:Cx}{K:Frag}
noncomputable def lGL(K:Frag)(b:BTs):TG:=λv σ H Q=>∃a vs ds ρ ρ',v=.ref a/\SqL K H a vs/\RDs K H ds vs/\RS K H σ ρ/\b ds ρ=Z ρ'/\∀σ',RS K H σ' ρ'->Q σ' H
theorem Ej{es:List Expr}{k:Nat}{bs:BTs}{n:Nat}{pos:Pos}(z:X.calm=F2)(hlen:∀ds ρ ρ',bs ds ρ=Z ρ'->ds.length=n)(h:PGs X es (lGs X.K bs))(B:(NB es X.env).length=n)(j:(NB es X.env).findIdx? (·.1)=Y):PG X (.Tuple es k pos) (lGL X.K bs):=PG.imp (Ei z h B j) λv σ H Q g9=>(by obtain⟨a,vs,ds,ρ,ρ',e,sq,r,rs,eb,q⟩:=g9;exact⟨a,vs,e,sq,by rw[r.length];exact hlen _ _ _ eb,ds,ρ,ρ',r,rs,eb,q⟩)
noncomputable def oG(te:TEd)(b:BTs):TSd:=λD ρ M=>te ρ M λx M1=>∃a ds ρ',x=.ref a/\M1 a=Z (.lst ds)/\b ds ρ=Z ρ'/\D.nx ρ' M1
theorem wR{te:TEd}{bt:BTs}(h:ad te):aP (oG te bt):=λa b ρ M i q=>h _ _ _ _ (λd B j=>(by obtain⟨x,ds,ρ',e,e1,e2,z⟩:=j;exact⟨x,ds,ρ',e,e1,e2,i.nx _ _ z⟩)) q
theorem wU{te:TEd}{b:BTs}(m:ad te)(D:bP)(σ:St)(H:Hp)(h:lS K (oG te b) D σ H):oS (lE K te) (lGL K b) D σ H:=by
 obtain⟨ρ,M,A,rs,rm,l,q⟩:=h;refine⟨ρ,M,rs,rm,m _ _ _ _ (λd B g9 v H1 z j rd1=>?_) q⟩;obtain⟨a,ds,ρ',e1,e2,e,F⟩:=g9;subst e1
 cases WR.mp rd1
 obtain⟨vs,G,rv⟩:=j _ _ e2;exact⟨a,vs,ds,ρ,ρ',rfl,SqL.of G,rv,rs.mono (z.stab rm),e,λσ' rs'=>l.nx ρ' B σ' H1 z rs' j F⟩
end
end Mi
end
namespace Mi
end Mi
namespace Dk
variable{it d:Xc}{ep:Nat}{dd:Option Xc}{sl:Array (Option i0)}{es:Array Nq}
section
variable{prog:Ml}{w:MQ}{A:MU}{E:i0->s9->Prop}{s:s9}
noncomputable def kO(d:Xc)(i n ep:Nat):Obj:={cls:=.type "dict_keyiterator",data:=.fields #[.ref d,.int i 0,.int n 0,.int ep 0]}
theorem slot_next:Slot "dict_keyiterator" "__next__" "dict_keyiterator.__next__":=.of (owner:="dict_keyiterator") (n:="__next__") (by rw[QP,Pc];kernel_rfl) (by decide +kernel) (by decide +kernel) (by decide +kernel) (.inl (by decide +kernel)) (by rw[OK];kernel_rfl)
theorem bu:Vr table "dict_keyiterator.__next__"=Z NN.«dict_keyiterator.__next__»:=Rt (by kernel_rfl)
theorem bI(a:i0):V5 "dict_keyiterator.__next__" ⟨[a],[]⟩:=by unfold V5;kernel_rfl
theorem cW(ty:s.TypeIs (.ref it) "dict_keyiterator"){types:List String}{Q:Bool->s9->Prop}(q:Q (types.any λt=>[N1 "dict_keyiterator",N1 "object"].contains (N1 t)) s):LR (model prog w) A (Pa (.ref it) types) Q E s:=by
 have hm:=UL;unfold Pa
 wp_walk
 exact q
theorem nx_item{i:Nat}{cd:i0}{e:Nq}{Q:Option i0->s9->Prop}(hi:s.heap.get? it=Z (kO d i es.size ep))(hd:s.heap.get? d=Z {cls:=cd,dict:=dd,data:=.dict es ep,slots:=sl})(he:es[i]?=Z e)(q:∀h',h'.get? it=Z (kO d (i+1) es.size ep)->NH it s.heap h'->Q (Z e.key) {s with heap:=h'}):LR (model prog w) A (OB (.ref it)) Q E s:=by
 have ty:s.TypeIs (.ref it) "dict_keyiterator":=⟨_,hi,rfl⟩;unfold OB;refine gV (Ol (Mw (name:=Mu "__next__") ty slot_next (MB slot_next ty bu ?_ (bI _))));unfold NN.«dict_keyiterator.__next__»;have hm:=UL
 wp_walk
 dsimp only;rw[if_neg (by simp)]
 simp only[LO,he];refine gV (Nv (Q:=λn s'=>n=0/\s'=s) ?_ (λn s' hs=>?_) λ_ _ z=>z)
 ·wp_walk
  exact⟨by kernel_rfl,rfl⟩
 obtain⟨rfl,rfl⟩:=hs;refine gV (cW ty ?_);refine gV (Ms hi (by simp) λh1 e1 s1=>?_)
 rw[if_neg (by decide +kernel)]at e1
 have e1:h1.get? it=Z (kO d (i+1) es.size ep):=e1;have j:SW {s' with heap:=h1} (.ref it) "dict_keyiterator":=⟨_,e1,rfl⟩
 refine gV (Na ?_);refine gV (cW j ?_);refine Rg (by decide +kernel) ?_
 refine z4 (z4 ⟨_,rfl,z4 ?_⟩);exact q h1 e1 s1
theorem nx_end{cd:i0}{Q:Option i0->s9->Prop}(j:A.handled=Y)(hi:s.heap.get? it=Z (kO d es.size es.size ep))(hd:s.heap.get? d=Z {cls:=cd,dict:=dd,data:=.dict es ep,slots:=sl})(q:∀h',(∀b o,b≠it->s.heap.get? b=Z o->h'.get? b=Z o)->Q Y {s with heap:=h'}):LR (model prog w) A (OB (.ref it)) Q E s:=by
 have ty:s.TypeIs (.ref it) "dict_keyiterator":=⟨_,hi,rfl⟩;unfold OB;refine gV (Ol (Mw (name:=Mu "__next__") ty slot_next (MB slot_next ty bu ?_ (bI _))));unfold NN.«dict_keyiterator.__next__»;have hm:=UL
 wp_walk
 dsimp only;rw[if_neg (by simp)]
 have he:es[es.size]?=Y:=Q3 (LW _);simp only[LO,he];refine gV (Nv (Q:=λn s'=>n=0/\s'=s) ?_ (λn s' hs=>?_) λ_ _ z=>z)
 ·wp_walk
  exact⟨by kernel_rfl,rfl⟩
 obtain⟨rfl,rfl⟩:=hs;refine gV (Ms hi (by simp) λh1 e1 s1=>?_)
 refine gV (m:=V3 (.type "StopIteration") []) ?_;simp only[V3,Vn];refine gV (Nf ?_ (by size_fits))
 refine gV (m:=P9 _ _) (OI (a:=NZ) (by first|rfl|(simp only[P9];rfl)) (Nf ?_ (by size_fits)))
 simp only[Wx];refine gV (SU ?_)
 first|rw[show A.in1.handled=Y from j]|rw[j]
 refine gV (z4 (Uh ?_));exact gV (P0 (T:="StopIteration") (b:=F2) ⟨_,LF _ rfl,rfl⟩ R9 (z4 (q _ λb o B e=>q7 _ (q7 _ (s1.extBut b o B e)))))
theorem C7{Q:i0->s9->Prop}(j:(d==O0)=N2)(hd:s.heap.get? d=Z {cls:=.type "dict",dict:=dd,data:=.dict es ep,slots:=sl})(q:Q (.ref s.heap.objs.size) {s with heap:=s.heap.push (kO d 0 es.size ep)}):LR (model prog w) A (Tq (.ref d)) Q E s:=by
 have ty:s.TypeIs (.ref d) "dict":=⟨_,hd,rfl⟩;refine SK ty VX (MB VX ty F.entry_dict_iter ?_ (F.args_dict_iter_1 _));unfold NN.«dict.__iter__»
 wp_walk
 exact⟨_,rfl,"dict_keyiterator",_,⟨_,LF _ rfl,rfl⟩,slot_next.lookup,q⟩
theorem walk(hn:A.handled=Y)(it d:Xc)(hne:d≠it)(es:Array Nq)(ep:Nat):
 Walks prog w A it [it,d] [it] es.size (λi v=>∃e,es[i]?=Z e/\v=e.key) (λi h=>h.get? it=Z (kO d i es.size ep)/\∃cd dd sl,h.get? d=Z {cls:=cd,dict:=dd,data:=.dict es ep,slots:=sl}) where
 sub:=λb hb=>by simp at hb;simp[hb]
 frame:=λ_ _ _ st k=>⟨k it (by simp) _ st.1,by obtain⟨cd,dd,sl,h⟩:=st.2;exact⟨cd,dd,sl,k d (by simp) _ h⟩⟩
 item:=λi s Q E hi st q=>by obtain⟨h1,cd,dd,sl,h2⟩:=st;refine nx_item (e:=es[i]) h1 h2 (MX hi) λh' e' s'=>?_;exact q _ h' s.toks ⟨_,MX hi,rfl⟩ ⟨e',cd,dd,sl,s'.extBut d _ hne h2⟩ λb o hb x=>s'.extBut b o (λz=>hb (by simp[z])) x
 done:=λs Q E st q=>by obtain⟨h1,cd,dd,sl,h2⟩:=st;exact nx_end hn h1 h2 λh' k=>q h' s.toks λb o hb x=>k b o (λz=>hb (by simp[z])) x
 self:=λi s Q E st q=>wpAny_pyIter_keyiter ⟨_,st.1,rfl,rfl⟩ q
theorem wV{Q:Bool->s9->Prop}(ty:s.TypeIs (.ref d) "dict")(q:Q N2 s):LR (model prog w) A (OW (.ref d)) Q E s:=by
 unfold OW;refine gV (U0 ty F.slot_dict_len.lookup ?_);generalize j:("dict.__len__":String)=z
 (fail_if_success (clear j z));wp_delta
 rw[show splitId z=Z ("dict","__len__")from by subst j;decide +kernel]
 subst j;refine gV (P0 (b:=F2) ty (by rw[OK];kernel_rfl) ?_)
 rw[if_neg (by decide)]
 refine Rg (by decide +kernel) ?_
 refine gV (PY ty ?_);exact z4 q
open Builtin.List in
theorem zE(hn:A.handled=Y){S:Xc}{c:Nat}{R:VF->s9->Prop}(res:i0)(fv:(d==O0)=N2)(hd:s.heap.get? d=Z {cls:=.type "dict",dict:=dd,data:=.dict es ep,slots:=sl})(Fn:s.heap.get? S=Z {cls:=.type "list",data:=.seq #[] c})(hz:es.size<=LK)(q:∀(h':Heap) (tk:Nat) (acc':Array i0) (c':Nat),(∀b o,b≠S->s.heap.get? b=Z o->h'.get? b=Z o)->h'.get? S=Z {cls:=.type "list",data:=.seq acc' c'}->acc'.toList=es.toList.map (·.key)->s.toks<=tk->R (.ok (.ret res)) {s with heap:=h',toks:=tk}):
 LR (model prog w) A.in1 (listExtendWith (.ref S) (.ref d) res) (λfin s'=>match fin with|.done f=>R (.ok f) s'|.again c'=>c'.quiet=F2/\Pb (model prog w) A c' R s') (λe s'=>R (.error e) s') s:=by
 have ty:s.TypeIs (.ref d) "dict":=⟨_,hd,rfl⟩;have G:S≠d:=λe=>by rw[e,hd]at Fn;simp at Fn
 have h1:listSameRef (.ref S) (.ref d)=N2:=by simp[listSameRef,G]
 unfold listExtendWith;refine gV (PY ty ?_);rw[if_neg (by rw[h1];decide)]
 refine gV (C7 fv hd ?_);refine gV (Na (wV (s:={s with heap:=s.heap.push (kO d 0 es.size ep)}) ⟨_,q7 _ hd,rfl⟩ ?_))
 have B:=LD Fn;have J:=LD hd;have W:=(walk (prog:=prog) (w:=w) (A:=A.in1) hn s.heap.objs.size d (Mt J) es ep).toS;have Jm:S∉[s.heap.objs.size,d]:=λhm=>by
  simp only[LI,MM,or_false]at hm
  rcases hm with e|e
  ·exact absurd (e▸B) (Nj _)
  ·exact G e
 refine Rg (by decide +kernel) ?_
 refine gV (Oc ?_);unfold listTouch;have L:(s.heap.push (kO d 0 es.size ep)).get? S=Z (V7 "list" #[] c):=q7 _ Fn;refine gV (gV (PD L rfl ?_ (by simp) (by simp)))
 have O:=OS L (λx=>x.push NZ);refine PD O rfl ?_ (by simp;decide) (by simp)
 have Jn:=OS O (λx=>x.pop);have oth:∀b o,b≠S->s.heap.get? b=Z o->(((s.heap.push (kO d 0 es.size ep)).update S (Om λx=>x.push NZ)).update S (Om λx=>x.pop)).get? b=Z o:=λb o U e=>by rw[Nb _ _ _ _ U,Nb _ _ _ _ U];exact q7 _ e
 have hit:(((s.heap.push (kO d 0 es.size ep)).update S (Om λx=>x.push NZ)).update S (Om λx=>x.pop)).get? s.heap.objs.size=Z (kO d 0 es.size ep):=by rw[Nb _ _ _ _ (Ny B),Nb _ _ _ _ (Ny B)];exact LF _ rfl
 refine z4 ⟨UK RZ _,codeAny_extend_loopS W hz _ Jm _ es.size 0 _ _ _ rfl (Og _) ⟨hit,_,_,_,oth d _ G.symm hd⟩ Jn (ItemsOf.nil _) λs' acc c' hm Jo ha=>?_⟩;rw[hm.eq_with];refine q _ _ acc c' (λb o U e=>?_) Jo ?_ hm.toks
 ·exact hm.heap b o (fun z=>by
   simp only[LI,MM,or_false]at z
   rcases z with z|z
   ·exact U z
   ·exact absurd (z▸LD e) (Nj _)) (oth b o U e)
 ·obtain⟨g1,g2⟩:=ha;apply Ov;intro j;rw[Mq,LQ,Mq]
  by_cases hj:j<es.size
  ·obtain⟨e,he,hv⟩:=g2 j (acc[j]'∅) (MX ∅)
   rw[MX ∅,hv,he];rfl
  ·rw[Q3 ∅,Q3 ∅];rfl
theorem collect_dict(L:A.handled=Y){Q:List i0->s9->Prop}(j:(d==O0)=N2)(hd:s.heap.get? d=Z {cls:=.type "dict",dict:=dd,data:=.dict es ep,slots:=sl})(O:es.size<=LK)(q:∀(h':Heap) (tk:Nat),(∀b o,s.heap.get? b=Z o->h'.get? b=Z o)->s.toks<=tk->Q (es.toList.map (·.key)) {s with heap:=h',toks:=tk}):LR (model prog w) A (collect (.ref d)) Q E s:=by
 unfold collect;refine gV (wpAny_runValue (Pm U7 ?_));unfold NN.«proto.collect»;dsimp only;refine gV (RA ?_ (by simp))
 refine z4 ⟨So _ (by decide +kernel),?_⟩
 refine Pm VV ?_;unfold NN.«list.__iadd__»;refine gV (OI (a:=(MA s.heap.objs.size,[MA d])) (by kernel_rfl) ?_)
 have z:(s.heap.push {cls:=N1 "list",data:=Qh [].toArray}).get? s.heap.objs.size=Z {cls:=N1 "list",data:=Qh #[] 0}:=LF _ rfl;rw[V4 (by rfl) (by rfl)]
 refine Nv (zE (s:={s with heap:=s.heap.push {cls:=N1 "list",data:=Qh [].toArray}}) (R:=λr s'=>r=.ok (.ret (.ref s.heap.objs.size))/\LR (model prog w) A (do
  let o <-load s.heap.objs.size
  match o.data with
  |.seq xs _=>pure xs.toList
  |_=>unsupported "internal:collect") Q E s') L (MA s.heap.objs.size) j (q7 _ hd) z O λh' tk acc c' kp B U G=>⟨rfl,?_⟩) (λfn s' h=>?_) (λe s' h=>?_)
 ·refine gV (Wp B ?_);refine z4 ?_;rw[U];exact q h' tk (λb o e=>kp b o (Mt (LD e)) (q7 _ e)) G
 ·cases fn with
  |done f=>
   obtain⟨e,h⟩:=h
   cases e
   exact h
  |again c'=>refine⟨h.1,OE h.2 λr s1 J=>?_⟩;obtain⟨rfl,J⟩:=J;exact J
 ·cases h.1
end
end Dk
namespace Mi
open L2.Srt
noncomputable def kc:RAd:=λds M Q=>∃a t kvs sh,ds=[.ref a]/\M a=Z (.dct t kvs)/\hW sh=F2/\(∀kv∈kvs,hs sh kv.1=F2)/\kvs.length<=63/\∀p ys,M p=Y->ys.Perm (kvs.map (·.1))->gh ys->Q (.ref p) (ag M p (.lst ys))
theorem ke:aM kc:=λ_ _ _ _ h j=>(by obtain⟨a,t,kvs,sh,e,e1,e2,z,B,q⟩:=j;exact⟨a,t,kvs,sh,e,e1,e2,z,B,λp ys n F hs=>h _ _ (q p ys n F hs)⟩)
theorem sH{K:Frag}{H:Hp}:∀{kvs:List (D×D)} {es:List Nq},NA (lj K H) kvs es->∃vs,RDs K H (kvs.map (·.1)) vs/\Vals vs (es.map (·.key))
 |_,_,.nil=>⟨[],RDs.nil,.nil⟩
 |_,_,.cons r t=>by obtain⟨vs,h1,h2⟩:=sH t;obtain⟨kV,vV,g1,g2,_,_⟩:=r;exact⟨kV::vs,RDs.cons g1 h1,.cons g2 h2⟩
section
variable{X:Cx}
theorem qq(L:X.A.units+16<Po)(O:X.calm=F2):CallR X (.builtin "sorted") (lR X.K kc):=by
 intro pins s σ H xs us Q I r h;obtain⟨ds,M,rm,rs,a,t,kvs,sh,rfl,e,hok,j,U,q⟩:=h;obtain⟨v,rfl,rv⟩:=rs.one;obtain⟨u,rfl,ru⟩:=dG r
 cases WR.mp rv
 cases(show u=MA a from ru)
 obtain⟨cd,dd,sl,es,ep,hd,Fn,z,fv⟩:=sF I rm e;obtain⟨t1,t2,B⟩:=jz I fv;obtain⟨vs,h1,h2⟩:=sH z;have F:cd=.type "dict":=by obtain⟨o,g1,g2⟩:=t1;rw[hd]at g1;cases g1;exact g2
 subst F;have hn:X.A.in1.handled=Y:=I.ok.hd O;exact rH rG L I rm h1 hok (λd hd=>by obtain⟨kv,G,rfl⟩:=LU.mp hd;exact j kv G) q h2 (by have:=h2.length;rw[tv]at this;simp at this;lia) (by have:=h2.length;rw[tv]at this;have h9:=h1.length;rw[tv]at h9;lia) λE R hR=>Dk.collect_dict hn B hd Fn λh' tk kp J=>hR h' tk kp J
end
end Mi
namespace Mi
end Mi
namespace Mi
end Mi
namespace Mi
end Mi
namespace Mi
end Mi
namespace Mi
end Mi
section
section
variable{X:Cx}
noncomputable def sJ:V->List V->Hp->VK->Prop:=λx vs H Q=>∃(l:Xc) (xs:List V) (i:Int) (y:V),x=.ref l/\vs=[.int i,y]/\H l=Z (.lst xs)/\0<=i/\i.toNat<=xs.length/\xs.length<LK/\Q .non (upd H l (.lst (xs.take i.toNat++y::xs.drop i.toNat)))
theorem X8:∀{xs:List V} {us:List i0} (n:Nat),Vals xs us->Vals (xs.take n) (us.take n)
 |_,_,0,_=>by simp only[List.take_zero];exact .nil
 |_,_,_+1,.nil=>.nil
 |_,_,n+1,.cons r t=>.cons r (X8 n t)
theorem X9:∀{xs:List V} {us:List i0} (n:Nat),Vals xs us->Vals (xs.drop n) (us.drop n)
 |_,_,0,r=>r
 |_,_,_+1,.nil=>.nil
 |_,_,n+1,.cons _ t=>X9 n t
theorem wW:MtM X "list.insert" sJ:=by
 intro pins s σ H x vs v us Q I rx rv h;obtain⟨l,xs,i,y,rfl,rfl,B,h0,J,G,q⟩:=h
 cases rx
 obtain⟨u,u2,rfl,ru,j⟩:=nV rv;obtain⟨t,rfl⟩:=ru;obtain⟨z,its,n,r,L,e⟩:=I.lstM B;have hf:¬(!Builtin.List.listFitsIndex i)=F2:=by
  have:Sw i=F2:=by unfold Sw;rw[I7]at G;rw[r0];exact⟨decide_eq_true ∅,decide_eq_true ∅⟩
  rw[this];decide
 have hs:its.toArray.size<=LK:=by rw[LN];lia
 have mt:=PySem.AutoSeq1.list_insert_list_int_val_1 l its.toArray n i t u2 hf hs;refine Rq SX ⟨_,e,rfl⟩ PySem.F.entry_list_insert (PySem.F.args_list_insert_3 _ _ _) mt ⟨e,?_⟩;refine⟨.non,_,I.lset (its':=its.take i.toNat++u2::its.drop i.toNat) B e ?_ ((X8 i.toNat r).append (.cons j (X9 i.toNat r))) ?_,rfl,q⟩
 ·have hm:(if i<0 then(i+(its.toArray.size:Int)).toNat else min i.toNat its.toArray.size)=i.toNat:=by
   rw[if_neg ∅,LN];lia
  show(its.toArray.extract 0 (if i<0 then(i+(its.toArray.size:Int)).toNat else min i.toNat its.toArray.size)).push u2++its.toArray.extract (if i<0 then(i+(its.toArray.size:Int)).toNat else min i.toNat its.toArray.size)=_
  rw[hm];apply Array.ext';simp only[List.extract_toArray,List.push_toArray,List.append_toArray];simp[NY]
 ·rw[J4,MP,Mm,Of];lia
end
namespace Mi
noncomputable def iG:D->List D->Mem->QD->Prop:=λx ds M Q=>∃(a:Xc) (xs:List D) (i:Int) (y:D),x=.ref a/\ds=[.int i,y]/\M a=Z (.lst xs)/\0<=i/\i.toNat<=xs.length/\xs.length<LK/\Q .non (ag M a (.lst (xs.take i.toNat++y::xs.drop i.toNat)))
theorem iZ:jL iG:=λ_ _ _ _ _ h j=>(by obtain⟨a,xs,k,y,e1,e2,B,F,z,G,q⟩:=j;exact⟨a,xs,k,y,e1,e2,B,F,z,G,h _ _ q⟩)
theorem zF{K:Frag}(v:V)(vs:List V)(H:Hp)(Q:VK)(h:lMt K iG v vs H Q):sJ v vs H Q:=by
 obtain⟨x,ds,M,rm,rx,rs,a,xs,i,y,rfl,rfl,e,j,z,B,q⟩:=h
 cases WR.mp rx
 obtain⟨J,w,rfl,F,rw'⟩:=rs.two
 cases WQ.mp F
 obtain⟨us,G,ru⟩:=rm _ _ e;exact⟨a,us,i,w,rfl,rfl,G,j,by rw[ru.length];exact z,by rw[ru.length];exact B,kZ rm e ((ru.take i.toNat).append (RDs.cons rw' (ru.drop i.toNat))) (WX.mpr rfl) q⟩
end Mi
end
namespace Mi
section
section
variable{X:Cx}
noncomputable def uA:R2d
 |.int i,y,M,Q=>∃ns:List Int,aN M y=Z (ns.map .int)/\Q (.bl (decide (i∈ns))) M
 |_,_,_,_=>False
theorem zG:aK uA:=by
 intro x y M Q Q' h q
 cases x<;>first
  |exact q.elim
  |(obtain⟨ns,e,q⟩:=q;exact⟨ns,e,h _ _ q⟩)
theorem qr{i:Int}:∀ns:List Int,inV (.int i) (ns.map V.int)=decide (i∈ns)
 |[]=>by simp[inV]
 |n::ns=>by
  have ih:=qr (i:=i) ns;unfold inV at ih⊢;rw[LX,Oj,ih];show(n==i || decide (i∈ns))=_
  by_cases h:n=i
  ·subst h;simp
  ·rw[show(n==i)=N2 by simpa using h]
   simp only[Rz,LI];exact decide_eq_decide.mpr ⟨.inr,λz=>z.resolve_left λw=>h w.symm⟩
theorem zH:OpR X (Oy .In) (l2 X.K uA):=by
 refine OpR.of vF λv u H Q h=>?_;obtain⟨x,y,M,rm,rx,ry,q⟩:=h
 cases x<;>first
  |exact q.elim
  |skip
 case int i=>
  obtain⟨ns,e,q⟩:=q;obtain⟨p,vs,rfl,hs,r⟩:=pV rm ry e;have rv:=r.ints_eq;subst rv
  cases WQ.mp rx
  refine⟨p,_,rfl,hs,rfl,?_,?_⟩
  ·simp[dH]
  ·rw[if_neg LJ,qr];exact q _ H Ext.refl rm (WT.mpr rfl)
end
end
section
section
variable{X:Cx}
def DF(M:Mem)(a:Xc)(t:Bool)(kvs:List (D×D)):Prop:=M a=Z (.dct t kvs)∨(t=F2/\M a=Z (.fdc kvs))
noncomputable def uB(neg:Bool):R2d:=λk x M Q=>∃a t kvs,x=.ref a/\DF M a t kvs/\eN t k=F2/\Q (.bl (if neg then !(dget kvs k).isSome else(dget kvs k).isSome)) M
theorem zI{neg:Bool}:aK (uB neg):=λ_ _ _ _ _ h j=>(by obtain⟨a,t,kvs,e1,e2,z,q⟩:=j;exact⟨a,t,kvs,e1,e2,z,h _ _ q⟩)
theorem Ek{K:Frag}{M:Mem}{H:Hp}{a:Xc}{t:Bool}{kvs:List (D×D)}{k:D}{v:V}(rm:RM K M H)(e:DF M a t kvs)(ok:eN t k=F2)(rk:RD K H k v):∃o,DGet H a v o/\o.isSome=(dget kvs k).isSome:=by
 have:∃o,DGet H a v o/\(∀d,dget kvs k=Z d->∃w,o=Z w/\RD K H d w)/\(dget kvs k=Y->o=Y):=by
  rcases e with e|⟨rfl,e⟩
  ·exact kW rm e ok rk
  ·obtain⟨ob,ps,j,pr⟩:=rm a _ e;exact pO (.inr ⟨ob,j⟩) pr ok rk
 obtain⟨o,g,g1,g2⟩:=this;refine⟨o,g,?_⟩
 cases h:dget kvs k with
 |none=>rw[g2 h];rfl
 |some d=>obtain⟨w,rfl,_⟩:=g1 d h;rfl
theorem wX(j:X.A.units+1<Po):OpR X (Oy .NotIn) (l2 X.K (uB F2)):=by
 intro pins s σ H y x u v Q I ry rx h;obtain⟨dk,dx,M,rm,rk,rd,a,t,kvs,rfl,e,ok,q⟩:=h
 cases WR.mp rd
 cases rx
 obtain⟨o,g,ho⟩:=Ek rm e ok rk;exact Bd j I g ry λs' I'=>⟨.bl (!o.isSome),H,I',rfl,by rw[ho];exact q _ H Ext.refl rm (WT.mpr rfl)⟩
end
end
section
section
variable{X:Cx}
noncomputable def iH:RAd:=λxs M Q=>∃(a:Xc) (ns:List Int),xs=[.ref a]/\M a=Z (.lst (ns.map .int))/\ns≠[]/\∀i∈ns,(∀j∈ns,j<=i)->Q (.int i) M
theorem nt:aM iH:=λ_ _ _ _ h j=>(by obtain⟨a,ns,e,e1,e2,q⟩:=j;exact⟨a,ns,e,e1,e2,λi hi z=>h _ _ (q i hi z)⟩)
theorem rK(hc:X.calm=F2):CallR X (.builtin "max") (lR X.K iH):=by
 intro pins s σ H xs us Q I r h;obtain⟨ds,M,rm,rs,a,ns,rfl,ea,J,q⟩:=h;obtain⟨v,rfl,rv⟩:=rs.one;obtain⟨u,rfl,ru⟩:=dG r
 cases WR.mp rv
 cases(show u=MA a from ru)
 obtain⟨vs,ha,rvs⟩:=rm _ _ ea;have B:=rvs.ints_eq;subst B;obtain⟨its,Fn,p1,hz⟩:=I.list (SqL.of ha);have L:its.length=ns.length:=by have:=Fn.length;simp at this;lia
 have O:s.heap.IsList a its.toArray:=p1.isList;have lt:=LD O.choose_spec.1;have F:0<ns.length:=N6.mpr J;have z:∀(i:Nat) (v:i0),its.toArray[i]?=Z v->∃t,v=.int ((ns[i]?).getD 0) t:=λi v e=>by
  have e':its[i]?=Z v:=by simpa using e
  have hi:i<ns.length:=by rw[<-L];exact(LP.mp e').1
  obtain⟨u,e1,e2⟩:=Fn.get (i:=i) (x:=.int ns[i]) (by rw[LQ,z0 hi];rfl)
  rw[e']at e1
  cases e1
  obtain⟨t,U⟩:=e2;exact⟨t,by rw[U,z0 hi];rfl⟩
 have hn:X.A.in1.handled=Y:=I.ok.hd hc;refine call_max_walk (Oo O ?_);refine⟨_,[_,a],[_],_,_,_,_,rfl,Walks.list (A:=X.A.in1) hn _ a (Mt lt) its.toArray,⟨⟨_,LF _ rfl,rfl,rfl⟩,O.push _⟩,λd hd=>?_,by simpa[L]using F,CmpOf.ints_gt (λi=>(ns[i]?).getD 0) z,λv h' tk fv hk=>?_⟩
 ·rw[NT]
  rcases LI.mp hd with rfl|hd
  ·exact Te _
  ·rcases LI.mp hd with rfl|hd
   ·exact Vl lt
   ·cases hd
 ·obtain⟨g1,g2⟩:=argBest_gt (λi=>(ns[i]?).getD 0) (its.toArray.size-1);generalize argBest (λi j=>decide ((λi=>(ns[i]?).getD 0) i > (λi=>(ns[i]?).getD 0) j)) (its.toArray.size-1)=k at fv g1 g2;obtain⟨t,U⟩:=z k v fv;have sz:its.toArray.size=ns.length:=by simp[L]
  have G:k<ns.length:=∅
  have e0:ns[k]?=Z ns[k]:=z0 G;refine⟨.int ns[k],H,I.kept (λb o e=>hk b o (λhm=>?_) (q7 _ e)),⟨t,by rw[U,e0];rfl⟩,?_⟩
  ·rcases LI.mp hm with e1|hm
   ·exact absurd (e1▸LD e) (Nj _)
   ·cases hm
  ·refine q _ (PM G) (λj hj=>?_) _ H Ext.refl rm (WQ.mpr rfl);obtain⟨m,hm,rfl⟩:=UE hj;have:=g2 m ∅
   simpa[e0,z0 hm]using this
end
end
end Mi
namespace Mi
end Mi
namespace Mi
open L2.Srt
end Mi
namespace Srt
open AutoSeq1 (wpAny_loadPart')
open MeetsSeq MeetsSeq2 MeetsSeq3
end Srt
namespace Srt
end Srt
namespace Mi
open L2.Srt
end Mi
namespace Mi
end Mi
namespace Mi
end Mi
namespace Mi
end Mi
namespace It
end It
namespace Mi
end Mi
section
section
variable{X:Cx}
noncomputable def FW(K:Frag)(te:TE)(ts:TO):TE:=λσ H Q=>te σ H λx H1=>ts σ H1 λst H3=>∃a xs,x=.ref a/\SqL K H3 a xs/\st=Z (-1)/\∀q,H3 q=Y->Q (.ref q) (upd H3 q (.lst xs.reverse))
theorem C8{e st:Expr}{ts:TO}{p2:Pos}(he:PE X e te)(hs:PO X (Z st) ts):PE X (.Subscript e (.Slice Y Y (Z st) p2) pos) (FW X.K te ts):=by
 intro pins s σ H Q I h;refine Wt (thn (he pins s σ H _ I h) λv s1 j=>?_);obtain⟨x,H1,G,J,L⟩:=j;refine wpAny_Slice ?_;rw[UH];refine z4 ?_;refine z4 (thn (hs pins s1 σ H1 _ G L) λvs s3 j=>?_);obtain⟨u,O,U,ps,Fn⟩:=j;have B:Inv X pins σ O {s3 with heap:=s3.heap.push {cls:=.type "slice",data:=.fields #[.none,.none,vs]}}:=U.kept (t':=s3.toks) λb ob q=>q7 _ q
 obtain⟨a,xs,rfl,sq,rfl,q⟩:=Fn
 cases J
 obtain⟨its,r,F,fv⟩:=B.list sq;have hlen:=r.length;show LR (model X.prog X.w) X.A (UI e (.Slice Y Y (Z st) p2) (.ref a) (.ref s3.heap.objs.size)) (EP X pins σ Q) X.xe {s3 with heap:=s3.heap.push {cls:=.type "slice",data:=.fields #[.none,.none,vs]}}
 refine tail_any (ops:=[.ref a,.ref s3.heap.objs.size]) F.isList.typeIs slot_list_getitem.lookup ?_ (by with_unfolding_all rfl)
 refine SQ F.isList (V0 ..) .none .none ps (by intro z;have:=NO.inj z;lia) ?_ (by rw[LN]<;>lia)
 rw[PySem.W.krv_pick];refine⟨.ref _,_,B.laid (t':=s3.toks) (o:=.lst xs.reverse) (λb ob q=>q7 _ q) (LW _) ?_,rfl,q _ (B.hok.fresh (LW _))⟩;refine⟨by rw[QE];exact fv,_,0,?_,LF _ rfl⟩
 exact r.reverse
noncomputable def FX:R2:=λx y H Q=>∃l b xs zs,x=.ref l/\y=.ref b/\H l=Z (.lst xs)/\H b=Z (.lst zs)/\xs.length+zs.length<=LK/\Q (.ref l) (upd H l (.lst (xs++zs)))
theorem FY{M:R5}{E:i0->s9->Prop}{a b:i0}{Q:i0->s9->Prop}(B:s.TypeIs a "list")(L:s.TypeIs b "list")(O:LR M A (call (.builtin "list.__iadd__") [a,b]) Q E s):LR M A (OY .Add a b) Q E s:=by
 unfold OY;refine Na ?_;have G:UZ (.type "list") (dunderI "add")=pure (Z (.builtin "list.__iadd__")):=PySem.F.slot_list_iadd.lookup;have J:isSeqSlot (Z (.builtin "list.__iadd__"))=F2:=by decide +kernel
 have j:VY (.type "list") "add" (Operator.Add==.Add)=pure N2:=by unfold VY;show(UZ (.type "list") (dunderI "add")>>=λfi=>pure (fi.isSome && !isSeqSlot fi))=pure N2;rw[G,VI,J];rfl
 have z:seqSlot? (.type "list") (dunderI "add")=pure (Z (.builtin "list.__iadd__")):=PySem.seqSlot_of G J;refine gV (PY B (gV (OI j ?_)));show LR M A (if N2=F2 then _ else _) Q E s
 rw[if_neg LJ];refine gV (PySem.wpAny_binaryOp1_none (nm:="add") B L PySem.noFill_list_add ?_);refine gV (OI z ?_);exact gV (Oc O)
theorem C9:OpR X (OY .Add) FX:=by
 intro pins s σ H x y v u Q I rx ry h;obtain⟨l,b,xs,zs,rfl,rfl,G,J,Fn,q⟩:=h
 cases rx
 cases ry
 obtain⟨z,its,n,r,fv,e⟩:=I.lstM G;obtain⟨z2,j,L,O,U,e2⟩:=I.lstM J;have hsz:its.toArray.size+j.toArray.size<=LK:=by rw[LN,LN];lia
 have B:¬(!its.toArray.isEmpty&&Py (its.toArray.size+j.toArray.size))=F2:=by rw[pe hsz,Bool.and_false];exact LJ
 refine FY ⟨_,e,rfl⟩ ⟨_,e2,rfl⟩ (Rq PySem.F.slot_list_iadd ⟨_,e,rfl⟩ PySem.F.entry_list_iadd (PySem.F.args_list_iadd_2 _ _)
  (AutoSeq1.list___iadd___list_list_0 l its.toArray n b j.toArray L B (by rw[LN];lia) ∅) ⟨e,e2,?_⟩)
 refine⟨.ref l,_,I.lset (its':=its++j) G e (by simp) (r.append O) ?_,rfl,q⟩
 rw[J4];lia
end
namespace Mi
section
variable{X:Cx}
noncomputable def oH(te:TEd)(ts:TOd):TEd:=λρ M Q=>te ρ M λx M1=>ts ρ M1 λu M3=>∃a ds,x=.ref a/\M3 a=Z (.lst ds)/\u=Z (-1)/\∀q,M3 q=Y->Q (.ref q) (ag M3 q (.lst ds.reverse))
theorem wY{te:TEd}{ts:TOd}(m:ad te)(mh:dL ts):ad (oH te ts):=λρ M Q Q' i q=>m _ _ _ _ (λx G j=>mh _ _ _ _ (λu J z=>(by obtain⟨a,ds,e1,e2,B,F⟩:=z;exact⟨a,ds,e1,e2,B,λp n=>i _ _ (F p n)⟩)) j) q
theorem Ca{e:Expr}{ta:TEd}{hi:Expr}{th:TOd}{p2 pos:Pos}(m:ad ta)(mh:dL th)(he:PE X e (lE X.K ta))(O:PO X (Z hi) (lO X.K th)):
 PE X (.Subscript e (.Slice Y Y (Z hi) p2) pos) (lE X.K (oH ta th)):=by
 refine PE.imp (C8 he O) λσ H Q h=>?_;obtain⟨ρ,M,rs,rm,q⟩:=h;refine⟨ρ,M,rs,rm,m _ _ _ _ (λx U Fn v H1 J j B=>?_) q⟩;refine⟨ρ,U,rs.mono (J.stab rm),j,mh _ _ _ _ (λu M3 F H3 L z=>?_) Fn⟩;have G:=B.mono (L.stab j);obtain⟨a,ds,rfl,e,rfl,F⟩:=F
 cases WR.mp G
 obtain⟨vs,fv,r⟩:=z _ _ e;exact⟨a,vs,rfl,SqL.of fv,rfl,λp' n=>cm z r.reverse (λp' n'=>(F p' n').ext (J.trans L)) n⟩
noncomputable def oI:R2d:=λx y M Q=>∃a b xs ys,x=.ref a/\y=.ref b/\M a=Z (.lst xs)/\M b=Z (.lst ys)/\xs.length+ys.length<=LK/\Q (.ref a) (ag M a (.lst (xs++ys)))
theorem nv:aK oI:=λ_ _ _ _ _ h j=>(by obtain⟨a,b,xs,y,e1,e2,B,F,z,q⟩:=j;exact⟨a,b,xs,y,e1,e2,B,F,z,h _ _ q⟩)
theorem wZ:OpR X (OY .Add) (l2 X.K oI):=by
 refine OpR.of C9 λv u H Q h=>?_;obtain⟨x,y,M,rm,rx,ry,a,b,xs,ys,rfl,rfl,e1,e2,z,q⟩:=h
 cases WR.mp rx
 cases WR.mp ry
 obtain⟨us,j,ru⟩:=rm _ _ e1;obtain⟨ws,B,rw'⟩:=rm _ _ e2;exact⟨a,b,us,ws,rfl,rfl,j,B,by rw[ru.length,rw'.length];exact z,kZ rm e1 (ru.append rw') (WR.mpr rfl) q⟩
end
end Mi
end
namespace Mi
open L2.Srt
end Mi
namespace Mi
end Mi
namespace Mi
end Mi
namespace Mi
section
mutual
noncomputable def GV(K:Frag):D->i0->Prop
 |.int i,v=>∃t,v=.int i t
 |.str x,v=>∃t,v=.str x t
 |.tup ds,v=>∃a o its n,v=.ref a/\K.lookup a=Z o/\o.cls=.type "tuple"/\o.data=.seq its n/\its.size<=LK/\fk ds=N2/\GVs K ds its.toList
 |_,_=>False
noncomputable def GVs(K:Frag):List D->List i0->Prop
 |[],us=>us=[]
 |d::ds,us=>∃u r,us=u::r/\GV K d u/\GVs K ds r
end
end
end Mi
namespace Mi
end Mi
namespace Mi
variable{f:Nat}{cs js:List Nat}{P:Xc}{pos:Pos}
section
inductive BOp where|add|sub|mul|fdiv|mod|pow|ext
inductive COp where|eq|ne|lt|gt|ge|inS|ninD
inductive BF where|len|abs|max2|min2|int|list|tuple|all|sorts|max1
inductive MF where|append
set_option genCtorIdx false
set_option genInjectivity false
mutual
inductive MG where
 |name (i:Nat)
 |tup (gs:MGs)
inductive MGs where
 |nil
 |cons (g:MG) (r:MGs)
end
mutual
inductive ME where
 |var (i:Nat)
 |int (i:Int)
 |bl (b:Bool)
 |non
 |bin (op:BOp) (a b:ME)
 |neg (a:ME)
 |cmp (op:COp) (a b:ME)
 |and (es:MEs)
 |or (es:MEs)
 |not (a:ME)
 |ite (c:MT) (a b:ME)
 |tup (es:MEs)
 |lst (es:MEs)
 |ix (a b:ME)
 |sl (a:ME) (lo hi:MO)
 |call (f:Nat) (es:MEs)
 |callC (i:Nat) (es:MEs)
 |callL (f:Nat) (es:MEs) (j:Nat) (cs js:List Nat) (P:Xc) (pos:Pos) (q:Str)
 |blt (f:BF) (es:MEs)
 |isin (a:ME) (T:String)
 |lrng2 (a b:ME)
 |dnew (t:Bool)
 |sortI (a:ME)
 |dget (o k x:ME)
 |meth (m:MF) (o a:ME)
 |ins (o i a:ME)
 |comp (fr:List (Option Nat)) (N:List Str) (c:MC)
 |revS (a st:ME)
inductive MEs where
 |nil
 |cons (e:ME) (r:MEs)
inductive MO where
 |none
 |some (e:ME)
inductive MT where
 |tru (e:ME)
 |cmp (op:COp) (a b:ME)
 |and (ts:MTs)
 |or (ts:MTs)
 |not (t:MT)
inductive MTs where
 |nil
 |cons (t:MT) (r:MTs)
inductive MI where
 |seq (e:ME)
 |rng1 (a:ME)
 |rng2 (a b:ME)
 |zip (a b:ME)
 |enum (a:ME)
 |rev (a:ME)
inductive MC where
 |last (src:MI) (g:MG) (ifs:MTs) (elt:ME)
 |more (src:MI) (g:MG) (ifs:MTs) (rest:MC)
end
mutual
inductive MS where
 |asg (g:MG) (e:ME)
 |asgL (gs:MGs) (e:ME)
 |par (i j:Nat) (a b:ME)
 |put (o i e:ME)
 |aug (i:Nat) (op:BOp) (e:ME)
 |augI (o i:ME) (op:BOp) (e:ME)
 |drop (e:ME)
 |ret (e:ME)
 |ite (c:MT) (a b:MSs)
 |for (g:MG) (src:MI) (b:MSs)
 |while (c:MT) (b:MSs)
 |pass|brk|cnt
inductive MSs where
 |nil
 |cons (s:MS) (r:MSs)
end
set_option genCtorIdx true
set_option genInjectivity true
noncomputable def opB:BOp->R2d
 |.add=>fu|.sub=>kT|.mul=>gN|.fdiv=>jE|.mod=>pH|.pow=>pI|.ext=>fu
noncomputable def opC:COp->R2d
 |.eq=>wEq|.ne=>wNe|.lt=>wLt| .gt=>wGt|.ge=>wGe| .inS=>uA| .ninD=>uB F2
noncomputable def opF:BF->RAd
 |.len=>fw| .max1=>iH|.abs=>kX|.max2=>jG|.min2=>jH|.int=>kY|.list=>nY|.tuple=>jI| .all=>qb| .sorts=>kc
noncomputable def opM:MF->D->List D->Mem->QD->Prop
 |.append=>iq
noncomputable def opI:BOp->R2d
 |.add=>jR|.sub=>jS|.mul=>jT|.ext=>oI|_=>λ_ _ _ _=>False
theorem qt:∀o,aK (opB o)
 |.add=>pJ|.sub=>yJ|.mul=>yK|.fdiv=>vX|.mod=>yL|.pow=>yM|.ext=>pJ
theorem gj:∀o,aK (opC o)
 |.eq=>Bq|.ne=>Br|.lt=>Bu| .gt=>Bv|.ge=>Bw| .inS=>zG| .ninD=>zI
theorem zJ:∀o,aM (opF o)
 |.len=>pS| .max1=>nt|.abs=>pT|.max2=>mH|.min2=>mJ|.int=>pU|.list=>mK|.tuple=>jJ| .all=>qc| .sorts=>ke
theorem zK:∀o,jL (opM o)
 |.append=>iV
theorem qv:∀o,aK (opI o)
 |.add=>gW|.sub=>gX|.mul=>gY|.ext=>nv
 |.fdiv=>λ_ _ _ _ _ _ q=>q.elim|.mod=>λ_ _ _ _ _ _ q=>q.elim|.pow=>λ_ _ _ _ _ _ q=>q.elim
noncomputable abbrev Phi:=Nat->RAd
mutual
noncomputable def bG:MG->BT
 |.name i=>cU i
 |.tup gs=>yZ (bGs gs)
noncomputable def bGs:MGs->BTs
 |.nil=>j8
 |.cons g r=>cC (bG g) (bGs r)
end
noncomputable def kf(Φ:Phi)(i:Nat)(t:TAd):TEd:=λρ M Q=>∃a,ρ[i]?=Z (Z (.ref a))/\wAr (Φ (5000+a)) t ρ M Q
theorem uC{Φ:Phi}{i:Nat}{t:TAd}(hΦ:∀f,aM (Φ f))(mt:aR t):ad (kf Φ i t):=λρ M Q Q' h g9=>(by obtain⟨a,e,q⟩:=g9;exact⟨a,e,fF (hΦ _) mt _ _ _ _ h q⟩)
noncomputable def ll(cs:List Nat)(ρ:au):Option (List D):=cs.mapM λc=>(ρ[c]?).join
noncomputable def kg(Φ:Phi)(f:Nat)(t:TAd)(j:Nat)(cs js:List Nat)(P:Xc)(pos:Pos)(q:Str):TEd:=λρ M Q=>∃gs,ll cs ρ=Z gs/\t ρ M λds M1=>M1 P=Z (.tab pos q)/\∀a,M1 a=Y->Φ (1000+f) (ds++[.ref a,.int j,.tup gs,.tup (js.map λi:Nat=>.int i)]) M1 Q
theorem uD{Φ:Phi}{t:TAd}{j:Nat}{q:Str}(hΦ:∀f,aM (Φ f))(mt:aR t):ad (kg Φ f t j cs js P pos q):=λρ M Q Q' h g9=>(by obtain⟨gs,e,z⟩:=g9;exact⟨gs,e,mt _ _ _ _ (λds B y=>⟨y.1,λa n=>hΦ _ _ _ _ _ h (y.2 a n)⟩) z⟩)
mutual
noncomputable def wE(Φ:Phi):ME->TEd
 |.var i=>cS i
 |.int i=>wC (.int i)
 |.bl b=>wC (.bl b)
 |.non=>wC .non
 |.bin op a b=>wOp (opB op) (wE Φ a) (wE Φ b)
 |.neg a=>wUn pM (wE Φ a)
 |.cmp op a b=>wOp (opC op) (wE Φ a) (wE Φ b)
 |.and es=>wAnds Φ es
 |.or es=>wOrs Φ es
 |.not a=>oh (wE Φ a)
 |.ite c a b=>wIf (wT Φ c) (wE Φ a) (wE Φ b)
 |.tup es=>wAr tW (wA Φ es)
 |.lst es=>wAr tX (wA Φ es)
 |.ix a b=>wOp wIx (wE Φ a) (wE Φ b)
 |.sl a lo hi=>wSl (wE Φ a) (wO Φ lo) (wO Φ hi)
 |.call f es=>wAr (Φ f) (wA Φ es)
 |.callC i es=>kf Φ i (wA Φ es)
 |.callL f es j cs js P pos q=>kg Φ f (wA Φ es) j cs js P pos q
 |.blt f es=>wAr (opF f) (wA Φ es)
 |.isin a T=>oi T (wE Φ a)
 |.lrng2 a b=>jM (av (wE Φ a) (av (wE Φ b) aX))
 |.dnew t=>oA t
 |.sortI a=>kb (wE Φ a)
 |.dget o k x=>oE (wE Φ o) (wE Φ k) (wE Φ x)
 |.meth m o a=>wBM (opM m) (wE Φ o) (av (wE Φ a) aX)
 |.ins o i a=>wBM iG (wE Φ o) (av (wE Φ i) (av (wE Φ a) aX))
 |.comp fr _ c=>wCmp Φ fr c
 |.revS a st=>oH (wE Φ a) (io (wE Φ st))
noncomputable def wA(Φ:Phi):MEs->TAd
 |.nil=>aX
 |.cons e r=>av (wE Φ e) (wA Φ r)
noncomputable def wAnds(Φ:Phi):MEs->TEd
 |.nil=>λ_ _ _=>False
 |.cons e .nil=>wE Φ e
 |.cons e (.cons f r)=>og (wE Φ e) (wAnds Φ (.cons f r))
noncomputable def wOrs(Φ:Phi):MEs->TEd
 |.nil=>λ_ _ _=>False
 |.cons e .nil=>wE Φ e
 |.cons e (.cons f r)=>u8 (wE Φ e) (wOrs Φ (.cons f r))
noncomputable def wO(Φ:Phi):MO->TOd
 |.none=>im
 |.some e=>io (wE Φ e)
noncomputable def wT(Φ:Phi):MT->TTd
 |.tru e=>u6 (wE Φ e)
 |.cmp op a b=>ef (wOp (opC op) (wE Φ a) (wE Φ b))
 |.and ts=>wAndTs Φ ts
 |.or ts=>wOrTs Φ ts
 |.not t=>nZ (wT Φ t)
noncomputable def wAndTs(Φ:Phi):MTs->TTd
 |.nil=>λ_ _ _=>False
 |.cons e .nil=>wT Φ e
 |.cons e (.cons f r)=>jK (wT Φ e) (wAndTs Φ (.cons f r))
noncomputable def wOrTs(Φ:Phi):MTs->TTd
 |.nil=>λ_ _ _=>False
 |.cons e .nil=>wT Φ e
 |.cons e (.cons f r)=>u7 (wT Φ e) (wOrTs Φ (.cons f r))
noncomputable def wTl(Φ:Phi):MTs->List TTd
 |.nil=>[]
 |.cons t r=>wT Φ t::wTl Φ r
noncomputable def wI(Φ:Phi):MI->TId
 |.seq e=>ua (wE Φ e)
 |.rng1 a=>oj (av (wE Φ a) aX)
 |.rng2 a b=>oo (av (wE Φ a) (av (wE Φ b) aX))
 |.zip a b=>lc (wE Φ a) (wE Φ b)
 |.enum a=>ot (wE Φ a)
 |.rev a=>oF (wE Φ a)
noncomputable def wCl(Φ:Phi):MC->TCd
 |.last src g ifs elt=>dU (wI Φ src) (bG g) (br (wTl Φ ifs) (eO (wE Φ elt)))
 |.more src g ifs rest=>dU (wI Φ src) (bG g) (br (wTl Φ ifs) (wCl Φ rest))
noncomputable def wCmp(Φ:Phi)(fr:List (Option Nat)):MC->TEd
 |.last src g ifs elt=>iw fr (wI Φ src) (bG g) (br (wTl Φ ifs) (eO (wE Φ elt)))
 |.more src g ifs rest=>iw fr (wI Φ src) (bG g) (br (wTl Φ ifs) (wCl Φ rest))
end
mutual
noncomputable def wS(Φ:Phi):MS->TSd
 |.asg g e=>lf (wE Φ e) (bG g)
 |.asgL gs e=>oG (wE Φ e) (bGs gs)
 |.par i j a b=>ue (av (wE Φ a) (av (wE Φ b) aX)) (cC (cU i) (cC (cU j) j8))
 |.put o i e=>uk (wE Φ e) (wE Φ o) (wE Φ i)
 |.aug i op e=>um i (opI op) (wE Φ e)
 |.augI o i op e=>oz (wE Φ o) (wE Φ i) (wE Φ e) (opI op)
 |.drop e=>ox (wE Φ e)
 |.ret e=>ud (wE Φ e)
 |.ite c a b=>sIf (wT Φ c) (wSs Φ a) (wSs Φ b)
 |.for g src b=>uf (wI Φ src) (bG g) (wSs Φ b)
 |.while c b=>jQ (wT Φ c) (wSs Φ b)
 |.pass=>jO
 |.brk=>jP
 |.cnt=>ou
noncomputable def wSs(Φ:Phi):MSs->TSd
 |.nil=>jO
 |.cons s r=>zg (wS Φ s) (wSs Φ r)
end
section
variable{Φ:Phi}(hΦ:∀f,aM (Φ f))
include hΦ
mutual
theorem mE:∀m,ad (wE Φ m)
 |.var _=>yG
 |.int _=>pF
 |.bl _=>pF
 |.non=>pF
 |.bin op a b=>fE (qt op) (mE a) (mE b)
 |.neg a=>Bn pN (mE a)
 |.cmp op a b=>fE (gj op) (mE a) (mE b)
 |.and es=>mAnds es
 |.or es=>mOrs es
 |.not a=>w6 (mE a)
 |.ite c a b=>BD (mT c) (mE a) (mE b)
 |.tup es=>fF vT (mA es)
 |.lst es=>fF vU (mA es)
 |.ix a b=>fE sd (mE a) (mE b)
 |.sl a lo hi=>BG (mE a) (mO lo) (mO hi)
 |.call f es=>fF (hΦ f) (mA es)
 |.callC i es=>uC hΦ (mA es)
 |.callL f es j cs js P pos q=>uD hΦ (mA es)
 |.blt f es=>fF (zJ f) (mA es)
 |.isin a T=>w9 (mE a)
 |.lrng2 a b=>ub (am (mE a) (am (mE b) ar))
 |.dnew _=>wu
 |.sortI a=>uz (mE a)
 |.dget o k x=>wP (mE o) (mE k) (mE x)
 |.meth m o a=>sg (zK m) (mE o) (am (mE a) ar)
 |.ins o i a=>sg iZ (mE o) (am (mE i) (am (mE a) ar))
 |.comp fr _ c=>mCmp fr c
 |.revS a st=>wY (mE a) (gO (mE st))
theorem mA:∀m,aR (wA Φ m)
 |.nil=>ar
 |.cons e r=>am (mE e) (mA r)
theorem mAnds:∀m,ad (wAnds Φ m)
 |.nil=>λ_ _ _ _ _ q=>q.elim
 |.cons e .nil=>mE e
 |.cons e (.cons f r)=>w5 (mE e) (mAnds (.cons f r))
theorem mOrs:∀m,ad (wOrs Φ m)
 |.nil=>λ_ _ _ _ _ q=>q.elim
 |.cons e .nil=>mE e
 |.cons e (.cons f r)=>yW (mE e) (mOrs (.cons f r))
theorem mO:∀m,dL (wO Φ m)
 |.none=>rC
 |.some e=>gO (mE e)
theorem mT:∀m,aO (wT Φ m)
 |.tru e=>yU (mE e)
 |.cmp op a b=>yH (fE (gj op) (mE a) (mE b))
 |.and ts=>mAndTs ts
 |.or ts=>mOrTs ts
 |.not t=>vZ (mT t)
theorem mAndTs:∀m,aO (wAndTs Φ m)
 |.nil=>λ_ _ _ _ _ q=>q.elim
 |.cons e .nil=>mT e
 |.cons e (.cons f r)=>w4 (mT e) (mAndTs (.cons f r))
theorem mOrTs:∀m,aO (wOrTs Φ m)
 |.nil=>λ_ _ _ _ _ q=>q.elim
 |.cons e .nil=>mT e
 |.cons e (.cons f r)=>yV (mT e) (mOrTs (.cons f r))
theorem mTl:∀m,∀t∈wTl Φ m,aO t
 |.nil=>by rw[wTl];intro t j;simp at j
 |.cons t r=>by
  rw[wTl];intro t' j
  rcases LI.mp j with e|e
  ·rw[e];exact mT t
  ·exact mTl r t' e
theorem mI:∀m,cn (wI Φ m)
 |.seq e=>zb (mE e)
 |.rng1 a=>wd (am (mE a) ar)
 |.rng2 a b=>we (am (mE a) (am (mE b) ar))
 |.zip a b=>zf (mE a) (mE b)
 |.enum a=>wf (mE a)
 |.rev a=>wQ (mE a)
theorem mCl:∀m,cq (wCl Φ m)
 |.last src g ifs elt=>iW (mI src) (aV (bQ (mE elt)) (mTl ifs))
 |.more src g ifs rest=>iW (mI src) (aV (mCl rest) (mTl ifs))
theorem mCmp(fr:List (Option Nat)):∀m,ad (wCmp Φ fr m)
 |.last src g ifs elt=>mL (mI src) (aV (bQ (mE elt)) (mTl ifs))
 |.more src g ifs rest=>mL (mI src) (aV (mCl rest) (mTl ifs))
end
mutual
theorem mS:∀m,aP (wS Φ m)
 |.asg g e=>zj (mE hΦ e)
 |.asgL gs e=>wR (mE hΦ e)
 |.par i j a b=>zk (am (mE hΦ a) (am (mE hΦ b) ar))
 |.put o i e=>zr (mE hΦ e) (mE hΦ o) (mE hΦ i)
 |.aug i op e=>zt (qv op) (mE hΦ e)
 |.augI o i op e=>wt (mE hΦ o) (mE hΦ i) (mE hΦ e) (qv op)
 |.drop e=>wk (mE hΦ e)
 |.ret e=>zh (mE hΦ e)
 |.ite c a b=>zi (mT hΦ c) (mSs a) (mSs b)
 |.for g src b=>zm (mI hΦ src) (mSs b)
 |.while c b=>uh (mT hΦ c) (mSs b)
 |.pass=>mN
 |.brk=>ug
 |.cnt=>wg
theorem mSs:∀m,aP (wSs Φ m)
 |.nil=>mN
 |.cons s r=>wj (mS s) (mSs r)
end
end
end
variable{Φ:Phi}{e:Expr}{es:List Expr}{env:Env}
section
structure Ctx where
 Γ:List Str
 N:List Str
 sc:Scope
 fn:List Str
 cs:List (Str×D)
 lm:Nat
 nm:Str
noncomputable def glB(sc:Scope)(x:Str):Bool:=sc.names.lookup x==Z .globalImplicit
noncomputable def uE(sc:Scope)(x:Str):Bool:=sc.names.lookup x==Z .local || sc.names.lookup x==Z .cell || sc.names.lookup x==Z .free
noncomputable def uF(sc:Scope)(x:Str):Bool:=sc.names.lookup x==Z .local || sc.names.lookup x==Z .cell
noncomputable def aH:Expr->Bool
 |.Starred ..=>N2
 |_=>F2
noncomputable def xf:Expr->Bool
 |.Name ..|.Call ..|.Subscript ..|.Constant ..|.BinOp ..|.Attribute ..=>F2
 |_=>N2
noncomputable def iI:Expr->Bool
 |.Slice ..=>N2
 |_=>F2
noncomputable def kh:Expr->Bool
 |.ListComp ..|.SetComp ..|.DictComp ..=>N2
 |_=>F2
noncomputable def uG:Expr->Bool
 |.Set ..=>N2
 |_=>F2
noncomputable def fJ:Expr->Bool
 |.Call _ (_::_) _ _=>F2
 |.Call ..=>N2
 |_=>F2
noncomputable def opO:BOp->Qs
 |.add=>.Add|.sub=>.Sub|.mul=>.Mult|.fdiv=>.FloorDiv|.mod=>.Mod|.pow=>.Pow|.ext=>.Add
noncomputable def zL:COp->CmpOp
 |.eq=>.Eq|.ne=>.NotEq|.lt=>.Lt| .gt=>.Gt|.ge=>.GtE| .inS=>.In| .ninD=>.NotIn
noncomputable def qw:BF->Str
 |.len=>"len"| .max1=>"max"|.abs=>"abs"|.max2=>"max"|.min2=>"min"|.int=>"int"|.list=>"list"|.tuple=>"tuple"| .all=>"all"| .sorts=>"sorted"
noncomputable def El:MF->Str
 |.append=>"append"
noncomputable def bltNames:List Str:=["len","abs","max","min","int","list","tuple","sum","isinstance","range","bool","str","dict","zip","enumerate","reversed","sorted","all","any","set"]
noncomputable def je(sc osc:Scope):Scope:={sc with names:=sc.names.map λ(n,k)=>if(k==.free&&osc.kind==.function&&osc.names.lookup n==Z .cell)then(n,.cell)else(n,k)}
theorem rL(sc:Scope)(env:Env):relabel sc env=je sc env.scope:=rfl
noncomputable def zM(sc osc:Scope)(oN N':List Str)(fr:List (Option Nat)):Bool:=
 decide (sc.kind=.function)&&decide ((sc.names.map (·.1)).Nodup)&&decide (N'.Nodup)
  && sc.names.all (λx=>!(x.2==.free) || osc.names.lookup x.1==Z .cell || osc.names.lookup x.1==Z .free)
  && decide (fr.length=N'.length)
  && (D0 N'.length).all λi=>match fr[i]?,N'[i]? with
   |some (Z j),Z x=>decide (oN[j]?=Z x)&&sc.names.any (λy=>decide (y=(x,MW)))
   |_,_=>F2
theorem pk{p:Prop}[d:Decidable p]{t:p->Bool}(h:dite p t (λ_=>N2)=F2):∃c,t c=F2:=by
 cases d with
 |isTrue c=>exact⟨c,h⟩
 |isFalse c=>cases h
noncomputable def dN(e:Expr)(f:Str->Pos->Bool):Bool:=if h:e.ctorIdx=23 then @WJ.elim (λ_=>Bool) e h f else N2
@[elab_as_elim]
theorem eV{P:Expr->Prop}(e:Expr){f:Str->Pos->Bool}(h:dN e f=F2)(k:∀a b,f a b=F2->P (.Name a b)):P e:=(pk h).elim λc=>@WJ.elim (λe=>∀c,@WJ.elim (λ_=>Bool) e c f=F2->P e) e c (λa b _=>k a b) c
noncomputable def eW(e:Expr)(f:Const->Nat->Pos->Bool):Bool:=if h:e.ctorIdx=19 then @UM.elim (λ_=>Bool) e h f else N2
@[elab_as_elim]
theorem hZ{P:Expr->Prop}(e:Expr){f:Const->Nat->Pos->Bool}(h:eW e f=F2)(k:∀a b c,f a b c=F2->P (.Constant a b c)):P e:=(pk h).elim λc=>@UM.elim (λe=>∀c,@UM.elim (λ_=>Bool) e c f=F2->P e) e c (λa b c _=>k a b c) c
noncomputable def xg(e:Expr)(f:Expr->Qs->Expr->Pos->Bool):Bool:=if h:e.ctorIdx=2 then @Wz.elim (λ_=>Bool) e h f else N2
@[elab_as_elim]
theorem Em{P:Expr->Prop}(e:Expr){f:Expr->Qs->Expr->Pos->Bool}(h:xg e f=F2)(k:∀a b c d,f a b c d=F2->P (.BinOp a b c d)):P e:=(pk h).elim λc=>@Wz.elim (λe=>∀c,@Wz.elim (λ_=>Bool) e c f=F2->P e) e c (λa b c d _=>k a b c d) c
noncomputable def gk(e:Expr)(f:UnaryOp->Expr->Pos->Bool):Bool:=if h:e.ctorIdx=3 then @Vz.elim (λ_=>Bool) e h f else N2
@[elab_as_elim]
theorem jf{P:Expr->Prop}(e:Expr){f:UnaryOp->Expr->Pos->Bool}(h:gk e f=F2)(k:∀a b c,f a b c=F2->P (.UnaryOp a b c)):P e:=(pk h).elim λc=>@Vz.elim (λe=>∀c,@Vz.elim (λ_=>Bool) e c f=F2->P e) e c (λa b c _=>k a b c) c
noncomputable def jg(e:Expr)(f:Expr->List CmpOp->List Expr->Pos->Bool):Bool:=if h:e.ctorIdx=15 then @VA.elim (λ_=>Bool) e h f else N2
@[elab_as_elim]
theorem qz{P:Expr->Prop}(e:Expr){f:Expr->List CmpOp->List Expr->Pos->Bool}(h:jg e f=F2)(k:∀a b c d,f a b c d=F2->P (.Compare a b c d)):P e:=(pk h).elim λc=>@VA.elim (λe=>∀c,@VA.elim (λ_=>Bool) e c f=F2->P e) e c (λa b c d _=>k a b c d) c
noncomputable def fK(e:Expr)(f:BoolOp->List Expr->Pos->Bool):Bool:=if h:e.ctorIdx=0 then @Wc.elim (λ_=>Bool) e h f else N2
@[elab_as_elim]
theorem iJ{P:Expr->Prop}(e:Expr){f:BoolOp->List Expr->Pos->Bool}(h:fK e f=F2)(k:∀a b c,f a b c=F2->P (.BoolOp a b c)):P e:=(pk h).elim λc=>@Wc.elim (λe=>∀c,@Wc.elim (λ_=>Bool) e c f=F2->P e) e c (λa b c _=>k a b c) c
noncomputable def xh(e:Expr)(f:Expr->Expr->Expr->Pos->Bool):Bool:=if h:e.ctorIdx=5 then @WA.elim (λ_=>Bool) e h f else N2
@[elab_as_elim]
theorem Eo{P:Expr->Prop}(e:Expr){f:Expr->Expr->Expr->Pos->Bool}(h:xh e f=F2)(k:∀a b c d,f a b c d=F2->P (.IfExp a b c d)):P e:=(pk h).elim λc=>@WA.elim (λe=>∀c,@WA.elim (λ_=>Bool) e c f=F2->P e) e c (λa b c d _=>k a b c d) c
noncomputable def dw(e:Expr)(f:List Expr->Nat->Pos->Bool):Bool:=if h:e.ctorIdx=25 then @WB.elim (λ_=>Bool) e h f else N2
@[elab_as_elim]
theorem eE{P:Expr->Prop}(e:Expr){f:List Expr->Nat->Pos->Bool}(h:dw e f=F2)(k:∀a b c,f a b c=F2->P (.Tuple a b c)):P e:=(pk h).elim λc=>@WB.elim (λe=>∀c,@WB.elim (λ_=>Bool) e c f=F2->P e) e c (λa b c _=>k a b c) c
noncomputable def AI(e:Expr)(f:List Expr->Pos->Bool):Bool:=if h:e.ctorIdx=24 then @WK.elim (λ_=>Bool) e h f else N2
@[elab_as_elim]
theorem FZ{P:Expr->Prop}(e:Expr){f:List Expr->Pos->Bool}(h:AI e f=F2)(k:∀a b,f a b=F2->P (.List a b)):P e:=(pk h).elim λc=>@WK.elim (λe=>∀c,@WK.elim (λ_=>Bool) e c f=F2->P e) e c (λa b _=>k a b) c
noncomputable def cX(e:Expr)(f:Expr->Expr->Pos->Bool):Bool:=if h:e.ctorIdx=21 then @Uq.elim (λ_=>Bool) e h f else N2
@[elab_as_elim]
theorem dO{P:Expr->Prop}(e:Expr){f:Expr->Expr->Pos->Bool}(h:cX e f=F2)(k:∀a b c,f a b c=F2->P (.Subscript a b c)):P e:=(pk h).elim λc=>@Uq.elim (λe=>∀c,@Uq.elim (λ_=>Bool) e c f=F2->P e) e c (λa b c _=>k a b c) c
noncomputable def uH(e:Expr)(f:Expr->List Expr->List S0->Pos->Bool):Bool:=if h:e.ctorIdx=16 then @WL.elim (λ_=>Bool) e h f else N2
@[elab_as_elim]
theorem AJ{P:Expr->Prop}(e:Expr){f:Expr->List Expr->List S0->Pos->Bool}(h:uH e f=F2)(k:∀a b c d,f a b c d=F2->P (.Call a b c d)):P e:=(pk h).elim λc=>@WL.elim (λe=>∀c,@WL.elim (λ_=>Bool) e c f=F2->P e) e c (λa b c d _=>k a b c d) c
noncomputable def ki(e:Expr)(f:Expr->Str->Pos->Bool):Bool:=if h:e.ctorIdx=20 then @Ur.elim (λ_=>Bool) e h f else N2
@[elab_as_elim]
theorem uI{P:Expr->Prop}(e:Expr){f:Expr->Str->Pos->Bool}(h:ki e f=F2)(k:∀a b c,f a b c=F2->P (.Attribute a b c)):P e:=(pk h).elim λc=>@Ur.elim (λe=>∀c,@Ur.elim (λ_=>Bool) e c f=F2->P e) e c (λa b c _=>k a b c) c
noncomputable def xi(e:Expr)(f:Option Expr->Option Expr->Option Expr->Pos->Bool):Bool:=if h:e.ctorIdx=26 then @WC.elim (λ_=>Bool) e h f else N2
@[elab_as_elim]
theorem Ep{P:Expr->Prop}(e:Expr){f:Option Expr->Option Expr->Option Expr->Pos->Bool}(h:xi e f=F2)(k:∀a b c d,f a b c d=F2->P (.Slice a b c d)):P e:=(pk h).elim λc=>@WC.elim (λe=>∀c,@WC.elim (λ_=>Bool) e c f=F2->P e) e c (λa b c d _=>k a b c d) c
noncomputable def nC(e:Expr)(f:Expr->List Nl->Scope->Pos->Bool):Bool:=if h:e.ctorIdx=8 then @UN.elim (λ_=>Bool) e h f else N2
@[elab_as_elim]
theorem xj{P:Expr->Prop}(e:Expr){f:Expr->List Nl->Scope->Pos->Bool}(h:nC e f=F2)(k:∀a b c d,f a b c d=F2->P (.ListComp a b c d)):P e:=(pk h).elim λc=>@UN.elim (λe=>∀c,@UN.elim (λ_=>Bool) e c f=F2->P e) e c (λa b c d _=>k a b c d) c
noncomputable def AK(e:Expr)(f:List (Option Expr)->List Expr->Pos->Bool):Bool:=if h:e.ctorIdx=6 then @WM.elim (λ_=>Bool) e h f else N2
@[elab_as_elim]
theorem G0{P:Expr->Prop}(e:Expr){f:List (Option Expr)->List Expr->Pos->Bool}(h:AK e f=F2)(k:∀a b c,f a b c=F2->P (.Dict a b c)):P e:=(pk h).elim λc=>@WM.elim (λe=>∀c,@WM.elim (λ_=>Bool) e c f=F2->P e) e c (λa b c _=>k a b c) c
noncomputable def eF(e:Stmt)(f:List Expr->Expr->Pos->Bool):Bool:=if h:e.ctorIdx=5 then @Wd.elim (λ_=>Bool) e h f else N2
@[elab_as_elim]
theorem gn{P:Stmt->Prop}(e:Stmt){f:List Expr->Expr->Pos->Bool}(h:eF e f=F2)(k:∀a b c,f a b c=F2->P (.Assign a b c)):P e:=(pk h).elim λc=>@Wd.elim (λe=>∀c,@Wd.elim (λ_=>Bool) e c f=F2->P e) e c (λa b c _=>k a b c) c
noncomputable def fB(e:Stmt)(f:Expr->Qs->Expr->Pos->Bool):Bool:=if h:e.ctorIdx=7 then @Us.elim (λ_=>Bool) e h f else N2
@[elab_as_elim]
theorem j0{P:Stmt->Prop}(e:Stmt){f:Expr->Qs->Expr->Pos->Bool}(h:fB e f=F2)(k:∀a b c d,f a b c d=F2->P (.AugAssign a b c d)):P e:=(pk h).elim λc=>@Us.elim (λe=>∀c,@Us.elim (λ_=>Bool) e c f=F2->P e) e c (λa b c d _=>k a b c d) c
noncomputable def xk(e:Stmt)(f:Expr->Pos->Bool):Bool:=if h:e.ctorIdx=24 then @WN.elim (λ_=>Bool) e h f else N2
@[elab_as_elim]
theorem Er{P:Stmt->Prop}(e:Stmt){f:Expr->Pos->Bool}(h:xk e f=F2)(k:∀a b,f a b=F2->P (.Expr a b)):P e:=(pk h).elim λc=>@WN.elim (λe=>∀c,@WN.elim (λ_=>Bool) e c f=F2->P e) e c (λa b _=>k a b) c
noncomputable def qA(e:Stmt)(f:Option Expr->Pos->Bool):Bool:=if h:e.ctorIdx=3 then @We.elim (λ_=>Bool) e h f else N2
@[elab_as_elim]
theorem zN{P:Stmt->Prop}(e:Stmt){f:Option Expr->Pos->Bool}(h:qA e f=F2)(k:∀a b,f a b=F2->P (.Return a b)):P e:=(pk h).elim λc=>@We.elim (λe=>∀c,@We.elim (λ_=>Bool) e c f=F2->P e) e c (λa b _=>k a b) c
noncomputable def Es(e:Stmt)(f:Expr->List Stmt->List Stmt->Pos->Bool):Bool:=if h:e.ctorIdx=12 then @Stmt.If.elim (λ_=>Bool) e h f else N2
@[elab_as_elim]
theorem Ha{P:Stmt->Prop}(e:Stmt){f:Expr->List Stmt->List Stmt->Pos->Bool}(h:Es e f=F2)(k:∀a b c d,f a b c d=F2->P (.If a b c d)):P e:=(pk h).elim λc=>@Stmt.If.elim (λe=>∀c,@Stmt.If.elim (λ_=>Bool) e c f=F2->P e) e c (λa b c d _=>k a b c d) c
noncomputable def AL(e:Stmt)(f:Expr->Expr->List Stmt->List Stmt->Pos->Bool):Bool:=if h:e.ctorIdx=9 then @Stmt.For.elim (λ_=>Bool) e h f else N2
@[elab_as_elim]
theorem G1{P:Stmt->Prop}(e:Stmt){f:Expr->Expr->List Stmt->List Stmt->Pos->Bool}(h:AL e f=F2)(k:∀a b c d e,f a b c d e=F2->P (.For a b c d e)):P e:=(pk h).elim λc=>@Stmt.For.elim (λe=>∀c,@Stmt.For.elim (λ_=>Bool) e c f=F2->P e) e c (λa b c d e _=>k a b c d e) c
noncomputable def sK(e:Stmt)(f:Expr->List Stmt->List Stmt->Pos->Bool):Bool:=if h:e.ctorIdx=11 then @WD.elim (λ_=>Bool) e h f else N2
@[elab_as_elim]
theorem Cb{P:Stmt->Prop}(e:Stmt){f:Expr->List Stmt->List Stmt->Pos->Bool}(h:sK e f=F2)(k:∀a b c d,f a b c d=F2->P (.While a b c d)):P e:=(pk h).elim λc=>@WD.elim (λe=>∀c,@WD.elim (λ_=>Bool) e c f=F2->P e) e c (λa b c d _=>k a b c d) c
noncomputable def xm(e:Stmt)(f:Pos->Bool):Bool:=if h:e.ctorIdx=25 then @WO.elim (λ_=>Bool) e h f else N2
@[elab_as_elim]
theorem Et{P:Stmt->Prop}(e:Stmt){f:Pos->Bool}(h:xm e f=F2)(k:∀a,f a=F2->P (.Pass a)):P e:=(pk h).elim λc=>@WO.elim (λe=>∀c,@WO.elim (λ_=>Bool) e c f=F2->P e) e c (λa _=>k a) c
noncomputable def sL(e:Stmt)(f:Pos->Bool):Bool:=if h:e.ctorIdx=26 then @WE.elim (λ_=>Bool) e h f else N2
@[elab_as_elim]
theorem Cc{P:Stmt->Prop}(e:Stmt){f:Pos->Bool}(h:sL e f=F2)(k:∀a,f a=F2->P (.Break a)):P e:=(pk h).elim λc=>@WE.elim (λe=>∀c,@WE.elim (λ_=>Bool) e c f=F2->P e) e c (λa _=>k a) c
noncomputable def kj(e:Stmt)(f:Pos->Bool):Bool:=if h:e.ctorIdx=27 then @UO.elim (λ_=>Bool) e h f else N2
@[elab_as_elim]
theorem uJ{P:Stmt->Prop}(e:Stmt){f:Pos->Bool}(h:kj e f=F2)(k:∀a,f a=F2->P (.Continue a)):P e:=(pk h).elim λc=>@UO.elim (λe=>∀c,@UO.elim (λ_=>Bool) e c f=F2->P e) e c (λa _=>k a) c
noncomputable def lv0{α:Type}(xs:List α)(b:Bool):Bool:=xs.isEmpty&&b
noncomputable def lvc{α:Type}(xs:List α)(f:α->List α->Bool):Bool:=match xs with
 |y::r=>f y r
 |[]=>N2
noncomputable def lv1{α:Type}(xs:List α)(f:α->Bool):Bool:=lvc xs λy r=>lv0 r (f y)
noncomputable def lv2{α:Type}(xs:List α)(f:α->α->Bool):Bool:=lvc xs λy r=>lv1 r (f y)
noncomputable def os{α:Type}(o:Option α)(f:α->Bool):Bool:=match o with
 |some x=>f x
 |none=>N2
noncomputable def on{α:Type}(o:Option α)(b:Bool):Bool:=o.isNone&&b
@[elab_as_elim]
theorem i3{α:Type}{P:List α->Prop}(xs:List α){b:Bool}(h:lv0 xs b=F2)(k:b=F2->P []):P xs:=by
 cases xs with
 |nil=>exact k h
 |cons _ _=>cases h
@[elab_as_elim]
theorem Eu{α:Type}{P:List α->Prop}(xs:List α){f:α->List α->Bool}(h:lvc xs f=F2)(k:∀y r,f y r=F2->P (y::r)):P xs:=by
 cases xs with
 |nil=>cases h
 |cons y r=>exact k y r h
@[elab_as_elim]
theorem cJ{α:Type}{P:List α->Prop}(xs:List α){f:α->Bool}(h:lv1 xs f=F2)(k:∀y,f y=F2->P [y]):P xs:=Eu xs h λy r h=>i3 r h λh=>k y h
@[elab_as_elim]
theorem i4{α:Type}{P:List α->Prop}(xs:List α){f:α->α->Bool}(h:lv2 xs f=F2)(k:∀y z,f y z=F2->P [y,z]):P xs:=Eu xs h λy r h=>cJ r h λz h=>k y z h
@[elab_as_elim]
theorem jos{α:Type}{P:Option α->Prop}(o:Option α){f:α->Bool}(h:os o f=F2)(k:∀x,f x=F2->P (Z x)):P o:=by
 cases o with
 |none=>cases h
 |some x=>exact k x h
@[elab_as_elim]
theorem jon{α:Type}{P:Option α->Prop}(o:Option α){b:Bool}(h:on o b=F2)(k:b=F2->P Y):P o:=by
 cases o with
 |none=>exact k h
 |some x=>cases h
theorem bN{a b:Bool}(h:(a&&b)=F2):a=F2/\b=F2:=by rwa[r0]at h
noncomputable def bC(e:Expr)(g:Str->List Expr->Bool):Bool:=uH e λf xs ks _=>lv0 ks (dN f λx _=>g x xs)
@[elab_as_elim]
theorem bD{P:Expr->Prop}(e:Expr){g:Str->List Expr->Bool}(h:bC e g=F2)(k:∀x xs p pos,g x xs=F2->P (.Call (.Name x p) xs [] pos)):P e:=AJ e h λf xs ks pos h=>i3 ks h λh=>eV f h λx p h=>k x xs p pos h
noncomputable def kl(e:Expr)(g:Expr->Str->List Expr->Pos->Pos->Bool):Bool:=uH e λf xs ks p=>lv0 ks (ki f λo n q=>g o n xs q p)
@[elab_as_elim]
theorem oJ{P:Expr->Prop}(e:Expr){g:Expr->Str->List Expr->Pos->Pos->Bool}(h:kl e g=F2)(k:∀o n xs q p,g o n xs q p=F2->P (.Call (.Attribute o n q) xs [] p)):P e:=AJ e h λf xs ks pos h=>i3 ks h λh=>uI f h λo n q h=>k o n xs q pos h
noncomputable def iSl(e:Expr)(g:Expr->Option Expr->Option Expr->Option Expr->Bool):Bool:=cX e λx y _=>xi y λl u s _=>g x l u s
@[elab_as_elim]
theorem jSl{P:Expr->Prop}(e:Expr){g:Expr->Option Expr->Option Expr->Option Expr->Bool}(h:iSl e g=F2)(k:∀x l u s p pos,g x l u s=F2->P (.Subscript x (.Slice l u s p) pos)):P e:=dO e h λx y pos h=>Ep y h λl u s p h=>k x l u s p pos h
mutual
noncomputable def okG:MG->Ctx->Expr->Bool
 |.name i,C,e=>dN e λx _=>decide (C.N[i]?=Z x)&&uF C.sc x&&(C.sc.names.lookup x==Z .local || C.fn.contains x)
 |.tup gs,C,e=>dw e λes _ _=>okGs gs C es
noncomputable def okGs:MGs->Ctx->List Expr->Bool
 |.nil,_,es=>es.isEmpty
 |.cons g r,C,es=>match es with
  |e::es=>aH e&&okG g C e&&okGs r C es
  |[]=>N2
end
noncomputable def oK(ns:List Str):List Nat->List Expr->Bool
 |[],[]=>F2
 |i::r,e::es=>dN e (λx _=>decide (ns[i]?=Z x) && !(x==("__debug__":Str)) && !(x==("__classdict__":Str)))&&oK ns r es
 |_,_=>N2
noncomputable def sM(C:Ctx)(j:Nat)(js:List Nat)(ns:List Str)(sc:Scope)(b:Expr):Bool:=bC b λg es=>decide (C.Γ[j]?=Z g)&&glB sc g && !(g==("__debug__":Str)) && !es.isEmpty&&oK ns js es
noncomputable def cY(cs:List Nat)(N:List Str):Option (List Str):=cs.mapM λc=>N[c]?
noncomputable def km:Qj->Option (Arg×Arg)
 |⟨[],[a1,a2],Y,[],[],Y,[]⟩=>Z (a1,a2)
 |_=>Y
noncomputable def oM(C:Ctx)(j:Nat)(cs js:List Nat)(sc:Scope)(b:Expr)(y1 y2:Str)(xs:List Str):Bool:=
 decide (sc.kind=.function) && !sc.isCoroutine && !sc.isGenerator && !(y1==y2)&&sc.names.lookup y1==Z .local&&sc.names.lookup y2==Z .local
  && xs.all (λx=>sc.names.lookup x==Z .free&&C.sc.names.lookup x==Z .cell)&&sc.names.all (λy=>!(y.2==.cell)&&(!(y.2==.free) || xs.contains y.1))&&sM C j js (xs++[y1,y2]) sc b
noncomputable def AM(C:Ctx)(j:Nat)(cs js:List Nat)(pos:Pos):Expr->Bool
 |.Lambda ps b sc pos'=>decide (pos'=pos)&&os (km ps) (λa=>os (cY cs C.N) (oM C j cs js sc b a.1.arg a.2.arg))
 |_=>N2
mutual
noncomputable def okE:ME->Ctx->Expr->Bool
 |.var i,C,e=>dN e λx _=>decide (C.N[i]?=Z x)&&uE C.sc x && !(x==("__debug__":Str)) && !(x==("__classdict__":Str))
 |.int i,_,e=>eW e λc _ _=>decide (c=.int i)
 |.bl i,_,e=>eW e λc _ _=>decide (c=.bool i)
 |.non,_,e=>eW e λc _ _=>decide (c=.none)
 |.bin op a b,C,e=>xg e λl o r _=>decide (o=opO op)&&okE a C l&&okE b C r
 |.neg a,C,e=>gk e λo x _=>decide (o=.USub)&&okE a C x
 |.cmp op a b,C,e=>jg e λl os rs _=>lv1 os λo=>lv1 rs λr=>decide (o=zL op)&&okE a C l&&okE b C r && !(QI o r)
 |.and es,C,e=>fK e λo xs _=>decide (o=.And) && !xs.isEmpty&&okEs es C xs
 |.or es,C,e=>fK e λo xs _=>decide (o=.Or) && !xs.isEmpty&&okEs es C xs
 |.not a,C,e=>gk e λo x _=>decide (o=.Not)&&okE a C x
 |.ite c a b,C,e=>xh e λt x y _=>okT c C t&&okE a C x&&okE b C y
 |.tup es,C,e=>dw e λxs _ _=>okEs es C xs
 |.lst es,C,e=>AI e λxs _=>okEs es C xs
 |.ix a b,C,e=>cX e λx y _=>iI y&&okE a C x&&okE b C y
 |.sl a lo hi,C,e=>iSl e λx l u s=>on s (okE a C x&&okO lo C l&&okO hi C u)
 |.callC i es,C,e=>bC e λx xs=>decide (C.lm=1)&&decide (C.N[i]?=Z x)&&uE C.sc x && !(x==("__debug__":Str)) && !(x==("__classdict__":Str))&&decide (xs.length=2)&&okEs es C xs
 |.callL f es j cs js P pos q,C,e=>bC e λx xs=>decide (C.lm=P+2)&&decide (C.Γ[f]?=Z x)&&glB C.sc x && !(x==("__debug__":Str))&&decide (C.nm++(".<locals>.":Str)++("<lambda>":Str)=q)&&os xs.getLast? (AM C j cs js pos) && !xs.dropLast.isEmpty&&okEs es C xs.dropLast
 |.call f es,C,e=>bC e λx xs=>decide (C.Γ[f]?=Z x)&&glB C.sc x && !(x==("__debug__":Str))&&okEs es C xs
 |.blt f es,C,e=>bC e λx xs=>decide (x=qw f)&&glB C.sc x && !xs.isEmpty&&okEs es C xs
 |.isin a T,C,e=>bC e λx xs=>lv2 xs λy w=>dN w λz _=>decide (x="isinstance")&&glB C.sc x&&glB C.sc z&&decide (z=Mu T)&&decide (T∈["bool","int","str","tuple","list","dict"])&&aH y&&okE a C y
 |.dnew _,_,e=>AK e λks vs _=>lv0 ks (lv0 vs F2)
 |.sortI a,C,e=>bC e λx xs=>lv1 xs λw=>kl w λy n ys ap cp=>lv0 ys (decide (x="sorted")&&glB C.sc x&&decide (n="items")&&fJ y&&(ap.endLine==cp.line)&&okE a C y)
 |.dget o k x,C,e=>kl e λy n xs ap cp=>lv2 xs λe1 e2=>decide (n="get")&&fJ y&&(ap.endLine==cp.line)&&aH e1&&aH e2&&okE o C y&&okE k C e1&&okE x C e2
 |.lrng2 a b,C,e=>bC e λx xs=>lv1 xs λw=>bC w λz ys=>lv2 ys λy u=>decide (x="list")&&glB C.sc x&&decide (z="range")&&glB C.sc z&&aH y&&aH u&&okE a C y&&okE b C u
 |.meth m o a,C,e=>kl e λx n xs ap cp=>lv1 xs λy=>decide (n=El m)&&fJ x&&(ap.endLine==cp.line)&&aH y&&okE o C x&&okE a C y
 |.ins o i a,C,e=>kl e λx n xs ap cp=>lv2 xs λy z=>decide (n="insert")&&fJ x&&(ap.endLine==cp.line)&&aH y&&aH z&&okE o C x&&okE i C y&&okE a C z
 |.comp fr N' c,C,e=>nC e λelt gens sc _=>zM sc C.sc C.N N' fr&&okC c C ⟨C.Γ,N',je sc C.sc,(sc.names.filter (·.2==.cell)).map (·.1),C.cs,0,C.nm⟩ gens elt
 |.revS a st,C,e=>iSl e λx l u s=>on l (on u (os s λs=>okE a C x&&okE st C s))
noncomputable def okEs:MEs->Ctx->List Expr->Bool
 |.nil,_,es=>es.isEmpty
 |.cons m r,C,es=>match es with
  |e::es=>aH e&&okE m C e&&okEs r C es
  |[]=>N2
noncomputable def okO:MO->Ctx->Option Expr->Bool
 |.none,_,e=>e.isNone
 |.some m,C,e=>match e with
  |some e=>okE m C e
  |none=>N2
noncomputable def okT:MT->Ctx->Expr->Bool
 |.tru m,C,e=>xf e&&okE m C e
 |.cmp op a b,C,e=>jg e λl os rs _=>lv1 os λo=>lv1 rs λr=>decide (o=zL op)&&okE a C l&&okE b C r && !(QI o r)
 |.and ts,C,e=>fK e λo xs _=>decide (o=.And) && !xs.isEmpty&&okTs ts C xs
 |.or ts,C,e=>fK e λo xs _=>decide (o=.Or) && !xs.isEmpty&&okTs ts C xs
 |.not t,C,e=>gk e λo x _=>decide (o=.Not)&&okT t C x
noncomputable def okTs:MTs->Ctx->List Expr->Bool
 |.nil,_,es=>es.isEmpty
 |.cons m r,C,es=>match es with
  |e::es=>okT m C e&&okTs r C es
  |[]=>N2
noncomputable def okI:MI->Ctx->Expr->Expr->Bool
 |.seq m,C,_,e=>uG e&&okE m C e
 |.rng1 a,C,_,e=>bC e λx xs=>lv1 xs λy=>decide (x="range")&&glB C.sc x&&aH y&&okE a C y
 |.rng2 a b,C,_,e=>bC e λx xs=>lv2 xs λy z=>decide (x="range")&&glB C.sc x&&aH y&&aH z&&okE a C y&&okE b C z
 |.enum a,C,t,e=>bC e λx xs=>lv1 xs λy=>dw t λ_ _ _=>decide (x="enumerate")&&glB C.sc x&&aH y&&okE a C y
 |.rev a,C,_,e=>bC e λx xs=>lv1 xs λy=>decide (x="reversed")&&glB C.sc x&&aH y&&okE a C y
 |.zip a b,C,t,e=>bC e λx xs=>lv2 xs λy z=>dw t λ_ _ _=>decide (x="zip")&&glB C.sc x&&aH y&&aH z&&okE a C y&&okE b C z
noncomputable def okC:MC->Ctx->Ctx->List Nl->Expr->Bool
 |.last src g ifs m,Cs,C,gens,elt=>match gens with
  |[⟨t,it,fs,a⟩]=>decide (a=0)&&okI src Cs t it&&okG g C t&&okTs ifs C fs&&okE m C elt
  |_=>N2
 |.more src g ifs rest,Cs,C,gens,elt=>match gens with
  |⟨t,it,fs,a⟩::g2::gs=>decide (a=0)&&okI src Cs t it&&okG g C t&&okTs ifs C fs&&okC rest C C (g2::gs) elt
  |_=>N2
end
noncomputable def bg(sc:Scope)(ts:List Expr):List Str:=ts.filterMap fun
 |.Name id pos=>if sc.names.lookup id==Z .local&&pos.line==(ts.head?.map (·.pos.line)).getD 0 then Z id else Y
 |_=>Y
noncomputable def uK(sc:Scope)(ts vs:List Expr):Bool:=!(ts.length==2 || ts.length==3) || vs.length != ts.length || (bg sc ts).length != ts.length || (bg sc ts).eraseDups.length != (bg sc ts).length || vs.all (UP 8)
noncomputable def uL(C:Ctx)(i:Nat)(x:Str):Bool:=decide (C.N[i]?=Z x)&&decide (C.sc.names.lookup x=Z .local)
noncomputable def uM(sc:Scope)(ts vs:List Expr)(ns:List Str):Bool:=!(!(ts.length==2 || ts.length==3) || vs.length != ts.length) && !(vs.any λ| .Starred ..=>F2|_=>N2)&&decide (bg sc ts=ns) && !((bg sc ts).length != ts.length || (bg sc ts).eraseDups.length != (bg sc ts).length) && !(vs.all (UP 8)) && !(vs.all (constantsAlone 8))
noncomputable def uN(sc:Scope)(tg e:Expr):Bool:=match tg,e with
 |.Tuple ts _ _,.Tuple vs _ _=>uK sc ts vs
 |.Tuple ..,_=>F2
 |.Name ..,_=>F2
 |_,_=>N2
noncomputable def Ev(sc:Scope)(x:Str)(px:Pos)(e:Expr):Bool:=match e with
 |.DictComp _ _ _ s _=>!(sc.names.lookup x==Z .local&&px.line==e.pos.line && !(s.names.any λ(n,k)=>n==x&&(k==.local || k==.cell)))
 |_=>F2
noncomputable def uO(sc:Scope)(x:Str)(px:Pos)(e:Expr):Bool:=match e with
 |.ListComp _ _ s _=>sc.names.lookup x==Z .local&&px.line==e.pos.line && !(s.names.any λ(n,k)=>n==x&&(k==.local || k==.cell))
 |_=>N2
mutual
noncomputable def okS:MS->Ctx->Stmt->Bool
 |.asg g m,C,s=>eF s λts e _=>lv1 ts λtg=>okG g C tg&&okE m C e&&uN C.sc tg e&&(match tg with|.Name x px=>Ev C.sc x px e|_=>kh e)
 |.asgL gs m,C,s=>eF s λts e _=>lv1 ts λtg=>dw tg λts k p=>okGs gs C ts&&okE m C e&&uN C.sc (.Tuple ts k p) e
 |.par i j a b,C,s=>eF s λts e _=>lv1 ts λtg=>dw tg λts _ _=>dw e λes _ _=>lv2 ts λt u=>lv2 es λe f=>dN t λx px=>dN u λy py=>uL C i x&&uL C j y&&decide (i≠j)&&aH e&&aH f&&okE a C e&&okE b C f&&uM C.sc [.Name x px,.Name y py] [e,f] [x,y]
 |.put o i m,C,s=>eF s λts e _=>lv1 ts λtg=>cX tg λx y _=>iI y&&kh e&&okE o C x&&okE i C y&&okE m C e
 |.aug i op m,C,s=>fB s λt o e _=>dN t λx _=>decide (o=opO op)&&(match op with|.add|.sub|.mul|.ext=>F2|_=>N2)&&decide (C.N[i]?=Z x)&&uF C.sc x&&(C.sc.names.lookup x==Z .local || C.fn.contains x)&&okE m C e
 |.augI o i op m,C,s=>fB s λt o' e _=>cX t λx y _=>decide (o'=opO op)&&(match op with|.add|.sub|.mul=>F2|_=>N2)&&iI y&&okE o C x&&okE i C y&&okE m C e
 |.drop m,C,s=>xk s λe _=>kh e&&okE m C e
 |.ret m,C,s=>qA s λo _=>os o λe=>okE m C e
 |.ite c a b,C,s=>Es s λt x y _=>okT c C t&&okSs a C x&&okSs b C y
 |.for g src b,C,s=>AL s λtg it body els _=>lv0 els (uG it&&okG g C tg&&okI src C tg it&&okSs b C body)
 |.while c b,C,s=>sK s λt body els _=>lv0 els (okT c C t&&okSs b C body)
 |.pass,_,s=>xm s λ_=>F2
 |.brk,_,s=>sL s λ_=>F2
 |.cnt,_,s=>kj s λ_=>F2
noncomputable def okSs:MSs->Ctx->List Stmt->Bool
 |.nil,_,ss=>ss.isEmpty
 |.cons m r,C,ss=>match ss with
  |s::ss=>okS m C s&&okSs r C ss
  |[]=>N2
end
theorem af(h:aH e=F2):Mk (e::es) env=(N2,eval e env)::Mk es env:=by cases e<;>first|rfl|(cases h;done)
theorem nD(h:aH e=F2):NB (e::es) env=(N2,assign e env)::NB es env:=by cases e<;>first|rfl|(cases h;done)
theorem uP(h:xf e=F2):∀whole,isTrue e env whole=(do let v <-whole;SF e.pos;holding [v] (truthy v)):=by
 intro w
 cases e<;>first|rfl|(cases h;done)
theorem zO(h:iI e=F2):kP e:=by
 intro o i
 cases e<;>first|rfl|(cases h;done)
theorem xo(h:uG e=F2):∀x,ON e env x=pure x:=by
 intro x
 cases e<;>first|rfl|(cases h;done)
theorem gp{n:Str}(h:fJ e=F2):SR e n env (eval e env)=eval e env:=by
 cases e<;>first
  |rfl
  | (rename_i f xs _ _;cases xs with
     |nil=>cases h
     |cons _ _=>cases f<;>rfl)
theorem Ew{ts:List Expr}{k:Nat}{p:Pos}{l:Nat}:Qy e (Z (.Tuple ts k p)) l env=pure N2:=by cases e<;>rfl
theorem lp{t:Option Expr}{l:Nat}(h:kh e=F2):Qy e t l env=pure N2:=by cases e<;>first|rfl|(cases h;done)
end
variable{x:Str}{sc:Scope}
section
noncomputable def lSp(K:Frag)(r:RAd):Sp:=λvs H Q _=>lR K r vs H Q
noncomputable def uQ(Φ:Phi)(j:Nat)(gs:List D)(js:List Nat):RAd:=λargs M Q=>args.length=2/\Φ (4000+j) (js.map λi=>(gs++args).getD i .non) M Q
noncomputable def spC(P:Ml)(w:MQ)(K:Frag)(mg:Str->Option i0)(base:Heap)(k:Nat)(Φ:Phi)(i:Nat):List Env->s9->Sp:=λouter s vs H Q _=>∃(ds:List D) (a:Xc) (j:Nat) (gs:List D) (js:List Nat) (M:Mem),RM K M H/\RDs K H (ds++[.ref a]) vs/\ik P w K mg base (k-1) (frs outer) a (lSp K (uQ Φ j gs js)) H s.heap/\Φ (1000+i) (ds++[.ref a,.int j,.tup gs,.tup (js.map λi:Nat=>.int i)]) M (KE' K M H Q)
def xp(X:Cx)(a:Xc)(r:RAd):Prop:=∀(pins:List (Xc×Obj)) (s:s9) (σ:St) (H:Hp) (vs:List V) (us:List i0) (Q:VK),Inv X pins σ H s->Vals vs us->lR X.K r vs H Q->
 Vm a s.heap/\LR (model X.prog X.w) X.A (call (.ref a) us) (EP X pins σ Q) X.xe s
structure xq(C:Ctx)(Φ:Phi)(k:Nat)(X:Cx)(P:Xc):Prop where
 cd:∃c,X.env.code=.ref c/\PySem.W.CodeHd X.base c P
 bm:fj X.mg X.base
 qu:X.env.qual=C.nm++(".<locals>.":Str)
 spc:∀(i:Nat) (x:Str),C.Γ[i]?=Z x->∃f fd ps,X.mg x=Z (.ref f)/\P5 X.K (.ref f)=F2/\Binds X.K fd ps []/\nW X.prog X.w X.K X.mg X.base k f fd ps (spC X.prog X.w X.K X.mg X.base k Φ i)
 low:∀(j:Nat) (x:Str),C.Γ[j]?=Z x->∃f fd ps,X.mg x=Z (.ref f)/\P5 X.K (.ref f)=F2/\Binds X.K fd ps []/\FnOk X.prog X.w X.K X.mg X.base CX0 (k-2) f fd ps (lSp X.K (Φ (4000+j)))
 big:(∃k0,k=k0+2)∨∀(j:Nat) (x:Str),C.Γ[j]?=Z x->∀ds M Q,¬Φ (4000+j) ds M Q
structure Good(C:Ctx)(Φ:Phi)(k:Nat)(X:Cx):Prop where
 hx:∀e s,X.xe e s->False
 calm:X.calm=F2
 N:X.N=C.N
 sc:X.env.scope=C.sc
 nd:X.N.Nodup
 fn:∀x∈C.fn,X.fn x=F2
 room:Room k X.A
 mgB:∀x∈bltNames,X.mg x=Y
 fns:∀(i:Nat) (x:Str),C.Γ[i]?=Z x->∃f fd ps,X.mg x=Z (.ref f)/\S9 X.K Nw x=Z (Z (.ref f))/\P5 X.K (.ref f)=F2/\Binds X.K fd ps []/\FnOk X.prog X.w X.K X.mg X.base CX0 k f fd ps (lSp X.K (Φ i))
 mono:∀f,aM (Φ f)
 cs:∀x d,(x,d)∈C.cs->∃u,X.mg x=Z u/\GV X.K d u
 clo:C.lm=1->∀a,xp X a (Φ (5000+a))
 lam:∀P,C.lm=P+2->xq C Φ k X P
section
variable{C:Ctx}{Φ:Phi}{k:Nat}{X:Cx}
theorem Good.units(G:Good C Φ k X):X.A.units+64<Po:=G.room.units
theorem Good.gl(G:Good C Φ k X)(h:glB C.sc x=F2):Gl X x:=by show X.env.scope.names.lookup x=_;rw[G.sc];simpa[glB]using h
theorem Good.vis(G:Good C Φ k X)(h:uE C.sc x=F2):Vis X.env.scope x:=by
 unfold Vis;rw[G.sc];simp[uE]at h
 rcases h with(h|h)|h
 ·exact .inl h
 ·exact .inr (.inl h)
 ·exact .inr (.inr h)
theorem Good.loc(G:Good C Φ k X)(h:uF C.sc x=F2):Loc X.env.scope x:=by unfold Loc;rw[G.sc];simpa[uF]using h
theorem Good.own(G:Good C Φ k X)(h:(C.sc.names.lookup x==Z .local || C.fn.contains x)=F2):X.fn x=F2∨X.env.scope.names.lookup x=Z .local:=by
 rw[G.sc];simp at h
 rcases h with h|h
 ·exact .inr h
 ·exact .inl (G.fn x h)
theorem Ex(G:Good C Φ k X):∀o:BOp,OpR X (O7 (opO o)) (l2 X.K (opB o))
 |.add=>pK|.sub=>yN|.mul=>yO|.fdiv=>vY|.mod=>yQ|.pow=>yR|.ext=>pK
theorem sN(G:Good C Φ k X):∀o:COp,OpR X (Oy (zL o)) (l2 X.K (opC o))
 |.eq=>Bs (by have:=G.units;lia)|.ne=>Bt (by have:=G.units;lia)|.lt=>By| .gt=>Bz|.ge=>BA| .inS=>zH| .ninD=>wX (by have:=G.units;lia)
theorem Ey(G:Good C Φ k X){f:BF}{t:TAd}{p:Pos}(mt:aR t)(z:Gl X (qw f))(B:PA X (e::es) (lA X.K t))(he:Mk (e::es) X.env=(N2,eval e X.env)::Mk es X.env)(j:(PV pos (Mk es X.env)).any (·.1)=N2):PE X (.Call (.Name (qw f) p) (e::es) [] pos) (lE X.K (wAr (opF f) t)):=by
 cases f with
 |len=>exact PE.imp (ca tY z (G.mgB _ (by decide)) PySem.boot_len B (by decide) (by decide) he j) (bF pS mt)
 |abs=>exact PE.imp (ca tZ z (G.mgB _ (by decide)) (by decide +kernel) B (by decide) (by decide) he j) (bF pT mt)
 |max2=>exact PE.imp (ca (rq G.calm) z (G.mgB _ (by decide)) (by decide +kernel) B (by decide) (by decide) he j) (bF mH mt)
 |min2=>exact PE.imp (ca (rA G.calm) z (G.mgB _ (by decide)) (by decide +kernel) B (by decide) (by decide) he j) (bF mJ mt)
 |max1=>exact PE.imp (ca (rK G.calm) z (G.mgB _ (by decide)) (by decide +kernel) B (by decide) (by decide) he j) (bF nt mt)
 |int=>exact PE.imp (gH u5 z (G.mgB _ (by decide)) (by decide +kernel) B (by decide) (by decide) he j) (bF pU mt)
 |list=>exact PE.imp (gH rB z (G.mgB _ (by decide)) (by decide +kernel) B (by decide) (by decide) he j) (bF mK mt)
 |tuple=>exact PE.imp (gH pW z (G.mgB _ (by decide)) (by decide +kernel) B (by decide) (by decide) he j) (bF jJ mt)
 |all=>exact PE.imp (ca (uq G.calm) z (G.mgB _ (by decide)) (by decide +kernel) B (by decide) (by decide) he j) (bF qc mt)
 |sorts=>exact PE.imp (ca (qq (by have:=G.units;lia) G.calm) z (G.mgB _ (by decide)) (by decide +kernel) B (by decide) (by decide) he j) (bF ke mt)
theorem Cd(G:Good C Φ k X){t:TAd}{p:Pos}(mt:aR t)(hf:C.Γ[f]?=Z x)(B:Gl X x)(j:(x==("__debug__":Str))=N2)(J:PA X (e::es) (lA X.K t))(he:Mk (e::es) X.env=(N2,eval e X.env)::Mk es X.env)(z:(PV pos (Mk es X.env)).any (·.1)=N2):PE X (.Call (.Name x p) (e::es) [] pos) (lE X.K (wAr (Φ f) t)):=by
 obtain⟨a,fd,ps,hm,_,L,O,F⟩:=G.fns f x hf;refine PE.imp (rN F G.room B hm L O .nil tR J j he z) λσ H Q h=>?_;have h2:=bF (G.mono f) mt σ H Q h;have:(λvs H1=>lSp X.K (Φ f) (vs++[]) H1 Q E0)=λvs H1=>lR X.K (Φ f) vs H1 Q:=by funext vs H1;rw[Np];rfl
 show(lA X.K t) σ H _;rw[this];exact h2
theorem zP(G:Good C Φ k X){p:Pos}(hf:C.Γ[f]?=Z x)(z:Gl X x)(j:(x==("__debug__":Str))=N2):PE X (.Call (.Name x p) [] [] pos) (lE X.K (wAr (Φ f) aX)):=by obtain⟨a,fd,ps,hm,_,B,J,F⟩:=G.fns f x hf;refine PE.imp (ym F G.room z hm B J .nil tR j) λσ H Q h=>?_;obtain⟨ρ,M,rs,rm,q⟩:=h;exact⟨[],M,rm,RDs.nil,q⟩
theorem de{env:Env}{pos:Pos}:∀{es:List Expr},es.all aH=F2->(PV pos (Mk es env)).any (·.1)=N2
 |[],_=>rfl
 |e::es,h=>by
  simp only[OG,r0]at h;rw[af h.1];show(N2 || (PV pos (Mk es env)).any (·.1))=N2
  rw[de h.2];rfl
theorem dy:∀{ms:MEs} {es:List Expr},okEs ms C es=F2->es.all aH=F2
 |.nil,[],_=>rfl
 |.nil,_::_,h=>by simp[okEs]at h
 |.cons m r,[],h=>by simp[okEs]at h
 |.cons m r,e::es,h=>by simp only[okEs,r0]at h;simp only[OG,r0];exact⟨h.1.1,dy h.2⟩
theorem lr:∀{gs:MGs} {es:List Expr},okGs gs C es=F2->∀ds ρ ρ',bGs gs ds ρ=Z ρ'->ds.length=es.length
 |.nil,es,h,ds,ρ,ρ',e=>by
  simp[okGs]at h;subst h;rw[bGs]at e
  cases ds with
  |nil=>rfl
  |cons _ _=>cases e
 |.cons g r,[],h,_,_,_,_=>by simp[okGs]at h
 |.cons g r,x::es,h,ds,ρ,ρ',e=>by
  simp only[okGs,r0]at h;rw[bGs]at e
  cases ds with
  |nil=>cases e
  |cons d ds=>
   simp only[cC]at e
   cases e1:bG g d ρ with
   |none=>rw[e1]at e;cases e
   |some ρ1=>rw[e1]at e;simp[lr h.2 ds ρ1 ρ' e]
theorem jh{env:Env}:∀{gs:MGs} {es:List Expr},okGs gs C es=F2->(NB es env).length=es.length/\(NB es env).findIdx? (·.1)=Y
 |.nil,es,h=>by simp[okGs]at h;subst h;exact⟨rfl,rfl⟩
 |.cons g r,[],h=>by simp[okGs]at h
 |.cons g r,x::es,h=>by
  simp only[okGs,r0]at h;obtain⟨a,b⟩:=jh (env:=env) h.2;rw[nD h.1.1];refine⟨by simp[a],?_⟩
  rw[List.findIdx?_cons];simp[b]
mutual
theorem sG(G:Good C Φ k X):∀(m:MG) (e:Expr),okG m C e=F2->PG X e (lG X.K (bG m))
 |.name i,e,h=>by refine eV e h λx _ h=>?_;simp only[r0]at h;exact BK G.nd (by rw[G.N];exact of_decide_eq_true h.1.1) (G.loc h.1.2) (G.own h.2)
 |.tup gs,e,h=>by refine eE e h λes _ _ h=>?_;rw[bG];obtain⟨a,b⟩:=jh (env:=X.env) h;exact E2 G.calm (lr h) (sGs G gs _ h) a b
theorem sGs(G:Good C Φ k X):∀(m:MGs) (es:List Expr),okGs m C es=F2->PGs X es (lGs X.K (bGs m))
 |.nil,es,h=>by simp[okGs]at h;subst h;exact BM
 |.cons g r,[],h=>by simp[okGs]at h
 |.cons g r,e::es,h=>by simp only[okGs,r0]at h;exact za (sG G g e h.1.2) (sGs G r es h.2) (by rw[nD h.1.1];rfl)
end
theorem PB.imp{F:Sem Fin->Sem Fin}{t t':TC}(h:PB X F t)(i:∀σ H N,t' σ H N->t σ H N):PB X F t':=λpins s σ H N k Q E I q hk=>h pins s σ H N k Q E I (i _ _ _ q) hk
theorem ko{osc:Scope}{oN N':List Str}{fr:List (Option Nat)}(h:zM sc osc oN N' fr=F2):bn sc osc oN N' fr:=by
 simp only[zM,r0,decide_eq_true_eq]at h;obtain⟨⟨⟨⟨⟨h1,h2⟩,G⟩,J⟩,L⟩,O⟩:=h;refine⟨h1,h2,G,λx hx e=>?_,L,λi j x hi hf=>?_⟩
 ·have B:=PN.mp J x hx;rw[e]at B;simpa using B
 ·have F:i<N'.length:=(LP.mp hi).1;have z:=PN.mp O i (MY.mpr F);rw[hf,hi]at z;simp only[r0,decide_eq_true_eq,ND]at z;obtain⟨a,y,U,e⟩:=z;exact⟨a,by rw[<-e];exact U⟩
theorem Good.blk(G:Good C Φ k X){N':List Str}{fr:List (Option Nat)}(B:bn sc C.sc C.N N' fr)(s:s9)(H:Hp)(fp:List Xc):
 Good ⟨C.Γ,N',je sc C.sc,(sc.names.filter (·.2==.cell)).map (·.1),C.cs,0,C.nm⟩ Φ k (aQ X sc N' s H fp):=by
 refine⟨λ_ _ h=>h,G.calm,rfl,?_,B.ndN,λx hx=>?_,G.room,G.mgB,G.fns,G.mono,G.cs,λz=>(by cases z),λ_ z=>(by cases z)⟩
 ·show relabel sc X.env=_;rw[rL,G.sc]
 ·obtain⟨y,F,e⟩:=LU.mp hx;obtain⟨h1,h2⟩:=OP.mp F;obtain⟨n,kd⟩:=y;have j:kd=.cell:=by simpa using h2
  subst j;have e':n=x:=e;subst e';show(sc.names.lookup n==Z .cell)=F2;rw[b7 B.nd h1];rfl
end
end
variable{C:Ctx}
section
section
variable{C:Ctx}{Φ:Phi}{k:Nat}{X:Cx}
theorem zQ(G:Good C Φ k X)(j:C.lm=1){i:Nat}{y:Str}{t:TAd}{p:Pos}(mt:aR t)(U:X.N[i]?=Z y)(z:Vis X.env.scope y)(B:(y==("__debug__":Str))=N2)(F:(y==("__classdict__":Str))=N2)(Fn:PA X (e::es) (lA X.K t))(he:Mk (e::es) X.env=(N2,eval e X.env)::Mk es X.env)(J:(PV pos (Mk es X.env)).any (·.1)=N2):PE X (.Call (.Name y p) (e::es) [] pos) (lE X.K (kf Φ i t)):=by
 intro pins s σ H Q I h;obtain⟨ρ,M,rs,rm,a,er,q⟩:=h;obtain⟨v,ev,rd⟩:=rs.2 i _ er
 cases WR.mp rd
 refine NI (thn (oR U z B F pins s σ H (λv H'=>v=.ref a/\H'=H) I ⟨_,ev,rfl,rfl⟩) λu s1 L=>?_);obtain⟨v,H1,fv,r,z,hH⟩:=L;subst z hH
 cases r
 have h2:=bF (G.mono (5000+a)) mt σ H1 Q ⟨ρ,M,rs,rm,q⟩;have O:=Fn pos pins s1 σ H1 (λvs H1=>lR X.K (Φ (5000+a)) vs H1 Q) fv h2;rw[he]at O⊢;refine PySem.W.callWith_of (P:=Vm a) ?_ PySem.W.keeps_F (RC (thn O λus s2 L=>?_))
 ·show((N2 || (PV pos (Mk es X.env)).any (·.1)) || N2)=N2
  rw[J];rfl
 ·obtain⟨vs,H2,I2,r,q⟩:=L;exact G.clo j a pins s2 σ H2 vs us Q I2 r q
noncomputable def iK(t:TA)(tl:TE):TA:=λσ H Q=>t σ H λvs H1=>tl σ H1 λv H2=>Q (vs++[v]) H2
theorem zR{tl:TE}(h:PE X e tl)(hs:Mk [e] X.env=(N2,eval e X.env)::Mk [] X.env):PA X [e] (iK (lA X.K aX) tl):=PA.imp (dQ h jr hs) λσ H Q g9=>(by obtain⟨ρ,M,rs,rm,q⟩:=g9;exact q [] H Ext.refl rm RDs.nil)
theorem xr{l:Expr}{ta:TEd}{tr:TAd}{tl:TE}(ma:ad ta)(mr:aR tr)(j:PE X e (lE X.K ta))(z:PA X (es++[l]) (iK (lA X.K tr) tl))(hs:Mk (e::(es++[l])) X.env=(N2,eval e X.env)::Mk (es++[l]) X.env):PA X (e::es++[l]) (iK (lA X.K (av ta tr)) tl):=PA.imp (dQ j z hs) λσ H Q h=>mG ma mr σ H _ h
theorem xt{K:Frag}{H:Hp}{σ:St}{ρ:au}(rs:RS K H σ ρ):∀{cs:List Nat} {gs:List D},ll cs ρ=Z gs->∃gv,RDs K H gs gv/\gv.length=cs.length/\∀(i:Nat) (c:Nat),cs[i]?=Z c->∃v:V,gv[i]?=Z v/\σ[c]?=Z (Z v)
 |[],gs,h=>by
  have h:Z []=Z gs:=h
  cases h
  exact⟨[],RDs.nil,rfl,λi c e=>by simp at e⟩
 |c::cs,gs,h=>by
  unfold ll at h;rw[Sv]at h
  cases e1:(ρ[c]?).join with
  |none=>rw[e1]at h;cases h
  |some d=>
   rw[e1]at h
   cases e2:ll cs ρ with
   |none=>unfold ll at e2;simp[e2]at h
   |some gs'=>
    have j:=e2;unfold ll at e2;simp[e2]at h;subst h;obtain⟨gv,r,z,B⟩:=xt rs j;have F:ρ[c]?=Z (Z d):=by
     cases q:ρ[c]? with
     |none=>rw[q]at e1;cases e1
     |some o=>rw[q]at e1;exact congrArg Z e1
    obtain⟨v,G,J⟩:=rs.2 c d F;refine⟨v::gv,RDs.cons J r,by simp[z],λi c' e=>?_⟩
    cases i with
    |zero=>simp at e;subst e;exact⟨v,by simp,G⟩
    |succ i=>simp at e;obtain⟨v',L,O⟩:=B i c' e;exact⟨v',by simpa using L,O⟩
noncomputable def tIs:List Nat->TA
 |[]=>yk
 |i::r=>tN (D5 i) (tIs r)
theorem qB{H:Hp}{vs:List V}:∀{js:List Nat} {Q:List V->Hp->Prop},(∀j∈js,j<vs.length)->Q (js.map λj=>vs.getD j .non) H->tIs js (vs.map Z) H Q
 |[],Q,_,q=>q
 |j::js,Q,h,q=>by have z:=h j Mr;refine⟨vs.getD j .non,?_,qB (js:=js) (λi hi=>h i (Mg _ hi)) q⟩;rw[LQ,z0 z,LL,z0 z];rfl
theorem nE{ns:List Str}(z:X.N=ns)(B:∀x∈ns,Vis X.env.scope x):∀{js:List Nat} {es:List Expr},oK ns js es=F2->PA X es (tIs js)/\es.all aH=F2/\∀j∈js,j<ns.length
 |[],[],_=>⟨jr,rfl,λ_ h=>by simp at h⟩
 |[],_::_,h=>by cases h
 |_::_,[],h=>by cases h
 |j::js,e::es,h=>by
  unfold oK at h;obtain⟨h1,h2⟩:=bN h;obtain⟨F,p2,G⟩:=nE z B h2
  revert h1
  refineλh1=>eV (P:=λe=>PA X (e::es) (tIs (j::js))/\(e::es).all aH=F2/\∀i∈j::js,i<ns.length) e h1 λx pos h=>?_;simp only[r0,decide_eq_true_eq,N8]at h;obtain⟨⟨e1,e2⟩,J⟩:=h;refine⟨dQ (oR (by rw[z];exact e1) (B x (Mh e1)) e2 J) F (af rfl),by simp[aH,p2],λi hi=>?_⟩
  rcases LI.mp hi with rfl|hi
  ·exact(LP.mp e1).1
  ·exact G i hi
noncomputable def Ez(X:Cx)(P:Xc)(pos:Pos)(q:Str)(params:Qj)(body:Expr)(sc:Scope):TE:=λ_ H Q=>pC H P pos q/\∀a H',H a=Y->(∀b o,b≠P->H b=Z o->H' b=Z o)->pC H' P pos q->FnAt H' a q params body sc (aA X.env.cells sc.names [])->Q (.ref a) H'
theorem EA{params:Qj}{body:Expr}(L:xq C Φ k X P)(z:∀x∈sc.names,x.2=.free->(X.env.kindOf x.1=Z .cell))(j:∀env,defaultsOf params env=([],[])):
 PE X (.Lambda params body sc pos) (Ez X P pos (C.nm++(".<locals>.":Str)++("<lambda>":Str)) params body sc):=by
 intro pins s σ H Q I h;obtain⟨c,B,hd⟩:=L.cd;refine yx I B hd L.bm (by rw[L.qu]) h.1 (λx hx e=>?_) (j _) λa H' s' I' na kp tg fa=>⟨.ref a,H',I',rfl,h.2 a H' na kp tg fa⟩
 obtain⟨c,e⟩:=I.ok.has x.1 (.inl (z x hx e));rw[e];rfl
theorem xu{N xs:List Str}(h:cY cs N=Z xs):∀(i:Nat) (x:Str),xs[i]?=Z x->∃c,cs[i]?=Z c/\N[c]?=Z x:=by
 induction cs generalizing xs with
 |nil=>cases h;intro i x e;simp at e
 |cons c cs ih=>
  unfold cY at h;rw[Sv]at h
  cases e1:N[c]? with
  |none=>rw[e1]at h;cases h
  |some y=>
   rw[e1]at h
   cases e2:cY cs N with
   |none=>unfold cY at e2;simp[e2]at h
   |some ys=>
    have j:=e2;unfold cY at e2;simp[e2]at h;subst h;intro i x e
    cases i with
    |zero=>simp at e;subst e;exact⟨c,by simp,e1⟩
    |succ i=>simp at e;obtain⟨c',z,B⟩:=ih j i x e;exact⟨c',by simpa using z,B⟩
theorem sP{N xs:List Str}(h:cY cs N=Z xs):xs.length=cs.length:=by
 induction cs generalizing xs with
 |nil=>cases h;rfl
 |cons c cs ih=>
  unfold cY at h;rw[Sv]at h
  cases e1:N[c]? with
  |none=>rw[e1]at h;cases h
  |some y=>
   rw[e1]at h
   cases e2:cY cs N with
   |none=>unfold cY at e2;simp[e2]at h
   |some ys=>have j:=e2;unfold cY at e2;simp[e2]at h;subst h;simp[ih j]
structure AN(C:Ctx)(j:Nat)(cs js:List Nat)(pos:Pos)(l:Expr) where
 a1:Arg
 a2:Arg
 b:Expr
 sc:Scope
 xs:List Str
 e:l=.Lambda ⟨[],[a1,a2],Y,[],[],Y,[]⟩ b sc pos
 cap:cY cs C.N=Z xs
 S:fX xs a1.arg a2.arg sc
 cel:∀x∈xs,C.sc.names.lookup x=Z .cell
 fre:∀y∈sc.names,y.2=.free->y.1∈xs
 bd:sM C j js (xs++[a1.arg,a2.arg]) sc b=F2
theorem zS{ps:Qj}{a:Arg×Arg}(h:km ps=Z a):ps=⟨[],[a.1,a.2],Y,[],[],Y,[]⟩:=by
 unfold km at h
 split at h
 ·cases h;rfl
 ·cases h
theorem zT{j:Nat}{l:Expr}(h:AM C j cs js pos l=F2):Nonempty (AN C j cs js pos l):=by
 cases l with
 |Lambda ps b sc pos'=>
  obtain⟨h0,B⟩:=bN (show(decide (pos'=pos)&&os (km ps) λa=>os (cY cs C.N) (oM C j cs js sc b a.1.arg a.2.arg))=F2 from h);have h0:=of_decide_eq_true h0;subst h0
  cases e1:km ps with
  |none=>rw[e1]at B;cases B
  |some a=>
   rw[e1]at B
   cases e2:cY cs C.N with
   |none=>dsimp only[os]at B;rw[e2]at B;cases B
   |some xs=>
    dsimp only[os]at B;rw[e2]at B;have h:oM C j cs js sc b a.1.arg a.2.arg xs=F2:=B;unfold oM at h;simp only[r0,decide_eq_true_eq,N8,beq_iff_eq,PN]at h;obtain⟨⟨⟨⟨⟨⟨⟨⟨h1,h2⟩,J⟩,L⟩,O⟩,U⟩,G⟩,F⟩,Fn⟩:=h;refine⟨⟨a.1,a.2,b,sc,xs,by rw[zS e1],e2,⟨h1,h2,J,by simpa using L,O,U,λx hx=>(G x hx).1,λx hx z=>?_,λx hx=>?_⟩,λx hx=>(G x hx).2,λy fv z=>?_,Fn⟩⟩
    ·have:=(F x hx).1;rw[z]at this;simp at this
    ·have:=(F _ (N5 hx)).2;simpa using this
    ·have:=(F y fv).2;rw[z]at this;simpa using this
 |_=>cases h
theorem qC{K:Frag}{H:Hp}{ds:List D}{vs:List V}(r:RDs K H ds vs):∀{js:List Nat},(∀j∈js,j<vs.length)->RDs K H (js.map λi=>ds.getD i .non) (js.map λi=>vs.getD i .non)
 |[],_=>RDs.nil
 |j::js,h=>by
  have z:j<ds.length:=by rw[<-r.length];exact h j Mr
  obtain⟨v,e,rd⟩:=r.get (z0 z);refine RDs.cons ?_ (qC r λi hi=>h i (Mg _ hi));show RD K H (ds.getD j .non) (vs.getD j .non);rw[LL,LL,z0 z,e];exact rd
theorem zU(G:Good C Φ k X){l:Expr}{t:TAd}{p lpos:Pos}{j:Nat}(mt:aR t)(Ju:C.lm=P+2)(hf:C.Γ[f]?=Z x)(hg:Gl X x)(Jv:(x==("__debug__":Str))=N2)(O:AN C j cs js lpos l)(ha:∀tl,PE X l tl->PA X (e::es++[l]) (iK (lA X.K t) tl))(he:Mk (e::(es++[l])) X.env=(N2,eval e X.env)::Mk (es++[l]) X.env)(Jw:(PV pos (Mk (es++[l]) X.env)).any (·.1)=N2):
 PE X (.Call (.Name x p) (e::es++[l]) [] pos) (lE X.K (kg Φ f t j cs js P lpos (C.nm++(".<locals>.":Str)++("<lambda>":Str)))):=by
 intro pins s σ H Q I h;obtain⟨a1,a2,b,sc,xs,rfl,B,S,fv,Jp,Jq⟩:=O;obtain⟨ρ,M,rs,rm,gs,Jx,ht⟩:=h;obtain⟨gv,rg,gl,gg⟩:=xt rs Jx;have L:=G.lam P Ju;obtain⟨fa,fd,ps,hm,hk,hb,F⟩:=L.spc f x hf;have kind:∀y:Str,X.env.kindOf y=C.sc.names.lookup y:=λy=>by show X.env.scope.names.lookup y=_;rw[G.sc]
 have hl:=EA (pos:=lpos) (params:=⟨[],[a1,a2],Y,[],[],Y,[]⟩) (body:=b) (sc:=sc) L (λy J z=>by rw[kind];exact fv _ (Jp y J z)) (λenv=>rfl)
 let q0:Str:=C.nm++(".<locals>.":Str)++("<lambda>":Str)
 let cl:=aA X.env.cells sc.names []
 let Qa:List V->Hp->Prop:=λws H2=>∃(vs:List V) (ds:List D) (U:Mem) (a:Xc),ws=vs++[.ref a]/\RM X.K U H2/\RDs X.K H2 ds vs/\RDs X.K H2 gs gv/\FnAt H2 a q0 ⟨[],[a1,a2],Y,[],[],Y,[]⟩ b sc cl /\
  Φ (1000+f) (ds++[.ref a,.int j,.tup gs,.tup (js.map λi:Nat=>.int i)]) U (KE' X.K U H2 Q)
 have hq:iK (lA X.K t) (Ez X P lpos q0 ⟨[],[a1,a2],Y,[],[],Y,[]⟩ b sc) σ H Qa:=by
  refine⟨ρ,M,rs,rm,mt _ _ _ _ (λds U y vs H1 x1 Fn Jy=>?_) ht⟩;refine⟨Fn P _ y.1,λa H' na kp tg fa=>?_⟩;have hP:∃ps,H1 P=Z (.tbl ps):=let⟨ps,e,_⟩:=Fn P _ y.1; ⟨ps,e⟩;obtain⟨pt,hP⟩:=hP;have st:Stab H1 H':=⟨λc ys e=>kp c _ (λz=>by rw[z,hP]at e;cases e) e,λc o u e=>kp c _ (λz=>by rw[z,hP]at e;cases e) e⟩
  have x2:Ext U H1 U H':=⟨λc o z e=>kp c o (λz2=>by rw[z2,y.1]at z;cases z) e,λ_ _ _ _=>rfl⟩
  have Jm:RM X.K U H':=λc o e=>by
   by_cases z:c=P
   ·subst z;rw[y.1]at e;cases e;exact tg
   ·exact(Fn c o e).mono st λho e2=>kp c ho z e2
  exact⟨vs,ds,U,a,rfl,Jm,Jy.mono st,(rg.mono (x1.stab rm)).mono st,fa,(G.mono _) _ _ _ _ (λd M' kk=>kk.ext (x1.trans x2)) (y.2 a (Fn.out na))⟩
 refine NI (kL I hg hm ?_ Jv);refine UW (h₀:=X.base) I.ok.mod.kin hk (thn (ha _ hl pos pins s σ H Qa I hq) λus s2 g9=>?_) he Jw;obtain⟨ws,H2,I2,r,vs,ds,U,a,rfl,Jm,rd,Jz,Jn,q2⟩:=g9;refine⟨I2.kIn,?_⟩;have C1:ik X.prog X.w X.K X.mg X.base (k-1) (frs X.stack) a (lSp X.K (uQ Φ j gs js)) H2 s2.heap:=by
  by_cases hk2:∃k0,k=k0+2
  case neg=>
   refine bD (P:=λ_=>ik X.prog X.w X.K X.mg X.base (k-1) (frs X.stack) a (lSp X.K (uQ Φ j gs js)) H2 s2.heap) b Jq λg es p pos h=>?_;simp only[r0,decide_eq_true_eq,N8]at h;refine⟨(by obtain⟨pm,c',ctv,oc,vs,t,e1,_⟩:=Jn;exact⟨_,_,e1,rfl⟩),?_⟩
   intro A outer s1 H1 u1 u2 v1 v2 Q1 un hr e0 r1 r2 Jo;obtain⟨JA,M2,Jr,Js,_,q3⟩:=Jo;exact absurd q3 ((L.big.resolve_left hk2) j g h.1.1.1.1 _ _ _)
  obtain⟨k0,rfl⟩:=hk2;refine yz (k:=k0) (gs:=gv) I2 Jn S (λy J=>by rw[G.sc];exact fv y J) (λi y e=>?_) (by rw[gl,sP B]) (λfd u1 u2 z z2 z3=>?_) λA outer s1 H1 v1 v2 Q1 cd un Jo JB=>?_
  ·obtain⟨c,e1,e2⟩:=xu B i y e;obtain⟨v,e3,e4⟩:=gg i c e1;exact⟨c,by rw[G.N];exact e2,λv' e5=>by rw[e3]at e5;cases e5;exact e4⟩
  ·exact Fy S.ne z z2 z3
  obtain⟨JA,M2,Jr,Js,_,q3⟩:=Jo;clear hl hq Qa Jn;refine bD (P:=λb=>∃t,PE (cxL CX0 X.prog X.w X.K X.mg X.base (xs++[a1.arg,a2.arg]) q0 sc a cd cl A outer s1 H1 E0) b t/\t ((gv++[v1,v2]).map Z) H1 Q1) b Jq λg es p pos h=>?_;simp only[r0,decide_eq_true_eq,N8]at h;obtain⟨⟨⟨⟨h1,h2⟩,h3⟩,h4⟩,h5⟩:=h;obtain⟨fg,fdg,psg,JC,JD,JE,Fg⟩:=L.low j g h1
  cases es with
  |nil=>cases h4
  |cons e0 JG=>
   obtain⟨p1,p2,p3⟩:=nE (X:=cxL CX0 X.prog X.w X.K X.mg X.base (xs++[a1.arg,a2.arg]) q0 sc a cd cl A outer s1 H1 E0) (ns:=xs++[a1.arg,a2.arg]) rfl (λy J=>by
    rcases LV.mp J with J|J
    ·exact .inr (.inr (S.fr y J))
    ·simp only[LI,MM,or_false]at J
     rcases J with rfl|rfl
     ·exact .inl S.l1
     ·exact .inl S.l2) h5
   simp only[OG,r0]at p2;refine⟨_,rN (X:=cxL CX0 X.prog X.w X.K X.mg X.base (xs++[a1.arg,a2.arg]) q0 sc a cd cl A outer s1 H1 E0) Fg JB (by show sc.names.lookup g=_;simpa[glB]using h2) JC JD JE .nil tR p1 h3 (af p2.1) (de p2.2),?_⟩
   have hlen:(gv++[v1,v2]).length=(xs++[a1.arg,a2.arg]).length:=by simp[gl,sP B]
   refine qB (λi hi=>by rw[hlen];exact p3 i hi) ⟨_,M2,Jr,?_,q3⟩
   rw[Np];exact qC ((Jz.mono ⟨un.tups,un.frzs⟩).append Js) λi hi=>by rw[hlen];exact p3 i hi
 have r2:Vals (vs++[.ref a]) (us++[]):=by rw[Np];exact r
 have Jt:spC X.prog X.w X.K X.mg X.base k Φ f X.stack s2 (vs++[.ref a]) H2 Q E0:=⟨ds,a,j,gs,js,U,Jm,rd.append (RDs.cons (WR.mpr rfl) RDs.nil),C1,q2⟩;have JF:(us++[]).length=ps.length:=by rw[<-r2.length];exact F.len _ _ _ _ _ _ Jt
 refine Ts (OE (F.run X.A X.stack s2 H2 ⟨us,[]⟩ (us++[]) (vs++[.ref a]) Q E0 G.room I2.env0 (hb s2 us I2.kIn JF) r2 Jt) λr s' hq=>?_)
 cases r with
 |error e=>exact hq.elim
 |ok fl=>
  cases fl with
  |ret u=>exact I2.after hq
  |next=>exact False.elim hq
  |brk=>exact False.elim hq
  |cont=>exact False.elim hq
end
end
variable{p:Xc}{tb:TCd}
section
section
variable{Φ:Phi}{k:Nat}
theorem dX{X:Cx}(G:Good C Φ k X){F:Sem Fin->Sem Fin}{ifs:List Expr}{ts:List TTd}(mb:cq tb)(mt:∀t∈ts,aO t)(j:PB X F (lC X.K p tb))(z:NA (λc t=>PT X c t) ifs (ts.map (lT X.K))):
 PB X (λk=>bw ifs X.env>>=λok=>if ok=F2 then F k else k) (lC X.K p (br ts tb)):=
 PB.imp (yw G.hx j z) (jN mb mt)
theorem i5{m:MC}{Cs:Ctx}{g2:Nl}{gs:List Nl}{elt:Expr}(h:okC m Cs C (g2::gs) elt=F2):g2.is_async=0:=by
 obtain⟨t,i,f,a⟩:=g2
 cases m with
 |last src g ifs m=>
  cases gs with
  |nil=>simp only[okC,r0,decide_eq_true_eq]at h;exact h.1.1.1.1
  |cons _ _=>simp[okC]at h
 |more src g ifs rest=>
  cases gs with
  |nil=>simp[okC]at h
  |cons _ _=>simp only[okC,r0,decide_eq_true_eq]at h;exact h.1.1.1.1
theorem zV{X:Cx}(G:Good C Φ k X):∀T∈["bool","int","str","tuple","list","dict"],X.mg (Mu T)=Y/\PR (Mu T)=Z (.type T)/\Mu T≠"__name__"/\(Mu T==("__debug__":Str))=N2:=by
 intro T j;simp only[LI,MM,or_false]at j
 rcases j with rfl|rfl|rfl|rfl|rfl|rfl
 all_goals exact⟨G.mgB _ (by decide),by decide +kernel,by decide,by decide⟩
mutual
theorem sE:∀(m:ME) {C:Ctx} {X:Cx} (G:Good C Φ k X) (e:Expr),okE m C e=F2->PE X e (lE X.K (wE Φ m))
 |.var i,C,X,G,e,h=>by refine eV e h λx _ h=>?_;simp only[r0,N8,decide_eq_true_eq]at h;exact DN (by rw[G.N];exact h.1.1.1) (G.vis h.1.1.2) h.1.2 h.2
 |.int i,C,X,G,e,h=>by refine hZ e h λc _ _ h=>?_;rw[of_decide_eq_true h];exact DO
 |.bl i,C,X,G,e,h=>by refine hZ e h λc _ _ h=>?_;rw[of_decide_eq_true h];exact FG
 |.non,C,X,G,e,h=>by refine hZ e h λc _ _ h=>?_;rw[of_decide_eq_true h];exact DP
 |.bin op a b,C,X,G,e,h=>by refine Em e h λl o r _ h=>?_;simp only[r0,decide_eq_true_eq]at h;rw[h.1.1];exact FH (Ex G op) (qt op) (mE G.mono a) (mE G.mono b) (sE a G _ h.1.2) (sE b G _ h.2)
 |.neg a,C,X,G,e,h=>by
  refine jf e h λo x _ h=>?_;replace h:=bN h;obtain⟨ho,h⟩:=h
  cases of_decide_eq_true ho
  exact FI yS pN (mE G.mono a) (sE a G _ h)
 |.cmp op a b,C,X,G,e,h=>by refine qz e h λl os rs pos h=>?_;refine cJ os h λo h=>?_;refine cJ rs h λr h=>?_;simp only[r0,decide_eq_true_eq]at h;obtain⟨⟨⟨ho,fv⟩,hb⟩,hm⟩:=h;rw[N8]at hm;subst ho;exact DQ (sN G op) (gj op) (mE G.mono a) (mE G.mono b) (sE a G _ fv) (sE b G _ hb) hm
 |.and es,C,X,G,e,h=>by
  refine iJ e h λo xs _ h=>?_;replace h:=bN h;obtain⟨ho,h⟩:=h;obtain⟨ho,L⟩:=bN ho
  cases of_decide_eq_true ho
  exact sAnds es G _ _ h (by intro z;rw[z]at L;cases L)
 |.or es,C,X,G,e,h=>by
  refine iJ e h λo xs _ h=>?_;replace h:=bN h;obtain⟨ho,h⟩:=h;obtain⟨ho,L⟩:=bN ho
  cases of_decide_eq_true ho
  exact sOrs es G _ _ h (by intro z;rw[z]at L;cases L)
 |.not a,C,X,G,e,h=>by
  refine jf e h λo x _ h=>?_;replace h:=bN h;obtain⟨ho,h⟩:=h
  cases of_decide_eq_true ho
  exact E1 (mE G.mono a) (sE a G _ h)
 |.ite c a b,C,X,G,e,h=>by refine Eo e h λt x y _ h=>?_;simp only[r0]at h;exact FO (mT G.mono c) (mE G.mono a) (mE G.mono b) (sT c G _ h.1.1) (sE a G _ h.1.2) (sE b G _ h.2)
 |.tup es,C,X,G,e,h=>by refine eE e h λxs _ _ h=>?_;exact DS (mA G.mono es) (sA es G _ h)
 |.lst es,C,X,G,e,h=>by refine FZ e h λxs _ h=>?_;exact DT (mA G.mono es) (sA es G _ h)
 |.ix a b,C,X,G,e,h=>by refine dO e h λx y _ h=>?_;simp only[r0]at h;exact FJ (GX (by have:=G.units;lia)) sd (mE G.mono a) (mE G.mono b) (sE a G _ h.1.2) (sE b G _ h.2) (zO h.1.1)
 |.sl a lo hi,C,X,G,e,h=>by refine jSl e h λx l u s p pos h=>?_;refine jon s h fun  h=>?_;simp only[r0]at h;exact FQ (mE G.mono a) (mO G.mono lo) (mO G.mono hi) (sE a G _ h.1.1) (sO lo G _ h.1.2) (sO hi G _ h.2)
 |.call f es,C,X,G,e,h=>by
  refine bD e h λx xs p pos h=>?_;simp only[r0,decide_eq_true_eq,N8]at h;have hA:=sA es G _ h.2;have J:=dy h.2
  cases xs with
  |nil=>
   cases es with
   |nil=>exact zP G h.1.1.1 (G.gl h.1.1.2) h.1.2
   |cons _ _=>simp[okEs]at h
  |cons y ys=>simp only[OG,r0]at J;exact Cd G (mA G.mono es) h.1.1.1 (G.gl h.1.1.2) h.1.2 hA (af J.1) (de J.2)
 |.callC i es,C,X,G,e,h=>by
  refine bD e h λx xs p pos h=>?_;simp only[r0,decide_eq_true_eq,N8]at h;obtain⟨⟨⟨⟨⟨⟨h0,h1⟩,h2⟩,h3⟩,h4⟩,h6⟩,h7⟩:=h;have hA:=sA es G _ h7;have J:=dy h7
  cases xs with
  |nil=>cases h6
  |cons y ys=>simp only[OG,r0]at J;exact zQ G h0 (mA G.mono es) (by rw[G.N];exact h1) (G.vis h2) h3 h4 hA (af J.1) (de J.2)
 |.callL f es j cs js P lpos q,C,X,G,e,h=>by
  refine bD e h λx xs p pos h=>?_;simp only[r0,decide_eq_true_eq,N8]at h;obtain⟨⟨⟨⟨⟨⟨⟨h0,h1⟩,h2⟩,h3⟩,h4⟩,h5⟩,h6⟩,h7⟩:=h;subst h4
  cases e5:xs.getLast? with
  |none=>rw[e5]at h5;cases h5
  |some l=>
   rw[e5]at h5;obtain⟨O⟩:=zT (C:=C) h5;have J:=dy h7;have hA:=λtl hl=>sAL es G xs.dropLast h7 l tl hl (by rw[O.e];rfl)
   obtain⟨ys,rfl⟩:∃ys,xs=ys++[l]:=⟨xs.dropLast,(by
    have L:xs≠[]:=λz=>by rw[z]at e5;cases e5
    rw[List.getLast?_eq_getLast L]at e5;have:=Oa L;rw[NO.inj e5]at this;exact this.symm)⟩
   rw[List.dropLast_concat]at h6 h7 J hA
   cases ys with
   |nil=>cases h6
   |cons y ys=>simp only[OG,r0]at J;exact zU G (mA G.mono es) h0 h1 (G.gl h2) h3 O hA (af J.1) (de (by rw[List.all_append,J.2,O.e];rfl))
 |.blt f es,C,X,G,e,h=>by
  refine bD e h λx xs p pos h=>?_;simp only[r0,decide_eq_true_eq,N8]at h;have hA:=sA es G _ h.2;have J:=dy h.2;obtain⟨⟨⟨rfl,hg⟩,L⟩,_⟩:=h
  cases xs with
  |nil=>simp at L
  |cons y ys=>simp only[OG,r0]at J;exact Ey G (mA G.mono es) (G.gl hg) hA (af J.1) (de J.2)
 |.dnew t,C,X,G,e,h=>by refine G0 e h λks vs _ h=>?_;refine i3 ks h fun  h=>?_;refine i3 vs h fun  h=>?_;exact BU
 |.sortI a,C,X,G,e,h=>by refine bD e h λx xs p pos h=>?_;refine cJ xs h λw h=>?_;refine oJ w h λy n ys ap cp h=>?_;refine i3 ys h fun  h=>?_;simp only[r0,decide_eq_true_eq]at h;obtain⟨⟨⟨⟨⟨rfl,hg⟩,rfl⟩,Fn⟩,hl⟩,fv⟩:=h;exact zC (by have:=G.units;lia) (mE G.mono a) G.calm (sE a G _ fv) (G.gl hg) (G.mgB _ (by decide)) (gp Fn) hl
 |.dget o k' x,C,X,G,e,h=>by
  refine oJ e h λy n xs ap cp h=>?_;refine i4 xs h λe1 e2 h=>?_;simp only[r0,decide_eq_true_eq]at h;obtain⟨⟨⟨⟨⟨⟨⟨rfl,Fn⟩,hl⟩,Jn⟩,U⟩,ho⟩,hk⟩,hx⟩:=h;have st:Mk [e1,e2] X.env=[(N2,eval e1 X.env),(N2,eval e2 X.env)]:=by rw[af Jn,af U];rfl
  refine C6 (by have:=G.units;lia) (mE G.mono o) (mE G.mono k') (mE G.mono x) (sE o G _ ho) (sE k' G _ hk) (sE x G _ hx) ⟨gp Fn,?_,hl,?_⟩
  ·rw[st];rfl
  ·rw[st];rfl
 |.lrng2 a b,C,X,G,e,h=>by refine bD e h λx xs p pos h=>?_;refine cJ xs h λw h=>?_;refine bD w h λz ys p2 Jp h=>?_;refine i4 ys h λy u h=>?_;simp only[r0,decide_eq_true_eq]at h;obtain⟨⟨⟨⟨⟨⟨⟨rfl,hg⟩,rfl⟩,Jm⟩,hs⟩,U⟩,fv⟩,hb⟩:=h;exact ze (am (mE G.mono a) (am (mE G.mono b) ar)) G.calm (bf (mE G.mono a) (am (mE G.mono b) ar) (sE a G _ fv) (bf (mE G.mono b) ar (sE b G _ hb) cT (af U)) (af hs)) (G.gl hg) (G.mgB _ (by decide)) (G.gl Jm) (G.mgB _ (by decide)) (by rw[af hs,af U];rfl) (af U)
 |.isin a T,C,X,G,e,h=>by refine bD e h λx xs p pos h=>?_;refine i4 xs h λy w h=>?_;refine eV w h λz p2 h=>?_;simp only[r0,decide_eq_true_eq]at h;obtain⟨⟨⟨⟨⟨⟨rfl,hg⟩,Jm⟩,hz⟩,hT⟩,hs⟩,fv⟩:=h;obtain⟨n1,n2,n3,n4⟩:=zV G T hT;subst hz;exact BJ hT (mE G.mono a) (sE a G _ fv) (G.gl hg) (G.mgB _ (by decide)) (G.gl Jm) n1 n2 n3 n4 (af hs) rfl
 |.meth m o a,C,X,G,e,h=>by
  refine oJ e h λx n xs ap cp h=>?_;refine cJ xs h λy h=>?_;simp only[r0,decide_eq_true_eq]at h;obtain⟨⟨⟨⟨⟨hn,Fn⟩,hl⟩,hs⟩,ho⟩,fv⟩:=h;subst hn;have pa:PA X [y] (lA X.K (av (wE Φ a) aX)):=bf (mE G.mono a) ar (sE a G _ fv) cT (af hs);have few:((PV cp (Mk [y] X.env)).all (λx=>!x.1)&&(Wu cp (Ue [] X.env)).all (λx=>x.1.isSome)&&decide (([y]:List Expr).length+([]:List S0).length+(if([]:List S0).isEmpty then 0 else 1)<30))=F2:=by rw[af hs];rfl
  cases m with
  |append=>exact PE.imp (Aw Tf PySem.F.slot_list_append PySem.F.type_list_append mm (sE o G _ ho) pa (gp Fn) few hl (af hs) rfl) (si iV (mE G.mono o) (am (mE G.mono a) ar) yY)
 |.ins o i a,C,X,G,e,h=>by
  refine oJ e h λx n xs ap cp h=>?_;refine i4 xs h λy z h=>?_;simp only[r0,decide_eq_true_eq]at h;obtain⟨⟨⟨⟨⟨⟨⟨hn,Fn⟩,hl⟩,hs⟩,U⟩,ho⟩,hi⟩,fv⟩:=h;subst hn;have pa:PA X [y,z] (lA X.K (av (wE Φ i) (av (wE Φ a) aX))):=bf (mE G.mono i) (am (mE G.mono a) ar) (sE i G _ hi) (bf (mE G.mono a) ar (sE a G _ fv) cT (af U)) (af hs);have few:((PV cp (Mk [y,z] X.env)).all (λx=>!x.1)&&(Wu cp (Ue [] X.env)).all (λx=>x.1.isSome)&&decide (([y,z]:List Expr).length+([]:List S0).length+(if([]:List S0).isEmpty then 0 else 1)<30))=F2:=by rw[af hs,af U];rfl
  exact PE.imp (Aw Tf SX PySem.F.type_list_insert wW (sE o G _ ho) pa (gp Fn) few hl (af hs) (by rw[af U];rfl)) (si iZ (mE G.mono o) (am (mE G.mono i) (am (mE G.mono a) ar)) zF)
 |.revS a st,C,X,G,e,h=>by refine jSl e h λx l u s p pos h=>?_;refine jon l h fun  h=>?_;refine jon u h fun  h=>?_;refine jos s h λs h=>?_;simp only[r0]at h;exact Ca (mE G.mono a) (gO (mE G.mono st)) (sE a G _ h.1) (se (mE G.mono st) (sE st G _ h.2))
 |.comp fr N' c,C,X,G,e,h=>by
  refine xj e h λelt gens sc pos h=>?_;simp only[r0]at h;have B:bn sc X.env.scope X.N N' fr:=by rw[G.sc,G.N];exact ko h.1
  have B':bn sc C.sc C.N N' fr:=ko h.1
  cases c with
  |last src g ifs m=>
   have h2:=h.2;simp only[okC]at h2
   split at h2
   ·rename_i t it fs a;simp only[r0,decide_eq_true_eq]at h2;obtain⟨⟨⟨⟨rfl,hi⟩,hg⟩,ht⟩,he⟩:=h2;refine PE.imp (iU G.calm G.hx B (λg' z=>by simp at z) (sI src G _ t hi).1 (λs H fp=>sG (G.blk B' s H fp) g t hg) (tb:=λp=>lC X.K p (br (wTl Φ ifs) (eO (wE Φ m)))) (λs H fp p=>?_) (sI src G _ t hi).2) (eQ (mI G.mono src) (aV (bQ (mE G.mono m)) (mTl G.mono ifs)))
    have G':=G.blk B' s H fp;exact dX (p:=p) G' (bQ (mE G.mono m)) (mTl G.mono ifs) (PB.imp (kR G'.hx (sE m G' elt he) rfl) (gT (mE G.mono m))) (sTl ifs G' fs ht)
   ·cases h2
  |more src g ifs rest=>
   have h2:=h.2;simp only[okC]at h2
   split at h2
   ·rename_i t it fs a g2 gs;simp only[r0,decide_eq_true_eq]at h2;obtain⟨⟨⟨⟨rfl,hi⟩,hg⟩,ht⟩,he⟩:=h2;have Jo:∀g',(g2::gs)[0]?=Z g'->g'.is_async=0:=fun g' z=>by
     have z':g2=g':=by simpa using z
     subst z';exact i5 he
    refine PE.imp (iU G.calm G.hx B Jo (sI src G _ t hi).1 (λs H fp=>sG (G.blk B' s H fp) g t hg) (tb:=λp=>lC X.K p (br (wTl Φ ifs) (wCl Φ rest))) (λs H fp p=>?_) (sI src G _ t hi).2) (eQ (mI G.mono src) (aV (mCl G.mono rest) (mTl G.mono ifs)));have G':=G.blk B' s H fp;exact dX (p:=p) G' (mCl G.mono rest) (mTl G.mono ifs) (sCl rest G' elt (⟨t,it,fs,0⟩::g2::gs) sc pos 0 (.inl rfl) p he) (sTl ifs G' fs ht)
   ·cases h2
theorem sA:∀(m:MEs) {C:Ctx} {X:Cx} (G:Good C Φ k X) (es:List Expr),okEs m C es=F2->PA X es (lA X.K (wA Φ m))
 |.nil,C,X,G,es,h=>by simp[okEs]at h;subst h;exact cT
 |.cons m r,C,X,G,[],h=>by simp[okEs]at h
 |.cons m r,C,X,G,e::es,h=>by simp only[okEs,r0]at h;exact bf (mE G.mono m) (mA G.mono r) (sE m G e h.1.2) (sA r G es h.2) (af h.1.1)
theorem sAL:∀(m:MEs) {C:Ctx} {X:Cx} (G:Good C Φ k X) (es:List Expr),okEs m C es=F2->∀(l:Expr) (tl:TE),PE X l tl->aH l=F2->PA X (es++[l]) (iK (lA X.K (wA Φ m)) tl)
 |.nil,C,X,G,es,h=>by simp[okEs]at h;subst h;exactλl tl j z=>zR j (af z)
 |.cons m r,C,X,G,[],h=>by simp[okEs]at h
 |.cons m r,C,X,G,e::es,h=>by simp only[okEs,r0]at h;exactλl tl j z=>xr (mE G.mono m) (mA G.mono r) (sE m G e h.1.2) (sAL r G es h.2 l tl j z) (af h.1.1)
theorem sAnds:∀(m:MEs) {C:Ctx} {X:Cx} (G:Good C Φ k X) (es:List Expr) (pos:Pos),okEs m C es=F2->es≠[]->PE X (.BoolOp .And es pos) (lE X.K (wAnds Φ m))
 |.nil,C,X,G,es,pos,h,j=>by simp[okEs]at h;exact absurd h j
 |.cons m r,C,X,G,[],pos,h,j=>absurd rfl j
 |.cons m .nil,C,X,G,e::es,pos,h,_=>by simp only[okEs,r0]at h;obtain⟨h1,h2⟩:=h;simp at h2;subst h2;exact w8 (sE m G e h1.2)
 |.cons m (.cons m2 r),C,X,G,e::es,pos,h,_=>by
  simp only[okEs,r0]at h;obtain⟨h1,h2⟩:=h
  cases es with
  |nil=>simp at h2
  |cons f fs=>exact DZ (mE G.mono m) (mAnds G.mono _) (sE m G e h1.2) (sAnds (.cons m2 r) G (f::fs) pos (by simpa only[okEs,r0]using h2) (by simp))
theorem sOrs:∀(m:MEs) {C:Ctx} {X:Cx} (G:Good C Φ k X) (es:List Expr) (pos:Pos),okEs m C es=F2->es≠[]->PE X (.BoolOp .Or es pos) (lE X.K (wOrs Φ m))
 |.nil,C,X,G,es,pos,h,j=>by simp[okEs]at h;exact absurd h j
 |.cons m r,C,X,G,[],pos,h,j=>absurd rfl j
 |.cons m .nil,C,X,G,e::es,pos,h,_=>by simp only[okEs,r0]at h;obtain⟨h1,h2⟩:=h;simp at h2;subst h2;exact w8 (sE m G e h1.2)
 |.cons m (.cons m2 r),C,X,G,e::es,pos,h,_=>by
  simp only[okEs,r0]at h;obtain⟨h1,h2⟩:=h
  cases es with
  |nil=>simp at h2
  |cons f fs=>exact FN (mE G.mono m) (mOrs G.mono _) (sE m G e h1.2) (sOrs (.cons m2 r) G (f::fs) pos (by simpa only[okEs,r0]using h2) (by simp))
theorem sO:∀(m:MO) {C:Ctx} {X:Cx} (G:Good C Φ k X) (e:Option Expr),okO m C e=F2->PO X e (lO X.K (wO Φ m))
 |.none,C,X,G,e,h=>by simp[okO]at h;subst h;exact BE
 |.some m,C,X,G,Y,h=>by simp[okO]at h
 |.some m,C,X,G,Z e,h=>by simp only[okO]at h;exact se (mE G.mono m) (sE m G e h)
theorem sT:∀(m:MT) {C:Ctx} {X:Cx} (G:Good C Φ k X) (e:Expr),okT m C e=F2->PT X e (lT X.K (wT Φ m))
 |.tru m,C,X,G,e,h=>by simp only[okT,r0]at h;exact DV (mE G.mono m) (sE m G e h.2) (uP h.1)
 |.cmp op a b,C,X,G,e,h=>by refine qz e h λl os rs pos h=>?_;refine cJ os h λo h=>?_;refine cJ rs h λr h=>?_;simp only[r0,decide_eq_true_eq]at h;obtain⟨⟨⟨ho,B⟩,F⟩,hm⟩:=h;rw[N8]at hm;subst ho;exact DR (sN G op) (gj op) (mE G.mono a) (mE G.mono b) (sE a G _ B) (sE b G _ F) hm
 |.and ts,C,X,G,e,h=>by
  refine iJ e h λo xs _ h=>?_;replace h:=bN h;obtain⟨ho,h⟩:=h;obtain⟨ho,j⟩:=bN ho
  cases of_decide_eq_true ho
  exact(sAndTs ts G _ _ h (by intro z;rw[z]at j;cases j)).pt
 |.or ts,C,X,G,e,h=>by
  refine iJ e h λo xs _ h=>?_;replace h:=bN h;obtain⟨ho,h⟩:=h;obtain⟨ho,j⟩:=bN ho
  cases of_decide_eq_true ho
  exact(sOrTs ts G _ _ h (by intro z;rw[z]at j;cases j)).pt
 |.not t,C,X,G,e,h=>by
  refine jf e h λo x _ h=>?_;replace h:=bN h;obtain⟨ho,h⟩:=h
  cases of_decide_eq_true ho
  exact DW (mT G.mono t) (sT t G _ h)
theorem sAndTs:∀(m:MTs) {C:Ctx} {X:Cx} (G:Good C Φ k X) (es:List Expr) (pos:Pos),okTs m C es=F2->es≠[]->PW X (.BoolOp .And es pos) (lT X.K (wAndTs Φ m))
 |.nil,C,X,G,es,pos,h,j=>by simp[okTs]at h;exact absurd h j
 |.cons m r,C,X,G,[],pos,h,j=>absurd rfl j
 |.cons m .nil,C,X,G,e::es,pos,h,_=>by simp only[okTs,r0]at h;obtain⟨h1,h2⟩:=h;simp at h2;subst h2;exact BC (sT m G e h1)
 |.cons m (.cons m2 r),C,X,G,e::es,pos,h,_=>by
  simp only[okTs,r0]at h;obtain⟨h1,h2⟩:=h
  cases es with
  |nil=>simp at h2
  |cons f fs=>exact DY (mT G.mono m) (mAndTs G.mono _) (sT m G e h1) (sAndTs (.cons m2 r) G (f::fs) pos (by simpa only[okTs,r0]using h2) (by simp))
theorem sOrTs:∀(m:MTs) {C:Ctx} {X:Cx} (G:Good C Φ k X) (es:List Expr) (pos:Pos),okTs m C es=F2->es≠[]->PW X (.BoolOp .Or es pos) (lT X.K (wOrTs Φ m))
 |.nil,C,X,G,es,pos,h,j=>by simp[okTs]at h;exact absurd h j
 |.cons m r,C,X,G,[],pos,h,j=>absurd rfl j
 |.cons m .nil,C,X,G,e::es,pos,h,_=>by simp only[okTs,r0]at h;obtain⟨h1,h2⟩:=h;simp at h2;subst h2;exact DX (sT m G e h1)
 |.cons m (.cons m2 r),C,X,G,e::es,pos,h,_=>by
  simp only[okTs,r0]at h;obtain⟨h1,h2⟩:=h
  cases es with
  |nil=>simp at h2
  |cons f fs=>exact FM (mT G.mono m) (mOrTs G.mono _) (sT m G e h1) (sOrTs (.cons m2 r) G (f::fs) pos (by simpa only[okTs,r0]using h2) (by simp))
theorem sTl:∀(m:MTs) {C:Ctx} {X:Cx} (G:Good C Φ k X) (es:List Expr),okTs m C es=F2->NA (λc t=>PT X c t) es ((wTl Φ m).map (lT X.K))
 |.nil,C,X,G,es,h=>by simp[okTs]at h;subst h;exact .nil
 |.cons m r,C,X,G,[],h=>by simp[okTs]at h
 |.cons m r,C,X,G,e::es,h=>by simp only[okTs,r0]at h;exact .cons (sT m G e h.1) (sTl r G es h.2)
theorem sI:∀(m:MI) {C:Ctx} {X:Cx} (G:Good C Φ k X) (e tg:Expr),okI m C tg e=F2->PI X tg e (lI X.K (wI Φ m))/\∀x,ON e X.env x=pure x
 |.seq m,C,X,G,e,tg,h=>by simp only[okI,r0]at h;exact⟨E5 (mE G.mono m) (sE m G e h.2),xo h.1⟩
 |.rng1 a,C,X,G,e,tg,h=>by refine bD e h λx xs p pos h=>?_;refine cJ xs h λy h=>?_;simp only[r0,decide_eq_true_eq]at h;obtain⟨⟨⟨rfl,B⟩,hs⟩,F⟩:=h;exact⟨BN (am (mE G.mono a) ar) (G.gl B) (G.mgB _ (by decide)) (bf (mE G.mono a) ar (sE a G _ F) cT (af hs)) (af hs),λx=>rfl⟩
 |.rng2 a b,C,X,G,e,tg,h=>by refine bD e h λx xs p pos h=>?_;refine i4 xs h λy z h=>?_;simp only[r0,decide_eq_true_eq]at h;obtain⟨⟨⟨⟨⟨rfl,B⟩,hs⟩,j⟩,F⟩,J⟩:=h;exact⟨BO (am (mE G.mono a) (am (mE G.mono b) ar)) (G.gl B) (G.mgB _ (by decide)) (bf (mE G.mono a) (am (mE G.mono b) ar) (sE a G _ F) (bf (mE G.mono b) ar (sE b G _ J) cT (af j)) (af hs)) (by rw[af hs,af j];rfl) (af j),λx=>rfl⟩
 |.enum a,C,X,G,e,tg,h=>by refine bD e h λx xs p pos h=>?_;refine cJ xs h λy h=>?_;refine eE tg h λts kt pt h=>?_;simp only[r0,decide_eq_true_eq]at h;obtain⟨⟨⟨rfl,B⟩,hs⟩,F⟩:=h;exact⟨BP (mE G.mono a) (G.gl B) (G.mgB _ (by decide)) (bf (mE G.mono a) ar (sE a G _ F) cT (af hs)) (af hs),λx=>rfl⟩
 |.rev a,C,X,G,e,tg,h=>by refine bD e h λx xs p pos h=>?_;refine cJ xs h λy h=>?_;simp only[r0,decide_eq_true_eq]at h;obtain⟨⟨⟨rfl,B⟩,hs⟩,F⟩:=h;exact⟨Eh (mE G.mono a) (sE a G _ F) (G.gl B) (G.mgB _ (by decide)) (af hs),λx=>rfl⟩
 |.zip a b,C,X,G,e,tg,h=>by refine bD e h λx xs p pos h=>?_;refine i4 xs h λy z h=>?_;refine eE tg h λts kt pt h=>?_;simp only[r0,decide_eq_true_eq]at h;obtain⟨⟨⟨⟨⟨rfl,B⟩,hs⟩,j⟩,F⟩,J⟩:=h;exact⟨E7 (mE G.mono a) (mE G.mono b) (G.gl B) (G.mgB _ (by decide)) (bf (mE G.mono a) (am (mE G.mono b) ar) (sE a G _ F) (bf (mE G.mono b) ar (sE b G _ J) cT (af j)) (af hs)) (by rw[af hs,af j];rfl) (af j),λx=>rfl⟩
theorem sCl:∀(m:MC) {C:Ctx} {X:Cx} (G:Good C Φ k X) (elt:Expr) (gens:List Nl) (sc:Scope) (pos:Pos) (d:Nat) (_:d=0∨d=d) (p:Xc),okC m C C (gens.drop (d+1)) elt=F2->
 PB X (bj elt gens sc pos d (.ref p) X.env) (lC X.K p (wCl Φ m))
 |.last src g ifs m,C,X,G,elt,gens,sc,pos,d,_,p,h=>by
  simp only[okC]at h
  split at h
  ·rename_i t it fs a hd;simp only[r0,decide_eq_true_eq]at h;obtain⟨⟨⟨⟨rfl,hi⟩,j⟩,B⟩,he⟩:=h;have e1:gens[d+1]?=Z ⟨t,it,fs,0⟩:=by
    have z:(gens.drop (d+1))[0]?=Z ⟨t,it,fs,0⟩:=by rw[hd];rfl
    rw[Q5]at z;simpa using z
   have e2:gens[d+1+1]?=Y:=by
    have z:(gens.drop (d+1))[1]?=Y:=by rw[hd];rfl
    rw[Q5]at z;simpa using z
   refine PB.imp (mw G.hx G.calm e1 (λg' z=>by rw[e2]at z;cases z) (sI src G _ t hi).1 (sG G g t j) (dX (p:=p) G (bQ (mE G.mono m)) (mTl G.mono ifs) (PB.imp (kR G.hx (sE m G elt he) e2) (gT (mE G.mono m))) (sTl ifs G fs B)) (sI src G _ t hi).2) (iX (mI G.mono src) (aV (bQ (mE G.mono m)) (mTl G.mono ifs)))
  ·cases h
 |.more src g ifs rest,C,X,G,elt,gens,sc,pos,d,_,p,h=>by
  simp only[okC]at h
  split at h
  ·rename_i t it fs a g2 gs hd;simp only[r0,decide_eq_true_eq]at h;obtain⟨⟨⟨⟨rfl,hi⟩,j⟩,B⟩,he⟩:=h;have e1:gens[d+1]?=Z ⟨t,it,fs,0⟩:=by
    have z:(gens.drop (d+1))[0]?=Z ⟨t,it,fs,0⟩:=by rw[hd];rfl
    rw[Q5]at z;simpa using z
   have e2:gens[d+1+1]?=Z g2:=by
    have z:(gens.drop (d+1))[1]?=Z g2:=by rw[hd];rfl
    rw[Q5]at z;simpa using z
   have J:gens.drop (d+1+1)=g2::gs:=by
    have z:(gens.drop (d+1)).drop 1=g2::gs:=by rw[hd];rfl
    rw[Ss]at z;simpa using z
   have F:∀g',gens[d+1+1]?=Z g'->g'.is_async=0:=λg' z=>by rw[e2]at z;cases z;exact i5 he
   refine PB.imp (mw G.hx G.calm e1 F (sI src G _ t hi).1 (sG G g t j) (dX (p:=p) G (mCl G.mono rest) (mTl G.mono ifs) (sCl rest G elt gens sc pos (d+1) (.inr rfl) p (by rw[J];exact he)) (sTl ifs G fs B)) (sI src G _ t hi).2) (iX (mI G.mono src) (aV (mCl G.mono rest) (mTl G.mono ifs)))
  ·cases h
end
end
end
section
section
variable{Φ:Phi}{k:Nat}{C:Ctx}{X:Cx}
theorem zW{ts vs:List Expr}{kk j:Nat}{pp p2:Pos}(hs:env.scope=sc)(z:sc.kind=.function)(h:uK sc ts vs=F2):Pu [.Tuple ts kk pp] (.Tuple vs j p2) env=pure Y:=by
 have B:env.blockKind=.function:=by unfold SY;rw[hs,z];rfl
 have h':uK sc ts vs=F2:=h;unfold Pu;dsimp only;rw[B]
 by_cases c1:(!(ts.length==2 || ts.length==3) || vs.length != ts.length)=F2
 ·simp only[c1,Bool.true_or,if_true]
 ·simp only[Rr]at c1;rw[c1];simp only[Rz,bne_self_eq_false,NS,if_false]
  split
  ·rfl
  ·
    generalize F:List.filterMap _ ts=L;obtain rfl:L=bg sc ts:=by
     rw[<-F];unfold bg;congr 1
     funext x
     cases x<;>first|rfl|(unfold V8;rw[hs])
    unfold uK at h';rw[c1]at h';simp only[Rz,RU]at h'
    by_cases c3:((bg sc ts).length != ts.length || (bg sc ts).eraseDups.length != (bg sc ts).length)=F2
    ·rw[if_pos c3]
    ·rw[if_neg c3];have G:vs.all (UP 8)=F2:=by
      rcases h' with h'|h'
      ·exact absurd (RU _ _ |>.mpr h') c3
      ·exact h'
     rw[if_pos G]
theorem Ce{ts vs:List Expr}{ns:List Str}{kk j:Nat}{pp p2:Pos}(hs:env.scope=sc)(B:sc.kind=.function)(h:uM sc ts vs ns=F2):Pu [.Tuple ts kk pp] (.Tuple vs j p2) env=pure (Z ns):=by
 have F:env.blockKind=.function:=by unfold SY;rw[hs,B];rfl
 simp only[uM,r0,N8,decide_eq_true_eq]at h;obtain⟨⟨⟨⟨⟨G,J⟩,O⟩,U⟩,Fn⟩,fv⟩:=h;unfold Pu;dsimp only;rw[F,G];simp only[Rz,bne_self_eq_false,NS,if_false]
 split
 ·next z=>exact absurd z (by rw[Rr];exact J)
 ·generalize hL:List.filterMap _ ts=L;obtain rfl:L=bg sc ts:=by
   rw[<-hL];unfold bg;congr 1
   funext x
   cases x<;>first|rfl|(unfold V8;rw[hs])
  rw[U,Fn,fv,O];rfl
theorem sQ{i:Nat}(h:uL C i x=F2):C.N[i]?=Z x/\C.sc.names.lookup x=Z .local:=by simpa[uL]using h
theorem df{tg:Expr}{l:Nat}{b:Bool}(h:Qy e (Z tg) l env=pure b):QH [tg] e l env=pure b:=by unfold QH;exact h
theorem sR{tg:Expr}(hs:env.scope=sc)(j:sc.kind=.function)(h:uN sc tg e=F2):Pu [tg] e env=pure Y:=by
 cases tg with
 |Tuple ts kk pp=>
  cases e with
  |Tuple vs z p2=>exact zW hs j h
  |_=>rfl
 |_=>first|rfl|(cases h;done)
theorem qD{elt:Expr}{gens:List Nl}{s:Scope}{px:Pos}{l:Nat}(hs:env.scope=sc)(j:sc.kind=.function):
 Qy (.ListComp elt gens s pos) (Z (.Name x px)) l env=pure (uO sc x px (.ListComp elt gens s pos)):=by
 have z:env.blockKind=.function:=by unfold SY;rw[hs,j];rfl
 unfold Qy;dsimp only;rw[z];unfold uO V8;rw[hs];rfl
theorem xv{ek ev:Expr}{gens:List Nl}{s:Scope}{px:Pos}{l:Nat}(hs:env.scope=sc)(j:sc.kind=.function):
 Qy (.DictComp ek ev gens s pos) (Z (.Name x px)) l env=pure (sc.names.lookup x==Z .local&&px.line==(Expr.DictComp ek ev gens s pos).pos.line && !(s.names.any λ(n,k)=>n==x&&(k==.local || k==.cell))):=by
 have z:env.blockKind=.function:=by unfold SY;rw[hs,j];rfl
 unfold Qy;dsimp only;rw[z];unfold V8;rw[hs];rfl
mutual
theorem sS:∀(m:MS) (G:Good C Φ k X) (F:C.sc.kind=.function) (s:Stmt),okS m C s=F2->PS X s (lS X.K (wS Φ m))
 |.asgL gs m,G,F,s,h=>by refine gn s h λts e pos h=>?_;refine cJ ts h λtg h=>?_;refine eE tg h λts k p h=>?_;simp only[r0]at h;obtain⟨⟨J,he⟩,L⟩:=h;obtain⟨a,b⟩:=jh (env:=X.env) J;exact PS.imp (oT (sE m G _ he) (Ej G.calm (lr J) (sGs G gs _ J) a b) (df Ew) (sR G.sc F L) rfl) (wU (mE G.mono m))
 |.asg g m,G,F,s,h=>by
  refine gn s h λts e pos h1=>?_;clear h;refine cJ ts h1 λtg h=>?_;clear h1;simp only[r0]at h;obtain⟨⟨⟨J,he⟩,L⟩,hc⟩:=h;have hw:=sR G.sc F L;have pg:=sG G g tg J;have plain:QH [tg] e pos.line X.env=pure N2->PS X (.Assign [tg] e pos) (lS X.K (lf (wE Φ m) (bG g))):=λhs=>PS.imp (oT (sE m G e he) pg hs hw (by cases tg<;>first|rfl|(cases L;done))) (zp (mE G.mono m))
  cases tg with
  |Tuple ts a b=>exact plain (df (lp hc))
  |Name x px=>
   cases e with
   |ListComp elt gens sc cpos=>
    by_cases sw:uO C.sc x px (.ListComp elt gens sc cpos)=F2
    ·cases g with
     |tup gs=>exact absurd J LJ
     |name i=>
      cases m with
      |comp fr N' c=>
       replace he:=bN he;have B:bn sc X.env.scope X.N N' fr:=by rw[G.sc,G.N];exact ko he.1
       have B':bn sc C.sc C.N N' fr:=ko he.1;have Jm:PG X (.Name x px) (jn i):=by have J:=bN J;have J:=Qk (bN J.1) J.2;exact rM G.nd (by rw[G.N];exact of_decide_eq_true J.1.1) (G.loc J.1.2) (G.own J.2)
       have Jn:∀l,Qy (.ListComp elt gens sc cpos) (Z (.Name x px)) l X.env=pure F2:=λl=>by rw[qD G.sc F,sw]
       have mc:=mCmp G.mono fr c
       cases c with
       |last src g ifs m=>
        have h2:=he.2;simp only[okC]at h2
        split at h2
        ·rename_i t it fs a;simp only[r0,decide_eq_true_eq]at h2;obtain⟨⟨⟨⟨rfl,hi⟩,U⟩,ht⟩,O⟩:=h2;refine PS.imp (jD (i:=i) (g:=lG X.K (bG g)) (wi:=lI X.K (wI Φ src)) G.calm G.hx B (λg' z=>by simp at z) (sI src G _ t hi).1 (λs H fp=>sG (G.blk B' s H fp) g t U) (tb:=λp=>lC X.K p (br (wTl Φ ifs) (eO (wE Φ m)))) (λs H fp p=>?_) (sI src G _ t hi).2 Jm (Jn _)) λD σ H h=>?_
         ·have G':=G.blk B' s H fp;exact dX (p:=p) G' (bQ (mE G.mono m)) (mTl G.mono ifs) (PB.imp (kR G'.hx (sE m G' elt O) rfl) (gT (mE G.mono m))) (sTl ifs G' fs ht)
         ·exact eQ (mI G.mono src) (aV (bQ (mE G.mono m)) (mTl G.mono ifs)) σ H _ (mQ mc D σ H h)
        ·cases h2
       |more src g ifs rest=>
        have h2:=he.2;simp only[okC]at h2
        split at h2
        ·rename_i t it fs a g2 gs;simp only[r0,decide_eq_true_eq]at h2;obtain⟨⟨⟨⟨rfl,hi⟩,U⟩,ht⟩,O⟩:=h2;have Jo:∀g',(g2::gs)[0]?=Z g'->g'.is_async=0:=fun g' z=>by
          have z':g2=g':=by simpa using z
          subst z';exact i5 O
         refine PS.imp (jD (i:=i) (g:=lG X.K (bG g)) (wi:=lI X.K (wI Φ src)) G.calm G.hx B Jo (sI src G _ t hi).1 (λs H fp=>sG (G.blk B' s H fp) g t U) (tb:=λp=>lC X.K p (br (wTl Φ ifs) (wCl Φ rest))) (λs H fp p=>?_) (sI src G _ t hi).2 Jm (Jn _)) λD σ H h=>?_
         ·have G':=G.blk B' s H fp;exact dX (p:=p) G' (mCl G.mono rest) (mTl G.mono ifs) (sCl rest G' elt (⟨t,it,fs,0⟩::g2::gs) sc cpos 0 (.inl rfl) p O) (sTl ifs G' fs ht)
         ·exact eQ (mI G.mono src) (aV (mCl G.mono rest) (mTl G.mono ifs)) σ H _ (mQ mc D σ H h)
        ·cases h2
      |_=>exact absurd he LJ
    ·refine plain ?_;simp only[Rr]at sw;refine df ?_;rw[qD G.sc F,sw]
   |SetComp _ _ _ _=>cases m<;>exact absurd he LJ
   |DictComp _ _ _ _ _=>refine plain (df ?_);rw[xv G.sc F];unfold Ev at hc;simp only[N8]at hc;rw[hc]
   |_=>exact plain (df rfl)
  |_=>cases L
 |.par i j a b,G,F,s,h=>by refine gn s h λts e pos h=>?_;refine cJ ts h λtg h=>?_;refine eE tg h λts k p h=>?_;refine eE e h λes k' p' h=>?_;refine i4 ts h λt u h=>?_;refine i4 es h λe f h=>?_;refine eV t h λx px h=>?_;refine eV u h λy py h=>?_;simp only[r0,decide_eq_true_eq]at h;obtain⟨⟨⟨⟨⟨⟨⟨hi,hj⟩,Jp⟩,n1⟩,n2⟩,L⟩,hb⟩,hw⟩:=h;obtain⟨i1,i2⟩:=sQ hi;obtain⟨j1,j2⟩:=sQ hj;exact PS.imp (Dn G.calm G.nd (by rw[G.N];exact i1) (by rw[G.N];exact j1) Jp (by rw[G.sc];exact i2) (by rw[G.sc];exact j2) (bf (mE G.mono a) (am (mE G.mono b) ar) (sE a G _ L) (bf (mE G.mono b) ar (sE b G _ hb) cT (af n2)) (af n1)) (Ce G.sc F hw) (df rfl)) (wo (am (mE G.mono a) (am (mE G.mono b) ar)))
 |.put o i m,G,F,s,h=>by refine gn s h λts e pos h=>?_;refine cJ ts h λtg h=>?_;refine dO tg h λx y tp h=>?_;simp only[r0]at h;obtain⟨⟨⟨⟨Fn,hc⟩,ho⟩,hi⟩,he⟩:=h;exact E9 (by have:=G.units;lia) (mE G.mono m) (mE G.mono o) (mE G.mono i) (sE m G e he) (sE o G x ho) (sE i G y hi) (df (lp hc)) rfl (λv=>by cases y<;>first|rfl|(cases Fn;done))
 |.aug i op m,G,F,s,h=>by
  refine j0 s h λt o e pos h=>?_;refine eV t h λx _ h=>?_;simp only[r0,decide_eq_true_eq]at h;obtain⟨⟨⟨⟨⟨rfl,fv⟩,hi⟩,hl⟩,hf⟩,he⟩:=h
  cases op with
  |add=>exact jU G.nd (by rw[G.N];exact hi) (G.loc hl) (sE m G _ he) mU gW (mE G.mono m) (G.own hf)
  |sub=>exact jU G.nd (by rw[G.N];exact hi) (G.loc hl) (sE m G _ he) mV gX (mE G.mono m) (G.own hf)
  |ext=>exact jU G.nd (by rw[G.N];exact hi) (G.loc hl) (sE m G _ he) wZ nv (mE G.mono m) (G.own hf)
  |mul=>exact jU G.nd (by rw[G.N];exact hi) (G.loc hl) (sE m G _ he) mW gY (mE G.mono m) (G.own hf)
  |_=>simp at fv
 |.augI o i op m,G,F,s,h=>by
  refine j0 s h λt o' e pos h=>?_;refine dO t h λx y tp h=>?_;simp only[r0,decide_eq_true_eq]at h;obtain⟨⟨⟨⟨⟨rfl,fv⟩,Fn⟩,ho⟩,hi⟩,he⟩:=h;have hu:X.A.units+1<Po:=by have:=G.units;lia
  have L:∀ov iv new,augStore y ov iv new=(do holding [new,ov,iv] (Uv ov iv new);release [new,ov,iv] [];pure .next):=λov iv new=>by cases y<;>first|rfl|(cases Fn;done)
  cases op with
  |add=>exact lg hu (mE G.mono o) (mE G.mono i) (mE G.mono m) gW (sE o G x ho) (sE i G y hi) (sE m G e he) mU L
  |sub=>exact lg hu (mE G.mono o) (mE G.mono i) (mE G.mono m) gX (sE o G x ho) (sE i G y hi) (sE m G e he) mV L
  |mul=>exact lg hu (mE G.mono o) (mE G.mono i) (mE G.mono m) gY (sE o G x ho) (sE i G y hi) (sE m G e he) mW L
  |_=>simp at fv
 |.drop m,G,F,s,h=>by refine Er s h λe _ h=>?_;simp only[r0]at h;exact PS.imp (B2 (sE m G _ h.2) (lp h.1)) (wm (mE G.mono m))
 |.ret m,G,F,s,h=>by refine zN s h λo _ h=>?_;refine jos o h λe h=>?_;exact PS.imp (Dh (sE m G _ h)) (zo (mE G.mono m))
 |.ite c a b,G,F,s,h=>by refine Ha s h λt x y _ h=>?_;simp only[r0]at h;exact PS.imp (Fi (sT c G _ h.1.1) (sSs a G F _ h.1.2) (sSs b G F _ h.2)) (BQ (mT G.mono c))
 |.for g src b,G,F,s,h=>by refine G1 s h λtg it body els _ h=>?_;refine i3 els h fun  h=>?_;simp only[r0]at h;obtain⟨⟨⟨hs,J⟩,hi⟩,hb⟩:=h;exact PS.imp (Ds (λe s z=>(G.hx e s z).elim) G.calm (sI src G _ _ hi).1 (sG G g _ J) (sSs b G F _ hb) (xo hs)) (zq (mI G.mono src) (mSs G.mono b))
 |.while c b,G,F,s,h=>by refine Cb s h λt body els _ h=>?_;refine i3 els h fun  h=>?_;simp only[r0]at h;exact PS.imp (yd (λe s z=>(G.hx e s z).elim) (sT c G _ h.1) (sSs b G F _ h.2)) (uj (mT G.mono c) (mSs G.mono b))
 |.pass,G,F,s,h=>by refine Et s h λ_ h=>?_;exact PS.imp B1 mP
 |.brk,G,F,s,h=>by refine Cc s h λ_ h=>?_;exact PS.imp yb ui
 |.cnt,G,F,s,h=>by refine uJ s h λ_ h=>?_;exact PS.imp rp wl
theorem sSs:∀(m:MSs) (G:Good C Φ k X) (j:C.sc.kind=.function) (s:List Stmt),okSs m C s=F2->PSs X s (lS X.K (wSs Φ m))
 |.nil,G,j,s,h=>by simp[okSs]at h;subst h;exact PSs.imp B0 mP
 |.cons m r,G,j,[],h=>by simp[okSs]at h
 |.cons m r,G,j,s::ss,h=>by simp only[okSs,r0]at h;exact PSs.imp (ya (sS m G j s h.1) (sSs r G j ss h.2)) (zn (mS G.mono m) (mSs G.mono r))
end
end
end
variable{a:Xc}{ns:List Int}{r:RAd}{H:Hp}{ds:List D}{M:Mem}{Q:QD}
section
structure FD where
 name:Str
 st:Stmt
 N:List Str
 np:Nat
 body:MSs
noncomputable def bV(N:List Str)(ds:List D):au:=ds.map Z++D1 (N.length-ds.length) Y
def FD.takes(d:FD):Prop:=(Mu "")∈d.N
noncomputable def dh(Φ:Phi)(a:Xc)(r:RAd):Phi:=λf ds M Q=>if f=5000+a then r ds M Q else Φ f ds M Q
noncomputable def rOf(Φ:Phi)(j:Nat)(gs:List D)(js:List Nat):RAd:=λargs M Q=>args.length=2/\Φ (2000+j) (js.map λi=>(gs++args).getD i .non) M Q
noncomputable def phi(T:List FD):Nat->Phi
 |0=>λ_ _ _ _=>False
 | k+1=>fun f ds M Q=>(∃d,T[f]?=Z d/\ds.length=d.np/\wSs (phi T k) d.body {nx:=fun _ M'=>Q .non M',rt:=Q} (bV d.N ds) M) ∨
   (∃i d xs a j gs js,f=1000+i/\i<1000/\j<1000/\T[i]?=Z d/\d.takes/\ds=xs++[.ref a,.int (j:Nat),.tup gs,.tup ((js:List Nat).map λi:Nat=>.int i)]/\xs.length+1=d.np /\
    wSs (dh (phi T k) a (rOf (phi T k) j gs js)) d.body {nx:=λ_ M'=>Q .non M',rt:=Q} (bV d.N (xs++[.ref a])) M) ∨
   (∃j,f=2000+j/\j<3000/\phi T k j ds M Q)
theorem nF(h:∀f,aM (Φ f))(B:aM r)(f:Nat):aM (dh Φ a r f):=λds M Q Q' j q=>by
 unfold dh at q⊢
 split
 ·rename_i z;rw[if_pos z]at q;exact B _ _ _ _ j q
 ·rename_i z;rw[if_neg z]at q;exact h f _ _ _ _ j q
theorem ci(T:List FD):∀k f,aM (phi T k f)
 |0,f=>λ_ _ _ _ _ q=>q.elim
 |k+1,f=>fun ds M Q Q' h B=>by
  rcases B with⟨d,e,l,q⟩|⟨i,d,xs,a,j,gs,js,e1,e2,ej,F,G,J,L,q⟩|⟨j,e1,e2,q⟩
  ·exact .inl ⟨d,e,l,mSs (ci T k) d.body {nx:=λ_ M'=>Q .non M',rt:=Q} {nx:=λ_ M'=>Q' .non M',rt:=Q'} _ _ ⟨λ_ M' q'=>h _ _ q',h,λ_ _ z=>z,λ_ _ z=>z⟩ q⟩
  ·exact .inr (.inl ⟨i,d,xs,a,j,gs,js,e1,e2,ej,F,G,J,L,mSs (nF (ci T k) (r:=rOf (phi T k) j gs js) λ_ _ _ _ O z=>⟨z.1,ci T k _ _ _ _ _ O z.2⟩) d.body {nx:=λ_ M'=>Q .non M',rt:=Q} {nx:=λ_ M'=>Q' .non M',rt:=Q'} _ _ ⟨λ_ M' q'=>h _ _ q',h,λ_ _ z=>z,λ_ _ z=>z⟩ q⟩)
  ·exact .inr (.inr ⟨j,e1,e2,ci T k _ _ _ _ _ h q⟩)
noncomputable def fC(lms:List (Str×Xc))(d:FD):Nat:=if(Mu "")∈d.N then 1 else match lms.lookup d.name with|some P=>P+2|none=>0
noncomputable def uR(Γ:List Str)(cs:List (Str×D))(lms:List (Str×Xc))(d:FD):Bool:=
 decide ((aq d.st).kind=.function) && !(aq d.st).isCoroutine && !(aq d.st).isGenerator&&decide (d.N.Nodup)&&decide (d.np<=d.N.length)
  && (d.N.take d.np).all (λx=>(aq d.st).names.lookup x==Z .local || (aq d.st).names.lookup x==Z .cell)
  && (aq d.st).names.all (λy=>!(y.2==.free))&&okSs d.body ⟨Γ,d.N,aq d.st,d.N,cs,fC lms d,d.name⟩ (bv d.st)
theorem qE{Γ:List Str}{cs:List (Str×D)}{lms:List (Str×Xc)}{d:FD}(h:uR Γ cs lms d=F2):cL d.N (d.N.take d.np) (aq d.st)/\(d.N.take d.np).length=d.np/\okSs d.body ⟨Γ,d.N,aq d.st,d.N,cs,fC lms d,d.name⟩ (bv d.st)=F2:=by
 simp only[uR,r0,decide_eq_true_eq,N8]at h;obtain⟨⟨⟨⟨⟨⟨⟨h1,h2⟩,B⟩,F⟩,U⟩,G⟩,J⟩,L⟩:=h;have j:(d.N.take d.np).length=d.np:=by rw[Mm];lia
 refine⟨⟨h1,h2,B,F,by rw[j],λx hx=>?_,λy O e=>?_⟩,j,L⟩
 ·have z:=PN.mp G x hx;simpa using z
 ·have z:=PN.mp J y O;rw[e]at z;simp at z
section
variable{P:Ml}{w:MQ}{K:Frag}{mg:Str->Option i0}{base:Heap}
structure uS(K:Frag)(mg:Str->Option i0)(T:List FD)(cs:List (Str×D))(lms:List (Str×Xc)):Prop where
 blt:∀x∈bltNames,mg x=Y
 fns:∀(i:Nat) (d:FD),T[i]?=Z d->∃f fd,Fun K d.name d.name d.st f fd/\mg d.name=Z (.ref f)/\S9 K Nw d.name=Z (Z (.ref f))/\Binds K fd (d.N.take d.np) []
 ok:∀d∈T,uR (T.map (·.name)) cs lms d=F2
 cst:∀x d,(x,d)∈cs->∃u,mg x=Z u/\GV K d u
 len:T.length<=1000
 own:∀(i:Nat) (d:FD) (T0:Xc),T[i]?=Z d->lms.lookup d.name=Z T0->∀f,mg d.name=Z (.ref f)->∃fd,FunP K d.name d.name d.st f fd T0
theorem qF{N:List Str}{vs:List V}(rs:RDs K H ds vs):RS K H (bH N vs) (bV N ds):=by
 refine⟨by simp[bH,bV,rs.length],λj dd B=>?_⟩
 unfold bV at B;unfold bH
 by_cases F:j<ds.length
 ·rw[LY (by simpa using F),LQ]at B
  cases e3:ds[j]? with
  |none=>rw[e3]at B;cases B
  |some z=>rw[e3]at B;cases B;obtain⟨v,G,rv⟩:=rs.get e3;refine⟨v,?_,rv⟩;rw[LY (by rw[tv,rs.length];exact F),LQ,G];rfl
 ·rw[D2 (by simpa using F),T6]at B
  split at B<;>cases B
theorem lu{T:List FD}(z:T.length<=1000){a:Nat}:∀{k:Nat} {ds:List D} {M:Mem} {Q:QD},¬phi T k (5000+a) ds M Q
 |0,_,_,_,h=>h
 |k+1,ds,M,Q,h=>by
  rcases h with⟨d,e,_⟩|⟨i,d,xs,b,j,gs,js,e1,e2,_⟩|⟨j,e1,e2,_⟩
  ·have:=(LP.mp e).1;lia
  ·lia
  ·lia
theorem uT{T:List FD}(F:T.length<=1000){j k:Nat}(G:j<1000)(h:phi T k (4000+j) ds M Q):∃z,k=z+2/\phi T z j ds M Q:=by
 have s1:∀{k:Nat} {m:Nat} {ds:List D} {M:Mem} {Q:QD},m<3000->phi T k (2000+m) ds M Q->∃z,k=z+1/\phi T z m ds M Q:=λ{k m ds M Q} hm h=>by
  cases k with
  |zero=>exact h.elim
  |succ k=>
   rcases h with⟨d,e,_⟩|⟨i,d,xs,b,j,gs,js,e1,e2,_⟩|⟨j,e1,e2,q⟩
   ·have:=(LP.mp e).1;lia
   ·lia
   ·have:j=m:=by lia
    subst this;exact⟨k,rfl,q⟩
 rw[show 4000+j=2000+(2000+j) by lia]at h
 obtain⟨J,rfl,h1⟩:=s1 ∅ h
 obtain⟨B,rfl,h2⟩:=s1 ∅ h1
 exact⟨B,rfl,h2⟩
theorem qG:∀{a b:List Nat},(a.map λi:Nat=>D.int i)=(b.map λi:Nat=>D.int i)->a=b
 |[],[],_=>rfl
 |[],_::_,h=>by cases h
 |_::_,[],h=>by cases h
 |x::a,y::b,h=>by rw[LX,LX,Qg,D.int.injEq]at h;rw[qG h.2,show x=y by have:=h.1;lia]
structure oO(P:Ml)(w:MQ)(K:Frag)(mg:Str->Option i0)(base:Heap)(T:List FD)(k:Nat):Prop where
 fn:∀(i:Nat) (d:FD) (f:Xc) (fd:Oe),T[i]?=Z d->Fun K d.name d.name d.st f fd->mg d.name=Z (.ref f)->FnOk P w K mg base CX0 k f fd (d.N.take d.np) (lSp K (phi T k i))
 fs:∀(i:Nat) (d:FD) (f:Xc) (fd:Oe),T[i]?=Z d->Fun K d.name d.name d.st f fd->mg d.name=Z (.ref f)->nW P w K mg base k f fd (d.N.take d.np) (spC P w K mg base k (phi T k) i)
theorem sU{T:List FD}{cs:List (Str×D)}{lms:List (Str×Xc)}(O:uS K mg T cs lms)(hM:Frag.In K base)(hB:fj mg base){k:Nat}(A1:oO P w K mg base T k)(A3:∀F,k=F+2->oO P w K mg base T F){i:Nat}{d:FD}(e:T[i]?=Z d)(hΦ:∀f,f<5000->Φ f=phi T k f)(hm:∀f,aM (Φ f)){A:MU}{outer:List Env}{s:s9}{E:XK}{f:Xc}{cdv:i0}(S:cL d.N (d.N.take d.np) (aq d.st))(U:Room k (A.deeper (Rm d.name (aq d.st) s.heap.objs.size f cdv)))(hc:fC lms d=1->∀a,xp ((cG CX0 P w K mg base d.N d.name (aq d.st) f cdv A outer s H E).nox) a (Φ (5000+a)))(ho:∀T0,fC lms d=T0+2->∃c,cdv=.ref c/\NX K c T0=F2):
 Good ⟨T.map (·.name),d.N,aq d.st,d.N,cs,fC lms d,d.name⟩ Φ k ((cG CX0 P w K mg base d.N d.name (aq d.st) f cdv A outer s H E).nox):=by
 have small:∀{j:Nat} {x:Str},(T.map (·.name))[j]?=Z x->j<1000/\∃d2,T[j]?=Z d2/\d2.name=x:=λ{j x} hx=>by
  rw[LQ]at hx
  cases e2:T[j]? with
  |none=>rw[e2]at hx;cases hx
  |some d2=>rw[e2]at hx;cases hx;exact⟨Mz (LP.mp e2).1 O.len,d2,rfl,rfl⟩
 refine⟨λ_ _ z=>z,rfl,rfl,rfl,S.nd,λ_ _=>rfl,U,O.blt,λj x hx=>?_,hm,O.cst,hc,λT0 hl=>?_⟩
 ·obtain⟨L,d2,e2,rfl⟩:=small hx;obtain⟨f2,B,G,J,n2,Fn⟩:=O.fns j d2 e2;exact⟨f2,B,_,J,n2,G.kp,Fn,by rw[hΦ j ∅];exact A1.fn j d2 f2 B e2 G J⟩
 ·obtain⟨c,rfl,hd⟩:=ho T0 hl;refine⟨⟨c,rfl,UB hM hd⟩,hB,rfl,λj x hx=>?_,λj x hx=>?_,?_⟩
  ·obtain⟨L,d2,e2,rfl⟩:=small hx;obtain⟨f2,B,G,J,n2,Fn⟩:=O.fns j d2 e2;have F3:=A1.fs j d2 f2 B e2 G J;have cv:∀{o:List Env} {s:s9} {vs:List V} {H:Hp} {Q:VK} {E:XK},spC P w K mg base k Φ j o s vs H Q E->spC P w K mg base k (phi T k) j o s vs H Q E:=by
    rintro o s vs H Q E ⟨ds,a,j',gs,js,M,rm,rd,C1,q⟩;refine⟨ds,a,j',gs,js,M,rm,rd,⟨C1.fn,?_⟩,by rw[<-hΦ _ ∅];exact q⟩
    intro A outer s1 H1 u1 u2 v1 v2 Q1 un U e0 r1 r2 Jm;obtain⟨Jn,M2,Jo,Jp,q2,fv⟩:=Jm;have fv:phi T k (4000+j') _ M2 _:=fv
    by_cases hj':j'<1000
    ·exact C1.run A outer s1 H1 u1 u2 v1 v2 Q1 un U e0 r1 r2 ⟨Jn,M2,Jo,Jp,q2,by show Φ (4000+j') _ _ _;rw[hΦ _ ∅];exact fv⟩
    ·rw[show 4000+j'=5000+(j'-1000) by lia]at fv
     exact absurd fv (lu O.len)
   exact⟨f2,B,_,J,G.kp,Fn,⟨λo s vs H Q E z=>F3.len o s vs H Q E (cv z),λA outer s H args us vs Q E U e0 hb r z=>F3.run A outer s H args us vs Q E U e0 hb r (cv z)⟩⟩
  ·obtain⟨L,d2,e2,rfl⟩:=small hx;obtain⟨f2,B,G,J,n2,Fn⟩:=O.fns j d2 e2;refine⟨f2,B,_,J,G.kp,Fn,?_⟩
   by_cases hk:∃F,k=F+2
   ·obtain⟨F,rfl⟩:=hk;refine(A3 F rfl |>.fn j d2 f2 B e2 G J).imp λvs H Q E g9=>?_
    obtain⟨ds,M,rm,rd,q⟩:=g9;rw[hΦ _ ∅]at q
    obtain⟨k1,e1,q1⟩:=uT O.len L q;have:k1=F:=∅
    subst this;exact⟨ds,M,rm,rd,q1⟩
   ·have no:∀{vs H Q E},¬lSp K (Φ (4000+j)) vs H Q E:=fun {vs H Q E} g9=>by
     obtain⟨ds,M,rm,rd,q⟩:=g9;rw[hΦ _ ∅]at q
     obtain⟨k1,e1,_⟩:=uT O.len L q;exact hk ⟨k1,e1⟩
    exact⟨λvs H Q E z=>absurd z no,λA outer s H args us vs Q E _ _ _ _ z=>absurd z no⟩
  ·by_cases hk:∃F,k=F+2
   ·exact .inl hk
   ·refine .inr λj x hx ds M Q q=>?_;obtain⟨L,_⟩:=small hx;rw[hΦ _ ∅]at q
    obtain⟨k1,e1,_⟩:=uT O.len L q;exact hk ⟨k1,e1⟩
theorem EB{T:List FD}{cs:List (Str×D)}{lms:List (Str×Xc)}(O:uS K mg T cs lms)(hM:Frag.In K base)(hB:fj mg base)(k:Nat):oO P w K mg base T k:=by
 induction k using Nat.strongRecOn with
 |ind k ih=>
  cases k with
  | zero=>exact⟨fun i d f fd e F hm=>⟨fun vs H Q E h=>by obtain⟨ds,M,_,_,q⟩:=h;exact q.elim,fun A outer s H args us vs Q E _ _ _ _ h=>by obtain⟨ds,M,_,_,q⟩:=h;exact q.elim⟩,
     λi d f fd e F hm=>⟨λo s vs H Q E h=>by obtain⟨ds,a,j,gs,js,M,_,_,_,q⟩:=h;exact q.elim,λA outer s H args us vs Q E _ _ _ _ h=>by obtain⟨ds,a,j,gs,js,M,_,_,_,q⟩:=h;exact q.elim⟩⟩
  |succ k=>
   have A1:=ih k (Te k);have A3:∀k0,k=k0+2->oO P w K mg base T k0:=λk0 z=>ih k0 ∅
   have reg:∀{i:Nat} {d:FD} {ds:List D} {M:Mem} {Q:QD},T[i]?=Z d->phi T (k+1) i ds M Q->ds.length=d.np/\wSs (phi T k) d.body {nx:=λ_ M'=>Q .non M',rt:=Q} (bV d.N ds) M:=λ{i d ds M Q} e h=>by
    have hi:=(LP.mp e).1;have hl:=O.len
    rcases h with⟨d',e',l,q⟩|⟨i',d',xs,b,j,gs,js,e1,_⟩|⟨j,e1,_⟩
    ·rw[e]at e';cases e';exact⟨l,q⟩
    ·lia
    ·lia
   refine⟨λi d f fd e F Jm=>?_,λi d f fd e F Jm=>?_⟩
   ·obtain⟨S,hl,hb⟩:=qE (O.ok d (Mh e));have len:∀vs H Q E,lSp K (phi T (k+1) i) vs H Q E->vs.length=(d.N.take d.np).length:=fun vs H Q E h=>by
     obtain⟨ds,M,rm,rs,q⟩:=h;rw[rs.length,(reg e q).1,hl]
    have body:∀(cdv:i0) (A:MU) (outer:List Env) (s:s9) (H:Hp) (vs:List V) (Q:VK) (E:XK),(∀T0,fC lms d=T0+2->∃c,cdv=.ref c/\NX K c T0=F2)->Room k (A.deeper (Rm d.name (aq d.st) s.heap.objs.size f cdv))->lSp K (phi T (k+1) i) vs H Q E->
     ∃t,PSs (cG CX0 P w K mg base d.N d.name (aq d.st) f cdv A outer s H E).nox (bv d.st) t/\t {nx:=λ_ H'=>Q .non H',rt:=Q} (bH d.N vs) H:=λcdv A outer s H vs Q E ho J h=>by
     obtain⟨ds,M,rm,rs,q⟩:=h;have G:=sU (P:=P) (w:=w) (A:=A) (outer:=outer) (s:=s) (H:=H) (E:=E) (f:=f) (cdv:=cdv) O hM hB A1 A3 e (Φ:=phi T k) (λ_ _=>rfl) (ci T k) S J (λ_ a pins s σ H vs us Q I r z=>by obtain⟨ds,M,_,_,q⟩:=z;exact absurd q (lu O.len)) ho
     exact⟨_,sSs d.body G S.kind _ hb,bV d.N ds,M,{nx:=λ_ M'=>KE' K M H Q .non M',rt:=KE' K M H Q},qF rs,rm,⟨λρ M' σ H' x rs' rm' q'=>q' .non H' x rm' (WX.mpr rfl),λd M' v H' x rm' rd' q'=>q' v H' x rm' rd',λ_ _ _ _ _ _ _ z=>z,λ_ _ _ _ _ _ _ z=>z⟩,(reg e q).2⟩
    by_cases fv:(Mu "")∈d.N
    ·refine F.ok S len λcdv A outer s H vs Q E J h=>body cdv A outer s H vs Q E (λT0 z=>?_) J h;unfold fC at z;rw[if_pos fv]at z;lia
    cases U:lms.lookup d.name with
    |none=>refine F.ok S len λcdv A outer s H vs Q E J h=>body cdv A outer s H vs Q E (λT0 z=>?_) J h;unfold fC at z;rw[if_neg fv,U]at z;cases z
    |some T1=>
     obtain⟨fd',FP⟩:=O.own i d T1 e U f Jm;have:fd'=fd:=by obtain⟨_,_,_,_,_,_,_,_,_,_,l1,_⟩:=F.ex;obtain⟨_,_,_,_,_,_,_,_,_,_,l2,_⟩:=FP.ex;rw[l1]at l2;cases l2;rfl
     subst this;refine FP.ok S len λc A outer s H vs Q E hd J h=>body (.ref c) A outer s H vs Q E (λT0 z=>?_) J h;unfold fC at z;rw[if_neg fv,U]at z;have:T1=T0:=by have z:T1+2=T0+2:=z;lia
     subst this;exact⟨c,rfl,hd⟩
   ·obtain ⟨S,hl,hb⟩:=qE (O.ok d (Mh e));have hi:=(LP.mp e).1;have ops:∀{o:List Env} {s:s9} {vs:List V} {H:Hp} {Q:VK} {E:XK},spC P w K mg base (k+1) (phi T (k+1)) i o s vs H Q E->
     ∃(xs:List D) (a:Xc) (r:RAd) (M:Mem),d.takes/\RM K M H/\RDs K H (xs++[.ref a]) vs/\xs.length+1=d.np/\aM r/\(∀ds M Q,r ds M Q->ds.length=2)/\ik P w K mg base k (frs o) a (lSp K r) H s.heap /\
      wSs (dh (phi T k) a r) d.body {nx:=λ_ M'=>KE' K M H Q .non M',rt:=KE' K M H Q} (bV d.N (xs++[.ref a])) M:=by
     rintro o s vs H Q E ⟨ds,a,j,gs,js,M,rm,rd,C1,q⟩
     rcases q with⟨d',e',_⟩|⟨i',d',xs,b,j',gs',js',e1,e2,ej,e3,e4,e5,e6,q⟩|⟨j',e1,_⟩
     ·have:=(LP.mp e').1;have:=O.len;lia
     ·have:i=i':=by lia
      subst this;rw[e]at e3;cases e3;obtain⟨rfl,z⟩:=List.append_inj' e5 (by simp)
      simp only[Qg,D.ref.injEq,D.int.injEq,D.tup.injEq,and_true]at z;obtain⟨rfl,hj,rfl,Fn⟩:=z;have hj:j=j':=by exact_mod_cast hj
      subst hj;have Fn:js=js':=qG Fn;subst Fn;refine⟨ds,a,rOf (phi T k) j gs js,M,e4,rm,rd,e6,λ_ _ _ _ hq z=>⟨z.1,ci T k _ _ _ _ _ hq z.2⟩,λ_ _ _ z=>z.1,⟨C1.fn,?_⟩,q⟩;intro A outer s1 H1 u1 u2 v1 v2 Q1 un J e0 r1 r2 Js;obtain⟨L,M2,Jt,Ju,B,q3⟩:=Js;exact C1.run A outer s1 H1 u1 u2 v1 v2 Q1 un J e0 r1 r2 ⟨L,M2,Jt,Ju,B,.inr (.inr ⟨2000+j,∅,∅,q3⟩)⟩
     ·have:=O.len;lia
    refine F.okS S (λo s vs H Q E h=>?_) λcdv A outer s H vs Q E J h=>?_
    ·obtain⟨xs,a,r,M,fv,rm,rd,hn,Jn,Jo,C1,q⟩:=ops h;rw[rd.length,J4,NP,hn,hl]
    ·obtain⟨xs,a,r,M,fv,rm,rd,hn,Jn,Jo,C1,q⟩:=ops h;have h1:fC lms d=1:=if_pos fv;have G:=sU (P:=P) (w:=w) (A:=A) (outer:=outer) (s:=s) (H:=H) (E:=E) (f:=f) (cdv:=cdv) O hM hB A1 A3 e (Φ:=dh (phi T k) a r) (fun f hf=>by
      funext ds M Q;unfold dh;rw[if_neg ∅]) (nF (ci T k) Jn) S J (λ_ b pins s2 σ H2 Jp us Q2 I rv z=>?_) (λT0 z=>by rw[h1]at z;lia)
     ·exact⟨_,sSs d.body G S.kind _ hb,bV d.N (xs++[.ref a]),M,{nx:=λ_ M'=>KE' K M H Q .non M',rt:=KE' K M H Q},qF (K:=K) rd,rm,⟨λρ M' σ H' x rs' rm' q'=>q' .non H' x rm' (WX.mpr rfl),λd M' v H' x rm' rd' q'=>q' v H' x rm' rd',λ_ _ _ _ _ _ _ z=>z,λ_ _ _ _ _ _ _ z=>z⟩,q⟩
     ·obtain⟨L,M2,Jv,Jq,B⟩:=z
      by_cases hb':b=a
      ·subst hb';have B:r L M2 (KE' K M2 H2 Q2):=by
        unfold dh at B;rw[if_pos rfl]at B;exact B
       have Jr:=Jo _ _ _ B;rw[<-Jq.length]at Jr;obtain⟨v1,v2,rfl⟩:∃v1 v2,Jp=[v1,v2]:=by
        match Jp,Jr with
        |[v1,v2],_=>exact⟨v1,v2,rfl⟩
       exact yA (X:=(cG CX0 P w K mg base d.N d.name (aq d.st) f cdv A outer s H E).nox) rfl J C1 pins s2 σ H2 v1 v2 us Q2 I rv ⟨L,M2,Jv,Jq,B⟩
      ·have B:phi T k (5000+b) L M2 (KE' K M2 H2 Q2):=by
        unfold dh at B;rw[if_neg ∅]at B;exact B
       exact absurd B (lu O.len)
noncomputable def eG:List (Xc×Pos×Str)->Mem
 |[],_=>Y
 |(P,pos,q)::r,a=>if a=P then Z (.tab pos q)else eG r a
theorem sV{H:Hp}:∀{ts:List (Xc×Pos×Str)},(∀t∈ts,H t.1=Z (.tbl #[]))->RM K (eG ts) H
 |[],_=>λ_ _ z=>by cases z
 |(P,pos,q)::r,h=>λa o z=>by
  unfold eG at z
  split at z
  ·rename_i e;cases z;subst e;exact⟨#[],h _ (Mr ..),.inl rfl⟩
  ·exact sV (λt j=>h t (Mg _ j)) a o z
theorem Cf{T:List FD}{k i:Nat}{ts:List (Xc×Xc)}(cs:List (Xc×Pos×Str))(B:∀t∈cs,∃q∈ts,q.2=t.1)(F:nX ts H)(G:Scr K H a (ns.map V.int))(h:phi T k i [.con (ns.map D.int)] (eG cs) λd _=>d=.bl F2):
 lSp K (phi T k i) [.ref a] H (λv _=>v=.bl F2) λ_ _ _=>False:=by
 have j:RM K (eG cs) H:=sV λt z=>by obtain⟨q,J,e⟩:=B t z;rw[<-e];exact F.tab q J
 refine⟨[.con (ns.map D.int)],eG cs,j,RDs.cons (WV.mpr ⟨a,ns.map V.int,rfl,?_,X6 ns⟩) RDs.nil,ci T k i [.con (ns.map D.int)] (eG cs) (λd _=>d=.bl F2) (KE' K (eG cs) H λv _=>v=.bl F2) (λd M' e=>λv H' x rm rd=>?_) h⟩
 ·exact G
 ·subst e;exact WT.mp rd
end
theorem EC{T:List FD}{lms:List (Str×Xc)}{Ls:List Nat}(h:((D0 T.length).all λi=>Ls.contains i || (T[i]?).all λd=>(lms.lookup d.name).isNone)=F2){i:Nat}{d:FD}{T0:Xc}(e:T[i]?=Z d)(j:lms.lookup d.name=Z T0):i∈Ls:=by have z:=PN.mp h i (MY.mpr (LP.mp e).1);rw[e]at z;simpa[j]using z
theorem hd_in{K:Frag}{c:Xc}{o:Obj}(h:K.lookup c=Z o)(e:NX [(c,o)] c P=F2):NX K c P=F2:=by
 unfold NX at e⊢;rw[h];rw[show Qv c [(c,o)]=Z o by simp[Qv]]at e
 exact e
theorem iL(us:List i0)(h:us.length=1):∃a,us=[a]:=Rh.mp h
theorem bX(us:List i0)(h:us.length=2):∃a b,us=[a,b]:=by
 cases us with
 |nil=>cases h
 |cons a us=>obtain⟨b,rfl⟩:=iL us (WG.inj h);exact⟨a,b,rfl⟩
theorem kr(us:List i0)(h:us.length=3):∃a b c,us=[a,b,c]:=by
 cases us with
 |nil=>cases h
 |cons a us=>obtain⟨b,c,rfl⟩:=bX us (WG.inj h);exact⟨a,b,c,rfl⟩
theorem uU(us:List i0)(h:us.length=4):∃a b c d,us=[a,b,c,d]:=by
 cases us with
 |nil=>cases h
 |cons a us=>obtain⟨b,c,d,rfl⟩:=kr us (WG.inj h);exact⟨a,b,c,d,rfl⟩
end
variable{i j y c v z:Int}{q n N m ft L fo f1 L0 L1 W ff w:Nat}{b:Xc}{l A B:List Int}{F G:Nat->Int}{xs:List D}{s so s1 sf:Stmt}{d:FD}{T:List FD}{E:bW}{o:O}{ρ:au}{M' M'':Mem}{zs:List (Int×Int)}{mul:List Int->List Int->List Int}
section
theorem ED{k:Nat}(e:T[f]?=Z d)(l:ds.length=d.np)(r:bV d.N ds=ρ)(h:wSs (phi T k) d.body {nx:=λ_ M'=>Q .non M',rt:=Q} ρ M):phi T (k+1) f ds M Q:=by
 rw[<-r]at h
 first|exact⟨d,e,l,h⟩|exact .inl ⟨d,e,l,h⟩
theorem az(j:1<=n)(e:T[f]?=Z d)(l:ds.length=d.np)(r:bV d.N ds=ρ)(h:wSs (phi T (n-1)) d.body {nx:=λ_ M'=>Q .non M',rt:=Q} ρ M):phi T n f ds M Q:=by
 obtain⟨k,rfl⟩:∃k,n=k+1:=⟨n-1,∅⟩
 exact ED e l r h
theorem Hu{D:bW}:wSs Φ .nil D ρ M=D.nx ρ M:=by rw[wSs];rfl
theorem bK{s:MS}{r:MSs}{D:bW}:wSs Φ (.cons s r) D ρ M=wS Φ s {D with nx:=wSs Φ r D} ρ M:=by rw[wSs];rfl
theorem Hv{y:D}:wIx (.tup ds) y M Q=∃i d,y=.int i/\atI ds i=Z d/\Q d M:=rfl
theorem Hw{y:D}:wIx (.con ds) y M Q=∃i d,y=.int i/\atI ds i=Z d/\Q d M:=rfl
theorem aI{d:D}(h:M a=Z (.lst ds))(e:atI ds i=Z d)(q:Q d M):wIx (.ref a) (.int i) M Q:=.inl ⟨ds,i,d,h,rfl,e,q⟩
theorem cK{v:D}{j:Nat}{Q:Mem->Prop}(h:M a=Z (.lst ds))(e:ixN ds.length i=Z j)(q:Q (ag M a (.lst (ds.set j v)))):gc (.ref a) (.int i) v M Q:=⟨a,rfl,.inl ⟨ds,i,j,rfl,h,e,q⟩⟩
theorem aZ(h:M a=Z (.lst ds))(q:Q (.int ds.length) M):fw [.ref a] M Q:=⟨_,_,rfl,by simp only[pQ,h],q⟩
theorem ak(h:M a=Z (.lst ds)):aN M (.ref a)=Z ds:=by simp only[aN,h]
theorem Ik:kY [.int i] M Q=Q (.int i) M:=by
 apply propext;constructor
 ·rintro(⟨j,e,q⟩|⟨k,e,q⟩)
  ·cases e;exact q
  ·cases e
 ·exactλq=>.inl ⟨i,rfl,q⟩
theorem Il{b:Bool}:kY [.bl b] M Q=Q (.int (if b then 1 else 0)) M:=by
 apply propext;constructor
 ·rintro(⟨j,e,q⟩|⟨k,e,q⟩)
  ·cases e
  ·cases e;exact q
 ·exactλq=>.inr ⟨b,rfl,q⟩
theorem Jb:wEq (.int i) (.int j) M Q=Q (.bl (i==j)) M:=by simp[wEq,rb,Oq]
theorem Jc:wNe (.int i) (.int j) M Q=Q (.bl (!(i==j))) M:=by simp[wNe,rb,Oq]
theorem EE:fu (.int i) (.int j) M Q=Q (.int (i+j)) M:=rfl
theorem Im{a b:List D}:fu (.tup a) (.tup b) M Q=((a≠[]∨True)/\a.length+b.length<=LK/\Q (.tup (a++b)) M):=rfl
theorem Io:kT (.int i) (.int j) M Q=Q (.int (i-j)) M:=rfl
theorem wMul_i:gN (.int i) (.int j) M Q=(MulOk i j/\Q (.int (i*j)) M):=rfl
theorem Ip{k:Int}:gN (.tup ds) (.int k) M Q=(-(2^63)<=k/\k<2^63/\ds.length*k.toNat<=LK/\Q (.tup (D1 k.toNat ds).flatten) M):=rfl
theorem wMul_r{k:Int}:gN (.ref a) (.int k) M Q=∃xs,M a=Z (.lst xs) /\ -(2^63)<=k/\k<2^63/\xs.length*k.toNat<=LK/\∀p,M p=Y->Q (.ref p) (ag M p (.lst (D1 k.toNat xs).flatten)):=rfl
theorem Hx:jE (.int i) (.int j) M Q=(0<j/\j<2^256/\Q (.int (i / j)) M):=rfl
theorem Iq:pH (.int i) (.int j) M Q=(0<j/\Q (.int (i%j)) M):=rfl
theorem Ir:pI (.int i) (.int j) M Q=(0<=j/\j<=1000000/\i.natAbs<2^64/\Q (.int (i^j.toNat)) M):=rfl
theorem Jd:wLt (.int i) (.int j) M Q=Q (.bl (decide (i<j))) M:=rfl
theorem G2:wGt (.int i) (.int j) M Q=Q (.bl (decide (j<i))) M:=rfl
theorem Je:wGe (.int i) (.int j) M Q=Q (.bl (decide (j<=i))) M:=rfl
theorem Cg:jR (.int i) (.int j) M Q=Q (.int (i+j)) M:=rfl
theorem Hy:jS (.int i) (.int j) M Q=Q (.int (i-j)) M:=rfl
theorem Hz:jT (.int i) (.int j) M Q=(MulOk i j/\Q (.int (i*j)) M):=rfl
theorem Is:pM (.int i) M Q=Q (.int (-i)) M:=rfl
theorem Iu:kX [.int i] M Q=Q (.int (if i<0 then -i else i)) M:=by simp[kX]
theorem HA:jG [.int i,.int j] M Q=Q (.int (if j > i then j else i)) M:=by
 apply propext;constructor
 ·rintro⟨a,b,e,q⟩;cases e;exact q
 ·exactλq=>⟨i,j,rfl,q⟩
theorem HB:jH [.int i,.int j] M Q=Q (.int (if j<i then j else i)) M:=by
 apply propext;constructor
 ·rintro⟨a,b,e,q⟩;cases e;exact q
 ·exactλq=>⟨i,j,rfl,q⟩
theorem Iv:fw [.con ds] M Q=Q (.int ds.length) M:=by simp[fw,pQ]
theorem Iw:fw [.tup ds] M Q=Q (.int ds.length) M:=by simp[fw,pQ]
theorem Ix:aN M (.tup ds)=Z ds:=rfl
theorem Iy:aN M (.con ds)=Z ds:=rfl
theorem Jf{α:Sort _}{a b:α}:(if F2=F2 then a else b)=a:=rfl
theorem Jg{α:Sort _}{a b:α}:(if N2=F2 then a else b)=b:=rfl
theorem HC{ta tb:TEd}{R:List D->(Mem->Prop)->Mem->Prop}:lc ta tb ρ M R=ta ρ M λx j=>tb ρ j λy M2=>∃xs ys,aN M2 x=Z xs/\aN M2 y=Z ys/\R (Ra ir xs ys) (λM=>aN M x=Z xs/\aN M y=Z ys) M2:=by
 unfold lc av;congr 1;funext x j;unfold aX;congr 1;funext y M2;apply propext;constructor
 ·rintro⟨x',y',xs,ys,e,q⟩
  cases e;exact⟨xs,ys,q⟩
 ·rintro⟨xs,ys,q⟩;exact⟨x,y,xs,ys,rfl,q⟩
theorem Iz{y:Str}:fu (.str x) (.str y) M Q=(x.length+y.length<=LK/\Q (.str (x++y)) M):=rfl
theorem IA{i}:wE Φ (.var i)=cS i:=rfl
theorem IB{i}:wE Φ (.int i)=wC (.int i):=rfl
theorem Jh{b}:wE Φ (.bl b)=wC (.bl b):=rfl
theorem IC:wE Φ (.non)=wC .non:=rfl
theorem ID{op}{a}{b}:wE Φ (.bin op a b)=wOp (opB op) (wE Φ a) (wE Φ b):=rfl
theorem IE{a}:wE Φ (.neg a)=wUn pM (wE Φ a):=rfl
theorem IF{op}{a}{b}:wE Φ (.cmp op a b)=wOp (opC op) (wE Φ a) (wE Φ b):=rfl
theorem IG{es}:wE Φ (.and es)=wAnds Φ es:=rfl
theorem Ji{es}:wE Φ (.or es)=wOrs Φ es:=rfl
theorem IH{a}:wE Φ (.not a)=oh (wE Φ a):=rfl
theorem II{c}{a}{b}:wE Φ (.ite c a b)=wIf (wT Φ c) (wE Φ a) (wE Φ b):=rfl
theorem IJ{es}:wE Φ (.tup es)=wAr tW (wA Φ es):=rfl
theorem IK{es}:wE Φ (.lst es)=wAr tX (wA Φ es):=rfl
theorem Jj{a}{b}:wE Φ (.ix a b)=wOp wIx (wE Φ a) (wE Φ b):=rfl
theorem Jk{a}{lo}{hi}:wE Φ (.sl a lo hi)=wSl (wE Φ a) (wO Φ lo) (wO Φ hi):=rfl
theorem HD{f}{es}:wE Φ (.call f es)=wAr (Φ f) (wA Φ es):=rfl
theorem Hb{i}{es}:wE Φ (.callC i es)=kf Φ i (wA Φ es):=rfl
theorem Hc{f}{es}{j}{cs}{js}{P}{pos}{q}:wE Φ (.callL f es j cs js P pos q)=kg Φ f (wA Φ es) j cs js P pos q:=rfl
theorem IM{f}{es}:wE Φ (.blt f es)=wAr (opF f) (wA Φ es):=rfl
theorem HE{a}{T}:wE Φ (.isin a T)=oi T (wE Φ a):=rfl
theorem Hd{a}{b}:wE Φ (.lrng2 a b)=jM (av (wE Φ a) (av (wE Φ b) aX)):=rfl
theorem HF{t}:wE Φ (.dnew t)=oA t:=rfl
theorem He{a}:wE Φ (.sortI a)=kb (wE Φ a):=rfl
theorem HG{o}{k}{x}:wE Φ (.dget o k x)=oE (wE Φ o) (wE Φ k) (wE Φ x):=rfl
theorem HH{m}{o}{a}:wE Φ (.meth m o a)=wBM (opM m) (wE Φ o) (av (wE Φ a) aX):=rfl
theorem IN{o}{i}{a}:wE Φ (.ins o i a)=wBM iG (wE Φ o) (av (wE Φ i) (av (wE Φ a) aX)):=rfl
theorem HI{fr}{u1}{c}:wE Φ (.comp fr u1 c)=wCmp Φ fr c:=rfl
theorem HJ{a}{j}:wE Φ (.revS a j)=oH (wE Φ a) (io (wE Φ j)):=rfl
theorem HK:wA Φ (.nil)=aX:=rfl
theorem Hf{e}{r}:wA Φ (.cons e r)=av (wE Φ e) (wA Φ r):=rfl
theorem Hg:wTl Φ (.nil)=[]:=rfl
theorem Gp{t}{r}:wTl Φ (.cons t r)=wT Φ t::wTl Φ r:=rfl
theorem IO{e}:wI Φ (.seq e)=ua (wE Φ e):=rfl
theorem HM{a}:wI Φ (.rng1 a)=oj (av (wE Φ a) aX):=rfl
theorem HN{a}{b}:wI Φ (.rng2 a b)=oo (av (wE Φ a) (av (wE Φ b) aX)):=rfl
theorem IP{a}{b}:wI Φ (.zip a b)=lc (wE Φ a) (wE Φ b):=rfl
theorem HP{a}:wI Φ (.enum a)=ot (wE Φ a):=rfl
theorem IQ{a}:wI Φ (.rev a)=oF (wE Φ a):=rfl
theorem Gq{src}{g}{ifs}{elt}:wCl Φ (.last src g ifs elt)=dU (wI Φ src) (bG g) (br (wTl Φ ifs) (eO (wE Φ elt))):=rfl
theorem Gr{src}{g}{ifs}{rest}:wCl Φ (.more src g ifs rest)=dU (wI Φ src) (bG g) (br (wTl Φ ifs) (wCl Φ rest)):=rfl
theorem G3{fr:List (Option Nat)}{src}{g}{ifs}{elt}:wCmp Φ fr (.last src g ifs elt)=iw fr (wI Φ src) (bG g) (br (wTl Φ ifs) (eO (wE Φ elt))):=rfl
theorem G4{fr:List (Option Nat)}{src}{g}{ifs}{rest}:wCmp Φ fr (.more src g ifs rest)=iw fr (wI Φ src) (bG g) (br (wTl Φ ifs) (wCl Φ rest)):=rfl
theorem IR{g}{e}:wS Φ (.asg g e)=lf (wE Φ e) (bG g):=rfl
theorem HQ{gs}{e}:wS Φ (.asgL gs e)=oG (wE Φ e) (bGs gs):=rfl
theorem IS{i}{j}{a}{b}:wS Φ (.par i j a b)=ue (av (wE Φ a) (av (wE Φ b) aX)) (cC (cU i) (cC (cU j) j8)):=rfl
theorem IT{o}{i}{e}:wS Φ (.put o i e)=uk (wE Φ e) (wE Φ o) (wE Φ i):=rfl
theorem IU{i}{op}{e}:wS Φ (.aug i op e)=um i (opI op) (wE Φ e):=rfl
theorem HR{o}{i}{op}{e}:wS Φ (.augI o i op e)=oz (wE Φ o) (wE Φ i) (wE Φ e) (opI op):=rfl
theorem HS{e}:wS Φ (.drop e)=ox (wE Φ e):=rfl
theorem IV{e}:wS Φ (.ret e)=ud (wE Φ e):=rfl
theorem IW{c}{a}{b}:wS Φ (.ite c a b)=sIf (wT Φ c) (wSs Φ a) (wSs Φ b):=rfl
theorem IX{g}{src}{b}:wS Φ (.for g src b)=uf (wI Φ src) (bG g) (wSs Φ b):=rfl
theorem Hh{c}{b}:wS Φ (.while c b)=jQ (wT Φ c) (wSs Φ b):=rfl
theorem HU:wS Φ (.pass)=jO:=rfl
theorem IY:wS Φ (.brk)=jP:=rfl
theorem IZ:wS Φ (.cnt)=ou:=rfl
theorem J0{e}:wT Φ (.tru e)=u6 (wE Φ e):=rfl
theorem J1{op}{a}{b}:wT Φ (.cmp op a b)=ef (wOp (opC op) (wE Φ a) (wE Φ b)):=rfl
theorem J2{ts}:wT Φ (.and ts)=wAndTs Φ ts:=rfl
theorem Jl{ts}:wT Φ (.or ts)=wOrTs Φ ts:=rfl
theorem J3{t}:wT Φ (.not t)=nZ (wT Φ t):=rfl
theorem F6:wAndTs Φ (.nil)=λ_ _ _=>False:=rfl
theorem EF{e}:wAndTs Φ (.cons e .nil)=wT Φ e:=rfl
theorem EG{e}{f}{r}:wAndTs Φ (.cons e (.cons f r))=jK (wT Φ e) (wAndTs Φ (.cons f r)):=rfl
theorem G5:wOrTs Φ (.nil)=λ_ _ _=>False:=rfl
theorem F7{e}:wOrTs Φ (.cons e .nil)=wT Φ e:=rfl
theorem F8{e}{f}{r}:wOrTs Φ (.cons e (.cons f r))=u7 (wT Φ e) (wOrTs Φ (.cons f r)):=rfl
theorem G6:wAnds Φ (.nil)=λ_ _ _=>False:=rfl
theorem F9{e}:wAnds Φ (.cons e .nil)=wE Φ e:=rfl
theorem Fa{e}{f}{r}:wAnds Φ (.cons e (.cons f r))=og (wE Φ e) (wAnds Φ (.cons f r)):=rfl
theorem Gs:wOrs Φ (.nil)=λ_ _ _=>False:=rfl
theorem G7{e}:wOrs Φ (.cons e .nil)=wE Φ e:=rfl
theorem G8{e}{f}{r}:wOrs Φ (.cons e (.cons f r))=u8 (wE Φ e) (wOrs Φ (.cons f r)):=rfl
theorem Hi{i}:bG (.name i)=cU i:=rfl
theorem HV{gs}:bG (.tup gs)=yZ (bGs gs):=rfl
theorem Hj:bGs (.nil)=j8:=rfl
theorem Gu{g}{r}:bGs (.cons g r)=cC (bG g) (bGs r):=rfl
theorem Hk:wO Φ (.none)=im:=rfl
theorem Hl{e}:wO Φ (.some e)=io (wE Φ e):=rfl
theorem HW:opB (.add)=fu:=rfl
theorem HX:opB (.sub)=kT:=rfl
theorem HY:opB (.mul)=gN:=rfl
theorem Hm:opB (.fdiv)=jE:=rfl
theorem HZ:opB (.mod)=pH:=rfl
theorem I0:opB (.pow)=pI:=rfl
theorem I8:opB (.ext)=fu:=rfl
theorem J6:opC (.eq)=wEq:=rfl
theorem J7:opC (.ne)=wNe:=rfl
theorem J8:opC (.lt)=wLt:=rfl
theorem J9:opC (.gt)=wGt:=rfl
theorem Ja:opC (.ge)=wGe:=rfl
theorem I9:opC (.inS)=uA:=rfl
theorem Hn:opC (.ninD)=uB F2:=rfl
theorem Ia:opF (.len)=fw:=rfl
theorem Ho:opF (.max1)=iH:=rfl
theorem Ib:opF (.abs)=kX:=rfl
theorem Hq:opF (.max2)=jG:=rfl
theorem Hr:opF (.min2)=jH:=rfl
theorem Ic:opF (.int)=kY:=rfl
theorem Hs:opF (.list)=nY:=rfl
theorem Gv:opF (.tuple)=jI:=rfl
theorem Id:opF (.all)=qb:=rfl
theorem Gw:opF (.sorts)=kc:=rfl
theorem G9:opM (.append)=iq:=rfl
theorem Ie:opI (.add)=jR:=rfl
theorem Ig:opI (.sub)=jS:=rfl
theorem Ih:opI (.mul)=jT:=rfl
theorem Ii:opI (.ext)=oI:=rfl
local macro_rules|`(tactic| ac_nf)=>do
 let f:=fun(n:Lean.Name)(s:String)=>(s.splitOn " ").toArray.map fun x=>(⟨(Lean.mkIdent (n++x.toName)).raw⟩:Lean.Term)
 let a:=f `_root_.L2.Mi "tU cS wC wOp wUn aX av wAr ef tW tX u6 nZ jK u7 og u8 oh wIf im io wSl oi wBM cU j8 cC yZ ua oj oo jM ot eO br dU iw jO zg jP ou ox ud sIf lf ue uf jQ uk um oz oA kb oE oF oG oH Hu Hv Hw Ik Il Jb Jc EE Im Io wMul_i Ip Hx Iq Ir Jd G2 Je Cg Hy Hz Is Iu HA HB Iv Iw Ix Iy Jf Jg HC Iz IA IB Jh IC ID IE IF IG Ji IH II IJ IK Jj Jk HD Hb Hc IM HE Hd HF He HG HH IN HI HJ HK Hf Hg Gp IO HM HN IP HP IQ Gq Gr G3 G4 IR HQ IS IT IU HR HS IV IW IX Hh HU IY IZ J0 J1 J2 Jl J3 F6 EF EG G5 F7 F8 G6 F9 Fa Gs G7 G8 Hi HV Hj Gu Hk Hl HW HX HY Hm HZ I0 I8 J6 J7 J8 J9 Ja I9 Hn Ia Ho Ib Hq Hr Ic Hs Gv Id Gw G9 Ie Ig Ih Ii"
 let b1:=a++f .anonymous "Tg OO V9 Va PJ Pk Th VZ W0 LX Pp MP O9"
 let b2:=a++f .anonymous "NS if_false if_true Tg OO V9 Va Vt exists_eq_left' exists_eq_left exists_eq_right exists_and_left exists_and_right D.bl.injEq D.int.injEq D.ref.injEq D.tup.injEq PJ Pk Th VZ W0 LX Pp decide_eq_true_eq Qg and_true true_and MP O9"
 `(tactic| ((try dsimp only[$[$b1:term],*]);(try simp only[$[$b2:term],*])))
local macro_rules|`(tactic| nofun)=>`(tactic| ((first|rw[bK]|(dsimp only;rw[bK]));ac_nf))
theorem xw{t:Bool}{kvs:List (D×D)}{k d:D}(h:M a=Z (.dct t kvs))(ok:eN t k=F2)(e:dget kvs k=Z d)(q:Q d M):wIx (.ref a) k M Q:=.inr (.inl ⟨t,kvs,d,h,ok,e,q⟩)
theorem qH{t:Bool}{kvs:List (D×D)}{k v:D}{Q:Mem->Prop}(h:M a=Z (.dct t kvs))(ok:eN t k=F2)(j:kvs.length<LK)(q:Q (ag M a (.dct t (fq kvs k v)))):gc (.ref a) k v M Q:=⟨a,rfl,.inr ⟨t,kvs,h,ok,j,q⟩⟩
theorem xx{o':O}:ag (ag M a o) a o'=ag M a o':=by funext b;unfold ag;split<;>rfl
theorem xz(h:M a=Z o):ag M a o=M:=by
 funext b;unfold ag;split
 ·next e=>rw[e,h]
 ·rfl
def Ge(M M':Mem):Prop:=∀a o,M a=Z o->M' a=Z o
theorem Ge.refl:Ge M M:=λ_ _ h=>h
theorem Ge.trans(h:Ge M M')(g:Ge M' M''):Ge M M'':=λ_ _ e=>g _ _ (h _ _ e)
theorem Ge.new(h:M p=Y):Ge M (ag M p o):=λa o' e=>by rw[aC (λz=>by rw[z,h]at e;cases e)];exact e
def Box(b:Xc)(M:Mem):Prop:=∃x y z:Int,M b=Z (.lst [.int x,.int y,.int z])
structure Bx(b:Xc)(M M':Mem):Prop where
 box:Box b M'
 keep:∀a o,a≠b->M a=Z o->M' a=Z o
theorem Bx.refl(h:Box b M):Bx b M M:=⟨h,λ_ _ _ e=>e⟩
theorem Bx.trans(h:Bx b M M')(g:Bx b M' M''):Bx b M M'':=⟨g.box,λa o n e=>g.keep a o n (h.keep a o n e)⟩
theorem Bx.ge(h:Bx b M M')(g:Ge M' M''):Bx b M M'':=⟨by obtain⟨x,y,z,e⟩:=h.box;exact⟨x,y,z,g _ _ e⟩,λa o n e=>g _ _ (h.keep a o n e)⟩
theorem Bx.put{x:Int}:Bx b M (ag M b (.lst [.int x,.int y,.int z])):=⟨⟨x,y,z,ab⟩,λa o n e=>by rw[aC n];exact e⟩
theorem Bx.of(h:Box b M)(g:Ge M M'):Bx b M M':=(Bx.refl h).ge g
theorem xA{b:BT}{chk:Mem->Prop}{N:NC}(I:List D->au->Mem->List D->Prop){acc:List D}(h0:I [] ρ M acc)(z:∀l ρ M acc,I l ρ M acc->chk M)(hs:∀l x r ρ M acc,xs=l++x::r->I l ρ M acc->∃ρ',b x ρ=Z ρ'/\∀N':NC,(∀ρ2 M2 j,I (l++[x]) ρ2 M2 j->N' ρ2 M2 j)->tb ρ' M acc N')(B:∀ρ M acc,I xs ρ M acc->N ρ M acc):cD b tb chk N xs ρ M acc:=by
 have g:∀(r l:List D) (ρ:au) (M:Mem) (acc:List D),xs=l++r->I l ρ M acc->cD b tb chk N r ρ M acc:=by
  intro r
  induction r with
  |nil=>intro l ρ M acc e i;rw[Np]at e;subst e;exact⟨z _ _ _ _ i,B _ _ _ i⟩
  |cons x r ih=>intro l ρ M acc e i;obtain⟨ρ',e1,h⟩:=hs l x r ρ M acc e i;exact⟨z _ _ _ _ i,ρ',e1,h _ λρ2 M2 j F=>ih (l++[x]) ρ2 M2 j (by rw[e];simp) F⟩
 exact g xs [] ρ M acc rfl h0
section
theorem zX{i j:Nat}{gs:List D}(F:1<=n)(hi:i<1000)(z:j<1000)(e:T[i]?=Z d)(B:d.takes)(l:xs.length+1=d.np)(r:bV d.N (xs++[.ref a])=ρ)(h:wSs (dh (phi T (n-1)) a (rOf (phi T (n-1)) j gs js)) d.body {nx:=λ_ M'=>Q .non M',rt:=Q} ρ M):phi T n (1000+i) (xs++[.ref a,.int (j:Nat),.tup gs,.tup ((js:List Nat).map λi:Nat=>.int i)]) M Q:=by
 obtain⟨k,rfl⟩:∃k,n=k+1:=⟨n-1,∅⟩
 exact .inr (.inl ⟨i,d,xs,a,j,gs,js,rfl,hi,z,e,B,rfl,l,by rw[r];exact h⟩)
theorem lw(h:Φ f ds M Q)(hf:f<5000:=by decide):dh Φ a r f ds M Q:=by unfold dh;rw[if_neg ∅];exact h
theorem Ch(h:r ds M Q):dh Φ a r (5000+a) ds M Q:=by unfold dh;rw[if_pos rfl];exact h
theorem Ci{j:Nat}(B:1<=n)(z:j<3000)(h:phi T (n-1) j ds M Q):phi T n (2000+j) ds M Q:=by
 obtain⟨k,rfl⟩:∃k,n=k+1:=⟨n-1,∅⟩
 exact .inr (.inr ⟨j,rfl,z,h⟩)
end
section
variable{T:List FD}
noncomputable def ku(s:Stmt):FD:=⟨"_law_cell_at",s,["_law_script","_law_k"],2,
 (.cons (.ite (.cmp .lt (.var 1) (.blt .len (.cons (.var 0) .nil))) (.cons (.ret (.ix (.var 0) (.var 1)))
 .nil) .nil)
 (.cons (.ret (.int 0))
 .nil))⟩
theorem zY{α:Type}{xs:List α}(h0:0<=i)(h1:i<xs.length):∃x,atI xs i=Z x/\xs[i.toNat]?=Z x:=by
 have:i.toNat<xs.length:=∅
 refine⟨xs[i.toNat],?_,z0 this⟩;unfold atI ixN;simp[h0,h1,z0 this]
theorem Cj(hf:T[f]?=Z (ku s))(j:1<=n){k:Int}(h0:0<=k)(q:∀i,Q (.int i) M):phi T n f [.con (ns.map D.int),.int k] M Q:=by
 refine az j hf rfl (ρ:=[Z _,Z _]) rfl ?_;unfold ku;nofun
 split
 ·next h=>
  nofun;obtain⟨x,e,e2⟩:=zY (xs:=ns.map D.int) h0 h;rw[LQ]at e2
  cases e3:ns[k.toNat]? with
  |none=>rw[e3]at e2;cases e2
  |some y=>rw[e3]at e2;cases e2;exact⟨_,e,q y⟩
 ·nofun;exact q 0
theorem cy(h:-(2^64)<i/\i<2^64):MulOk i j:=.inl h
theorem i6(h:-(2^64)<j/\j<2^64):MulOk i j:=.inr (.inl h)
noncomputable def lD(s:Stmt):FD:=⟨"_law_mixed",s,["_law_number_here","_law_k","_law_once","_law_twice"],2,
 (.cons (.asg (.name 2) (.bin .mod (.bin .mul (.bin .add (.bin .add (.bin .mod (.var 0) (.int 1000000007)) (.bin .mul (.int 7) (.var 1))) (.int 1)) (.int 48271)) (.int 2147483647)))
 (.cons (.asg (.name 3) (.bin .mod (.bin .mul (.var 2) (.bin .add (.bin .add (.bin .mod (.var 2) (.int 1009)) (.var 1)) (.int 3))) (.int 998244353)))
 (.cons (.ret (.bin .fdiv (.bin .mod (.bin .add (.bin .mul (.var 3) (.int 39373)) (.var 2)) (.int 2147483629)) (.int 64)))
 .nil)))⟩
noncomputable def uV(s:Stmt)(fc fm:Nat):FD:=⟨"_law_box",s,["_law_script","_law_k","_law_cell"],2,
 (.cons (.asg (.name 2) (.call fc (.cons (.var 0) (.cons (.var 1) .nil))))
 (.cons (.ret (.lst (.cons (.bin .mul (.blt .abs (.cons (.var 2) .nil)) (.blt .int (.cons (.cmp .ge (.blt .abs (.cons (.var 2) .nil)) (.bin .pow (.int 10) (.int 18))) .nil))) (.cons (.call fm (.cons (.var 2) (.cons (.bin .add (.int 900) (.var 1)) .nil))) (.cons (.int 0) .nil)))))
 .nil))⟩
theorem EH{fc fm:Nat}{sc:Stmt}(hf:T[f]?=Z (uV s fc fm))(z:T[fc]?=Z (ku sc))(B:∀{x k:Int} {M:Mem} {Q:QD},(∀i,Q (.int i) M)->phi T (n-1) fm [.int x,.int k] M Q)(G:2<=n){k:Int}(h0:0<=k)(q:∀p x y,M p=Y->Q (.ref p) (ag M p (.lst [.int x,.int y,.int 0]))):phi T n f [.con (ns.map D.int),.int k] M Q:=by
 refine az ∅ hf rfl (ρ:=[Z _,Z _,Y]) rfl ?_
 unfold uV;nofun;refine Cj z ∅ h0 λi=>?_
 nofun;refine⟨by decide,by decide,by decide,i6 ?_,?_⟩
 ·split<;>lia
 refine B λj=>?_;exact⟨by rw[I7];lia,λp F=>q p _ _ F⟩
noncomputable def qI(s:Stmt)(fm:Nat):FD:=⟨"_law_take",s,["_law_box_here","_law_many","_law_found","_law_reach"],2,
 (.cons (.ite (.cmp .gt (.ix (.var 0) (.int 0)) (.int 0)) (.cons (.asg (.name 2) (.bin .mod (.ix (.var 0) (.int 0)) (.var 1)))
 (.cons (.put (.var 0) (.int 0) (.bin .fdiv (.ix (.var 0) (.int 0)) (.var 1)))
 (.cons (.ret (.var 2))
 .nil))) .nil)
 (.cons (.asg (.tup (.cons (.name 2) (.cons (.name 3) .nil))) (.tup (.cons (.int 0) (.cons (.int 1) .nil))))
 (.cons (.while (.cmp .lt (.var 3) (.var 1)) (.cons (.put (.var 0) (.int 2) (.bin .add (.ix (.var 0) (.int 2)) (.int 1)))
 (.cons (.asg (.name 2) (.bin .add (.bin .mul (.var 2) (.int 33554432)) (.call fm (.cons (.ix (.var 0) (.int 1)) (.cons (.ix (.var 0) (.int 2)) .nil)))))
 (.cons (.asg (.name 3) (.bin .mul (.var 3) (.int 33554432)))
 .nil))))
 (.cons (.ret (.bin .mod (.var 2) (.var 1)))
 .nil))))⟩
def uW(T:List FD)(n fm:Nat):Prop:=∀{x k:Int} {M:Mem} {Q:QD},(∀i,Q (.int i) M)->phi T n fm [.int x,.int k] M Q
theorem Ck{fm:Nat}(hf:T[f]?=Z (qI s fm))(J:uW T (n-1) fm)(O:2<=n){m:Int}(L:Box b M)(h1:0<m)(h2:m<=2^120)(q:∀r M',0<=r->r<m->Bx b M M'->Q (.int r) M'):phi T n f [.ref b,.int m] M Q:=by
 refine az ∅ hf rfl (ρ:=[Z _,Z _,Y,Y]) rfl ?_
 unfold qI;obtain⟨x,y,z,G⟩:=L;nofun;refine aI G (d:=.int x) rfl ?_;simp only[G2];ac_nf
 split
 ·next hx=>
  nofun;refine aI G (d:=.int x) rfl ?_;ac_nf;refine⟨h1,?_⟩;nofun;refine aI G (d:=.int x) rfl ?_;ac_nf;refine⟨h1,∅,?_⟩
  refine cK G (j:=0) rfl ?_;nofun;exact q _ _ (RW _ ∅) (QW _ h1) Bx.put
 ·next hx=>
  nofun;refine⟨by rw[I7];lia,?_⟩
  nofun;refine⟨6,?_⟩;have go:∀(f:Nat) (found reach z:Int) (M':Mem),m<=reach*33554432^f->M' b=Z (.lst [.int x,.int y,.int z])->Bx b M M'->
   aD (ef (wOp wLt (cS 3) (cS 1))) (wSs (phi T (n-1)) (MSs.cons (MS.put (ME.var 0) (ME.int 2) (ME.bin BOp.add ((ME.var 0).ix (ME.int 2)) (ME.int 1)))
    (MSs.cons (MS.asg (MG.name 2) (ME.bin BOp.add (ME.bin BOp.mul (ME.var 2) (ME.int 33554432)) (ME.call fm (MEs.cons ((ME.var 0).ix (ME.int 1)) (MEs.cons ((ME.var 0).ix (ME.int 2)) MEs.nil)))))
      (MSs.cons (MS.asg (MG.name 3) (ME.bin BOp.mul (ME.var 3) (ME.int 33554432))) MSs.nil))))
    {nx:=wSs (phi T (n-1)) (MSs.cons (MS.ret (ME.bin BOp.mod (ME.var 2) (ME.var 1))) MSs.nil) {nx:=λx M'=>Q D.non M',rt:=Q},rt:=Q} (f+1) [Z (.ref b),Z (.int m),Z (.int found),Z (.int reach)] M':=by
   intro f
   induction f with
   |zero=>
    intro found reach z M' hm F B;simp only[aD];ac_nf;rw[if_neg ∅]
    nofun;exact⟨h1,q _ _ (RW _ ∅) (QW _ h1) B⟩
   |succ f ih=>
    intro found reach z M' hm F B;rw[aD];ac_nf
    split
    ·next U=>
     nofun;refine aI F (d:=.int z) rfl ?_;ac_nf;refine cK F (j:=2) rfl ?_;nofun;refine⟨i6 (by decide),?_⟩
     refine aI ab (d:=.int y) rfl ?_;refine aI ab (d:=.int (z+1)) rfl ?_;refine J λi=>?_;ac_nf;nofun;refine⟨i6 (by decide),?_⟩
     exact ih _ _ (z+1) _ (by rw[Int.mul_assoc,<-Int.pow_succ'];exact hm) ab (B.trans Bx.put)
    ·nofun;exact⟨h1,q _ _ (RW _ ∅) (QW _ h1) B⟩
  exact go 5 0 1 z M ∅ G (Bx.refl ⟨x,y,z,G⟩)
def kw(T:List FD)(n f:Nat):Prop:=∀{b:Xc} {m:Int} {M:Mem} {Q:QD},Box b M->0<m->m<=2^120->(∀r M',0<=r->r<m->Bx b M M'->Q (.int r) M')->phi T n f [.ref b,.int m] M Q
noncomputable def ji(s:Stmt)(ft:Nat):FD:=⟨"_law_number",s,["_law_box_here","_law_way"],1,
 (.cons (.asg (.name 1) (.call ft (.cons (.var 0) (.cons (.int 9) .nil))))
 (.cons (.ite (.cmp .eq (.var 1) (.int 0)) (.cons (.ret (.bin .sub (.call ft (.cons (.var 0) (.cons (.int 2001) .nil))) (.int 1000)))
 .nil) .nil)
 (.cons (.ret (.ix (.lst (.cons (.int 0) (.cons (.int 0) (.cons (.int 0) (.cons (.int 1) (.cons (.int 1) (.cons (.int 1) (.cons (.neg (.int 1)) (.cons (.neg (.int 1)) (.cons (.int 2) .nil)))))))))) (.var 1)))
 .nil)))⟩
theorem xB(hf:T[f]?=Z (ji s ft))(j:kw T (n-1) ft)(U:1<=n)(G:Box b M)(q:∀r M',-1000<=r->r<=1000->Bx b M M'->Q (.int r) M'):phi T n f [.ref b] M Q:=by
 refine az ∅ hf rfl (ρ:=[Z _,Y]) rfl ?_
 unfold ji;nofun;refine j G (by decide) (by decide) λr Fn h0 h1 B=>?_
 nofun
 split
 ·nofun;refine j B.box (by decide) (by decide) λfv M2 h0 h1 J=>?_
  ac_nf;exact q _ _ ∅ ∅ (B.trans J)
 ·next F=>
  nofun;refine⟨by rw[I7];lia,λp L=>?_⟩
  have F:r=1∨r=2∨r=3∨r=4∨r=5∨r=6∨r=7∨r=8:=by
   have:r≠0:=λz=>F (by rw[z];rfl)
   lia
  have O:=B.ge (Ge.new (o:=.lst [.int 0,.int 0,.int 0,.int 1,.int 1,.int 1,.int (-1),.int (-1),.int 2]) L)
  rcases F with rfl|rfl|rfl|rfl|rfl|rfl|rfl|rfl<;>exact aI ab rfl (q _ _ (by decide) (by decide) O)
end
section
variable{T:List FD}
def qJ(T:List FD)(n f:Nat):Prop:=∀{b:Xc} {M:Mem} {Q:QD},Box b M->(∀r M',-1000<=r->r<=1000->Bx b M M'->Q (.int r) M')->phi T n f [.ref b] M Q
def cZ(ns:List Int):Prop:=∀x∈ns,-1000<=x/\x<=1000
theorem kx{lo:Int}:(cA lo n).length=n:=by simp[cA]
theorem aJ{α:Type}{xs l r:List α}{x:α}(e:xs=l++x::r):l.length<xs.length:=by rw[e];simp
theorem xC{α:Type}{xs l r:List α}{x:α}(e:xs=l++x::r):xs[l.length]?=Z x:=by rw[e];simp
noncomputable def qK(s:Stmt)(fn:Nat):FD:=⟨"_law_part",s,["_law_box_here","_law_length"],2,
 (.cons (.ret (.blt .tuple (.cons (.comp [Y,(Z 0)] ["_law_k","_law_box_here"] (.last (.rng1 (.var 1)) (.name 0) .nil (.call fn (.cons (.var 1) .nil)))) .nil)))
 .nil)⟩
theorem Cl{fn:Nat}(hf:T[f]?=Z (qK s fn))(B:qJ T (n-1) fn)(Fn:1<=n)(fv:L<=1000)(F:Box b M)(q:∀(ns:List Int) M',ns.length=L->cZ ns->Bx b M M'->Q (.tup (ns.map .int)) M'):phi T n f [.ref b,.int L] M Q:=by
 refine az ∅ hf rfl (ρ:=[Z _,Z _]) rfl ?_
 unfold qK;nofun;refine⟨∅,∅,?_⟩
 refine xA (I:=λl ρ M' acc=>∃(ns:List Int) (x:Option D),acc=ns.map .int/\ns.length=l.length/\cZ ns/\Bx b M M'/\ρ=[x,Z (.ref b)]) ⟨[],Y,rfl,rfl,λ_ h=>by simp at h,Bx.refl F,rfl⟩ (λ_ _ _ _ _=>trivial) ?_ ?_
 ·rintro l x r ρ M1 acc e ⟨ns,o,rfl,j,hs,z,rfl⟩;refine⟨_,rfl,λN' G=>?_⟩;ac_nf;refine B z.box λv M2 h1 h2 J=>?_;have:=aJ e;rw[kx]at this;refine⟨by rw[tv,j,I7];lia,G _ _ _ ⟨ns++[v],_,by simp,by simp[j],?_,z.trans J,rfl⟩⟩
  intro y O
  rcases LV.mp O with h|h
  ·exact hs y h
  ·simp at h;subst h;exact⟨h1,h2⟩
 ·rintro ρ M1 acc ⟨ns,o,rfl,j,hs,z,rfl⟩ p U;rw[kx]at j;refine⟨_,ns.map .int,rfl,ak ab,q ns _ ∅ hs (z.ge (Ge.new U))⟩
noncomputable abbrev Pr:=List Int×List Int×List Int
noncomputable def prD(p:Pr):D:=.tup [.tup (p.1.map .int),.tup (p.2.1.map .int),.tup (p.2.2.map .int)]
structure uX(L0 L1 L2:Nat)(p:Pr):Prop where
 l0:p.1.length=L0
 l1:p.2.1.length=L1
 l2:p.2.2.length=L2
 s0:cZ p.1
 s1:cZ p.2.1
 s2:cZ p.2.2
theorem bT{s:MS}{r:MSs}(I:au->Mem->Prop)(h1:∀R:au->Mem->Prop,(∀ρ M,I ρ M->R ρ M)->wS Φ s {E with nx:=R} ρ M)(h2:∀ρ M,I ρ M->wSs Φ r E ρ M):wSs Φ (.cons s r) E ρ M:=by rw[bK];exact h1 _ h2
theorem Bx.upd{q:Xc}(h:Bx b M M')(B:M q=Y)(j:q≠b):Bx b M (ag M' q o):=
 ⟨by obtain⟨x,y,z,e⟩:=h.box;exact⟨x,y,z,by rw[aC j.symm];exact e⟩,fun u o' nu eu=>by rw[aC (λz=>by rw[z,B]at eu;cases eu)];exact h.keep u o' nu eu⟩
theorem Bx.none{q:Xc}(h:Bx b M M')(z:M' q=Y)(j:q≠b):M q=Y:=by
 cases e:M q with
 |none=>rfl
 |some o=>rw[h.keep q o j e]at z;cases z
theorem uY{k:Nat}:(D1 k [D.int 0]).flatten=(D1 k (0:Int)).map D.int:=by
 induction k with
 |zero=>rfl
 |succ k ih=>rw[Nk,Nr,ih];rfl
def xD(T:List FD)(n f:Nat):Prop:=∀{b:Xc} {L:Nat} {M:Mem} {Q:QD},L<=1000->Box b M->(∀(ns:List Int) M',ns.length=L->cZ ns->Bx b M M'->Q (.tup (ns.map .int)) M')->phi T n f [.ref b,.int L] M Q
end
section
theorem aE{α:Type}{f:α->D}{b:BT}{chk:Mem->Prop}{N:NC}(I:List α->au->Mem->List D->Prop){ys:List α}(hx:xs=ys.map f){acc:List D}(h0:I [] ρ M acc)(z:∀l ρ M acc,I l ρ M acc->chk M)(hs:∀l x r ρ M acc,ys=l++x::r->I l ρ M acc->∃ρ',b (f x) ρ=Z ρ'/\∀N':NC,(∀ρ2 M2 j,I (l++[x]) ρ2 M2 j->N' ρ2 M2 j)->tb ρ' M acc N')(B:∀ρ M acc,I ys ρ M acc->N ρ M acc):cD b tb chk N xs ρ M acc:=by
 subst hx;have g:∀(r l:List α) (ρ:au) (M:Mem) (acc:List D),ys=l++r->I l ρ M acc->cD b tb chk N (r.map f) ρ M acc:=by
  intro r
  induction r with
  |nil=>intro l ρ M acc e i;rw[Np]at e;subst e;exact⟨z _ _ _ _ i,B _ _ _ i⟩
  |cons x r ih=>intro l ρ M acc e i;obtain⟨ρ',e1,h⟩:=hs l x r ρ M acc e i;exact⟨z _ _ _ _ i,ρ',e1,h _ λρ2 M2 j F=>ih (l++[x]) ρ2 M2 j (by rw[e];simp) F⟩
 exact g ys [] ρ M acc rfl h0
theorem bM{α:Type}{f:α->D}{b:BT}{tb:TSd}{chk:Mem->Prop}(I:List α->au->Mem->Prop){ys:List α}(hx:xs=ys.map f)(h0:I [] ρ M)(j:∀l ρ M,I l ρ M->chk M)(hs:∀l x r ρ M,ys=l++x::r->I l ρ M->∃ρ',b (f x) ρ=Z ρ'/\∀F:au->Mem->Prop,(∀ρ2 M2,I (l++[x]) ρ2 M2->F ρ2 M2)->tb {E with nx:=F,ct:=F,bk:=E.nx} ρ' M)(z:∀ρ M,I ys ρ M->E.nx ρ M):ce b tb chk E xs ρ M:=by
 subst hx;have g:∀(r l:List α) (ρ:au) (M:Mem),ys=l++r->I l ρ M->ce b tb chk E (r.map f) ρ M:=by
  intro r
  induction r with
  |nil=>intro l ρ M e i;rw[Np]at e;subst e;exact⟨j _ _ _ i,z _ _ i⟩
  |cons x r ih=>intro l ρ M e i;obtain⟨ρ',e1,h⟩:=hs l x r ρ M e i;exact⟨j _ _ _ i,ρ',e1,h _ λρ2 M2 B=>ih (l++[x]) ρ2 M2 (by rw[e];simp) B⟩
 exact g ys [] ρ M rfl h0
theorem sW{x:D}(h:aN M x=Z ds)(g:Ge M M'):aN M' x=Z ds:=by
 cases x with
 |ref a=>
  simp only[aN]at h⊢
  split at h
  ·next e=>rw[g _ _ e];exact h
  ·cases h
 |_=>exact h
theorem aY:cA 0 n=(D0 n).map λi=>D.int (i:Nat):=by simp[cA]
end
section
variable{T:List FD}
def Big(ns:List Int):Prop:=∀x∈ns,-1000000000000<=x/\x<=1000000000000
end
section
variable{T:List FD}
noncomputable def qL(x:Str)(s:Stmt):FD:=⟨"_law_mixed",s,[x,"_law_k","_law_once","_law_twice"],2,(lD s).body⟩
theorem xE(hf:T[f]?=Z (qL x s))(j:1<=n):uW T n f:=by
 intro x k M Q q;refine az j hf rfl (ρ:=[Z _,Z _,Y,Y]) rfl ?_;unfold qL lD;nofun;refine⟨by decide,cy (by decide),i6 (by decide),by decide,?_⟩
 nofun;refine⟨by decide,cy ?_,by decide,?_⟩
 ·have h1:=RW ((x%1000000007+7*k+1)*48271) (b:=2147483647) (by decide)
  have h2:=QW ((x%1000000007+7*k+1)*48271) (b:=2147483647) (by decide)
  lia
 nofun;refine⟨i6 (by decide),by decide,by decide,by decide,?_⟩
 exact q _
end
section
open L2.Srt
variable{T:List FD}
noncomputable abbrev K3:=Int×Int×Int
noncomputable abbrev Tm:=K3×Int
noncomputable def k3D(k:K3):D:=.tup [.int k.1,.int k.2.1,.int k.2.2]
noncomputable def tmD(t:Tm):D:=.tup [.int t.1.1,.int t.1.2.1,.int t.1.2.2,.int t.2]
noncomputable def kcD(t:Tm):D×D:=(k3D t.1,.int t.2)
noncomputable def k3K(k:K3):Ky:=.tup [.int k.1,.int k.2.1,.int k.2.2]
def klt(a b:K3):Prop:=ltK (k3K a) (k3K b)=F2
theorem lH{a b:K3}(h:k3D a=k3D b):a=b:=by obtain⟨a1,a2,j⟩:=a;obtain⟨z,B,F⟩:=b;simp[k3D]at h;simp[h]
theorem Cn{a b:K3}(h:k3K a=k3K b):a=b:=by obtain⟨a1,a2,j⟩:=a;obtain⟨z,B,F⟩:=b;simp[k3K]at h;simp[h]
noncomputable def cf(ts:List Tm)(k:K3):Int:=((ts.filter λt=>decide (t.1=k)).map (·.2)).sum
theorem fL{k:K3}:cf [] k=0:=rfl
theorem ba{t:Tm}{ts:List Tm}{k:K3}:cf (t::ts) k=(if t.1=k then t.2 else 0)+cf ts k:=by
 unfold cf
 by_cases h:t.1=k
 ·rw[R0 (by simpa using h),if_pos h];simp
 ·rw[R3 (by simpa using h),if_neg h];simp
theorem i7{a b:List Tm}{k:K3}:cf (a++b) k=cf a k+cf b k:=by
 induction a with
 |nil=>simp[fL]
 |cons t a ih=>rw[QA,ba,ba,ih];lia
theorem Co{a b:List Tm}(h:a.Perm b){k:K3}:cf a k=cf b k:=by
 induction h with
 |nil=>rfl
 |cons x h ih=>rw[ba,ba,ih]
 |swap x y l=>simp only[ba];lia
 |trans _ _ j z=>rw[j,z]
theorem iM{ts:List Tm}{k:K3}(h:∀t∈ts,t.1≠k):cf ts k=0:=by
 induction ts with
 |nil=>rfl
 |cons t ts ih=>rw[ba,if_neg (h t (by simp)),ih λu j=>h u (by simp[j])];rfl
theorem qM{ts:List Tm}(j:(ts.map (·.1)).Nodup){t:Tm}(B:t∈ts):cf ts t.1=t.2:=by
 induction ts with
 |nil=>simp at B
 |cons u ts ih=>
  simp only[LX,NL]at j;rw[ba]
  rcases LI.mp B with z|z
  ·subst z;rw[if_pos rfl,iM λv F e=>j.1 (by rw[<-e];exact Mn F)]
   lia
  ·rw[if_neg λe=>j.1 (by rw[e];exact Mn z),ih j.2 z];lia
theorem zZ{ts:List Tm}{B:Int}(z:0<=B)(h:∀t∈ts,-B<=t.2/\t.2<=B){k:K3}:-(ts.length*B)<=cf ts k/\cf ts k<=ts.length*B:=by
 induction ts with
 |nil=>simp[fL]
 |cons t ts ih=>
  obtain⟨h1,h2⟩:=ih λu j=>h u (by simp[j])
  obtain⟨F,G⟩:=h t (by simp)
  rw[ba,MP,QR,Int.add_mul]
  split<;>lia
noncomputable def dE(L:List Tm)(k:K3)(c:Int):List Tm:=if(L.any λp=>decide (p.1=k))=F2 then L.map λp=>if p.1=k then(p.1,p.2+c)else p else L++[(k,c)]
theorem Cp{L:List Tm}{k:K3}:dget (L.map kcD) (k3D k)=(L.find? λp=>decide (p.1=k)).map λp=>.int p.2:=by
 unfold dget
 induction L with
 |nil=>rfl
 |cons t L ih=>
  by_cases h:t.1=k
  ·rw[LX,Ri (by simp[kcD,h]),Ri (by simpa using h)];rfl
  ·rw[LX,Q4 (by simp only[decide_eq_true_eq];exactλe=>h (lH e)),Q4 (by simpa using h),ih]
theorem EI{L:List Tm}{k:K3}:((L.map kcD).any λp=>decide (p.1=k3D k))=L.any λp=>decide (p.1=k):=by
 induction L with
 |nil=>rfl
 |cons t L ih=>
  rw[LX,Oj,Oj,ih];congr 1
  by_cases h:t.1=k
  ·simp[kcD,h]
  ·rw[decide_eq_false h];exact decide_eq_false (λe=>h (lH e))
theorem Cq{L:List Tm}(j:(L.map (·.1)).Nodup){k:K3}:fq (L.map kcD) (k3D k) (.int ((((L.find? λp=>decide (p.1=k)).map (·.2)).getD 0)+c))=(dE L k c).map kcD:=by
 unfold fq dE;rw[EI]
 split
 ·next h=>
  rw[NJ,NJ];apply MV;intro t B;simp only[T2]
  by_cases e:t.1=k
  ·rw[if_pos (by rw[<-e];rfl),if_pos e]
   have:L.find? (λp=>decide (p.1=k))=Z t:=by
    clear h
    induction L with
    |nil=>simp at B
    |cons u L ih=>
     simp only[LX,NL]at j
     rcases LI.mp B with z|z
     ·subst z;rw[Ri (by simpa using e)]
     ·rw[Q4 (by simp;intro e2;exact j.1 (by rw[e2,<-e];exact Mn z))]
      exact ih j.2 z
   rw[this];rfl
  ·rw[if_neg (c:=(kcD t).1=k3D k) (λz=>e (lH z)),if_neg e]
 ·next h=>
  have:L.find? (λp=>decide (p.1=k))=Y:=by rw[Sx];intro x hx;simp only[decide_eq_true_eq];intro e;exact h (ND.mpr ⟨x,hx,by simpa using e⟩)
  rw[this];simp[kcD]
theorem nG{L:List Tm}{k:K3}:(dE L k c).map (·.1)=if(L.any λp=>decide (p.1=k))=F2 then L.map (·.1)else L.map (·.1)++[k]:=by
 unfold dE
 split
 ·rw[NJ];apply MV;intro t _;simp only[T2]
  split<;>rfl
 ·simp
theorem uZ{L:List Tm}(j:(L.map (·.1)).Nodup){k:K3}:((dE L k c).map (·.1)).Nodup:=by
 rw[nG]
 split
 ·exact j
 ·next h=>
  refine Qq.mpr ⟨j,by simp,λa B b z e=>?_⟩
  simp at z;subst z;subst e;obtain⟨t,F,e⟩:=LU.mp B;exact h (ND.mpr ⟨t,F,by simpa using e⟩)
theorem A0{L:List Tm}{k a:K3}(h:a∈(dE L k c).map (·.1)):a∈L.map (·.1)∨a=k:=by
 rw[nG]at h
 split at h
 ·exact .inl h
 ·rcases LV.mp h with z|z
  ·exact .inl z
  ·exact .inr (by simpa using z)
theorem A2{L:List Tm}{k:K3}:(dE L k c).length<=L.length+1:=by unfold dE;split<;>simp
theorem Cr{L:List Tm}(j:(L.map (·.1)).Nodup){k a:K3}:cf (dE L k c) a=cf L a+if k=a then c else 0:=by
 unfold dE
 split
 ·next h=>
  obtain⟨t,B,e⟩:=ND.mp h;have e:t.1=k:=by simpa using e
  clear h
  induction L with
  |nil=>simp at B
  |cons u L ih=>
   simp only[LX,NL]at j;rw[LX,ba,ba]
   by_cases eu:u.1=k
   ·have rest:(L.map fun p=>if p.1=k then(p.1,p.2+c)else p)=L:=by
     conv=>rhs;rw[<-List.map_id L]
     apply MV;intro p F;rw[if_neg λz=>j.1 (by rw[eu,<-z];exact Mn F)];rfl
    rw[rest,if_pos eu];dsimp only
    by_cases ea:u.1=a
    ·rw[if_pos ea,if_pos ea,if_pos (by rw[<-eu];exact ea)];lia
    ·rw[if_neg ea,if_neg ea,if_neg (by rw[<-eu];exact ea)];lia
   ·rcases LI.mp B with z|z
    ·exact absurd (by rw[<-z];exact e) eu
    ·rw[ih j.2 z,if_neg eu];lia
 ·rw[i7,ba,fL];simp
noncomputable def tset(ts:List Tm):List Tm:=ts.foldl (λL t=>dE L t.1 t.2) []
theorem dz{ts:List Tm}{t:Tm}:tset (ts++[t])=dE (tset ts) t.1 t.2:=by simp[tset]
theorem bE{α:Type}{P:List α->Prop}(h0:P [])(h1:∀l x,P l->P (l++[x]))(l:List α):P l:=by
 have:∀r:List α,P r.reverse:=by
  intro r
  induction r with
  |nil=>exact h0
  |cons x r ih=>rw[Qo];exact h1 _ _ ih
 have:=this l.reverse;rw[Qw]at this;exact this
theorem gu(ts:List Tm):((tset ts).map (·.1)).Nodup:=bE (P:=λts=>((tset ts).map (·.1)).Nodup) (by simp[tset]) (λl x ih=>by rw[dz];exact uZ ih) ts
theorem Ct(ts:List Tm)(k:K3):cf (tset ts) k=cf ts k:=bE (P:=λts=>cf (tset ts) k=cf ts k) rfl (λl x ih=>by rw[dz,Cr (gu l),ih,i7,ba,fL];lia) ts
theorem qN(ts:List Tm):(tset ts).length<=ts.length:=bE (P:=λts=>(tset ts).length<=ts.length) (by simp[tset]) (λl x ih=>by rw[dz];have:=A2 (L:=tset l) (k:=x.1) (c:=x.2);simp;lia) ts
theorem A4(ts:List Tm):∀a∈(tset ts).map (·.1),a∈ts.map (·.1):=bE (P:=λts=>∀a∈(tset ts).map (·.1),a∈ts.map (·.1)) (by simp[tset]) (λl x ih a j=>by
 rw[dz]at j;rw[Mo]
 rcases A0 j with z|z
 ·exact MJ _ (ih a z)
 ·exact Mp _ (by simp[z])) ts
structure IsTask(ts rs:List Tm):Prop where
 srt:rs.Pairwise λa b=>klt a.1 b.1
 nz:∀r∈rs,r.2≠0
 cf:∀k,cf rs k=cf ts k
 mem:∀r∈rs,r.1∈ts.map (·.1)
 len:rs.length<=ts.length
theorem Cu{a:K3}(h:klt a a):False:=by have:=qm _ _ h;unfold klt at h;rw[h]at this;cases this
theorem IsTask.nodup{ts rs:List Tm}(h:IsTask ts rs):(rs.map (·.1)).Nodup:=by rw[Nh,Nu];refine h.srt.imp ?_;intro a b j e;rw[e]at j;exact Cu j
theorem IsTask.val{ts rs:List Tm}(h:IsTask ts rs){r:Tm}(j:r∈rs):r.2=Mi.cf ts r.1:=by rw[<-h.cf,qM h.nodup j]
theorem Ga{ts:List Tm}{k:K3}:Mi.cf (ts.filter λt=>!(t.2==0)) k=Mi.cf ts k:=by
 induction ts with
 |nil=>rfl
 |cons t ts ih=>
  rw[ba]
  by_cases h:t.2=0
  ·rw[R3 (by simp[h]),ih,h];split<;>lia
  ·rw[R0 (by simp[h]),ba,ih]
theorem Ge.upd{j:Mem}{d:Xc}(g:Ge M j)(hd:M d=Y):Ge M (ag j d o):=λa o' e=>by rw[aC (λz=>by rw[z,hd]at e;cases e)];exact g _ _ e
noncomputable def i8(s:Stmt):FD:=⟨"task_of",s,["left","right","many","terms","sums","k","i","j","c"],4,
 (.cons (.asg (.name 4) (.dnew F2))
 (.cons (.for (.tup (.cons (.name 5) (.cons (.name 6) (.cons (.name 7) (.cons (.name 8) .nil))))) (.seq (.var 3)) (.cons (.put (.var 4) (.tup (.cons (.var 5) (.cons (.var 6) (.cons (.var 7) .nil)))) (.bin .add (.dget (.var 4) (.tup (.cons (.var 5) (.cons (.var 6) (.cons (.var 7) .nil)))) (.int 0)) (.var 8)))
 .nil))
 (.cons (.ret (.tup (.cons (.var 0) (.cons (.var 1) (.cons (.var 2) (.cons (.comp [Y,Y,Y,Y] ["k","i","j","c"] (.last (.seq (.sortI (.var 4))) (.tup (.cons (.tup (.cons (.name 0) (.cons (.name 1) (.cons (.name 2) .nil)))) (.cons (.name 3) .nil))) (.cons (.cmp .ne (.var 3) (.int 0)) .nil) (.tup (.cons (.var 0) (.cons (.var 1) (.cons (.var 2) (.cons (.var 3) .nil))))))) .nil))))))
 .nil)))⟩
theorem Cv(hf:T[f]?=Z (i8 s))(hn:1<=n){L R N x:D}{ts:List Tm}(hx:aN M x=Z (ts.map tmD))(hl:ts.length<=100000)(q:∀(rs:List Tm) p M',IsTask ts rs->Ge M M'->M p=Y->M' p=Z (.lst (rs.map tmD))->Q (.tup [L,R,N,.ref p]) M'):phi T n f [L,R,N,x] M Q:=by
 refine az ∅ hf rfl (ρ:=[Z _,Z _,Z _,Z _,Y,Y,Y,Y,Y]) rfl ?_
 unfold i8;nofun;intro d hd;nofun;have g0:=Ge.new (o:=.dct F2 []) hd;refine⟨_,sW hx g0,?_⟩;refine bM (I:=λl ρ M'=>∃Fn fv o7 o8,ρ=[Z L,Z R,Z N,Z x,Z (.ref d),Fn,fv,o7,o8]/\Ge M M'/\M' d=Z (.dct F2 ((tset l).map kcD))) rfl ⟨_,_,_,_,rfl,g0,ab⟩ (λl ρ M' g9=>(by obtain⟨_,_,_,_,_,g,_⟩:=g9;exact sW hx g)) ?_ ?_
 ·rintro l t r ρ M1 e ⟨Fn,fv,o7,o8,rfl,g1,B⟩;refine⟨_,rfl,λF hF=>?_⟩;have Jm:=aJ e;have Jp:=qN l;rw[bK];ac_nf;refine⟨⟨_,_,B⟩,by rw[I7];lia,_,_,B,rfl,?_⟩
  have ek:D.tup [D.int t.1.1,D.int t.1.2.1,D.int t.1.2.2]=k3D t.1:=rfl;rw[ek,Cp];have eg:((Option.map (λp:Tm=>D.int p.2) ((tset l).find? λp=>decide (p.1=t.1))).getD (.int 0))=.int (((((tset l).find? λp=>decide (p.1=t.1)).map (·.2)).getD 0)):=by cases(tset l).find? λp=>decide (p.1=t.1)<;>rfl
  rw[eg];ac_nf;refine⟨by rw[I7];lia,qH B rfl (by rw[tv,I7];lia) ?_⟩
  rw[Cq (gu l)];refine hF _ _ ⟨_,_,_,_,rfl,g1.upd hd,?_⟩;rw[ab,dz]
 ·rintro ρ M1 ⟨Fn,fv,o7,o8,rfl,g1,B⟩;dsimp only;nofun;refine⟨_,_,B,.tup [.tup [.int,.int,.int],.int],rfl,λkv Jn=>?_,λp ys hp z j=>?_⟩
  ·obtain⟨t,_,rfl⟩:=LU.mp Jn;rfl
  rw[NJ]at z;obtain⟨L',O,p2⟩:=eU (λt:Tm=>kvD (kcD t)) z rfl;have G:(L'.map (·.1)).Nodup:=(O.map (·.1)).nodup_iff.mpr (gu ts);have Jo:L'.Pairwise λa b=>klt a.1 b.1:=by
   rw[<-p2]at j;unfold gh at j;rw[Nu]at j;rw[Nh,Nu]at G;refine(j.and G).imp ?_;rintro a b ⟨h1,h2⟩;unfold klt
   cases e1:ltK (k3K a.1) (k3K b.1)with
   |true=>rfl
   |false=>
    exfalso
    cases e2:ltK (k3K b.1) (k3K a.1)with
    |false=>exact h2 (Cn (n8 _ _ e1 e2))
    |true=>
     have:ltK (kyD (kvD (kcD b))) (kyD (kvD (kcD a)))=F2:=by
      show ltK (.tup [k3K b.1,.int b.2]) (.tup [k3K a.1,.int a.2])=F2;unfold ltK at e2⊢;have e2:aw (k3K b.1) (k3K a.1)=.lt:=by simpa using e2
      simp only[aw,cmpKs];rw[e2];rfl
     rw[this]at h1;cases h1
  have g2:=g1.trans (Ge.new (o:=.lst ys) hp);subst p2;refine⟨_,ak ab,?_⟩;have Jq:L'.length<=ts.length:=by rw[O.length_eq];exact qN ts
  refine aE (f:=λt:Tm=>kvD (kcD t)) (I:=λl ρ M' acc=>(∃o0 o1 o2 o3,ρ=[o0,o1,o2,o3])/\M'=ag M1 p (.lst (L'.map λt=>kvD (kcD t)))/\acc=(l.filter λt=>!(t.2==0)).map tmD) rfl ⟨⟨_,_,_,_,rfl⟩,rfl,rfl⟩ (λ_ _ _ _ hI=>by rw[hI.2.1];exact ak ab) ?_ ?_
  ·rintro l t r ρ M2 acc e ⟨⟨o0,o1,o2,o3,rfl⟩,rfl,rfl⟩;refine⟨_,rfl,λN' hN=>?_⟩;have Jm:=aJ e;have Jr:(l.filter λt=>!(t.2==0)).length<=l.length:=Qm _ _;ac_nf;simp only[show(kcD t).2=D.int t.2 from rfl];ac_nf
   by_cases U:t.2=0
   ·rw[if_neg (by simp[U])]
    exact hN _ _ _ ⟨⟨_,_,_,_,rfl⟩,rfl,by simp[Q7,U]⟩
   ·rw[if_pos (by simp[U])]
    refine⟨by rw[I7];lia,by rw[tv,I7];lia,hN _ _ _ ⟨⟨_,_,_,_,rfl⟩,rfl,?_⟩⟩
    simp[Q7,U,tmD]
  ·rintro ρ M2 acc ⟨_,rfl,rfl⟩ p2 hp2;refine⟨by rw[I7];lia,?_⟩
   have J:M p2=Y:=by
    cases hq:M p2 with
    |none=>rfl
    |some o=>rw[g2 _ _ hq]at hp2;cases hp2
   refine q (L'.filter λt=>!(t.2==0)) p2 _ ⟨Jo.sublist List.filter_sublist,λr hr=>by simpa using(OP.mp hr).2,λk=>?_,λr hr=>?_,?_⟩ (g2.trans (Ge.new hp2)) J ab
   ·rw[Ga,Co O,Ct]
   ·have:=(OP.mp hr).1;exact A4 ts _ (Mn (O.mem_iff.mp this))
   ·have:=Qm (λt:Tm=>!(t.2==0)) L';lia
end
section
open L2.Srt
variable{T:List FD}
noncomputable def gi(l:List Int)(i:Int):Int:=l.getD i.toNat 0
structure InB(rs:List Tm)(la lb N:Nat):Prop where
 k:∀r∈rs,0<=r.1.1/\r.1.1<N
 i:∀r∈rs,0<=r.1.2.1/\r.1.2.1<la
 j:∀r∈rs,0<=r.1.2.2/\r.1.2.2<lb
 c:∀r∈rs,-(2^64)<r.2/\r.2<2^64
end
section
open L2.Srt
theorem sX{α:Type}{lt:α->α->Prop}(as:∀a b,lt a b->lt b a->False):∀{l m:List α},l.Pairwise lt->m.Pairwise lt->(∀x,x∈l↔x∈m)->l=m
 |[],[],_,_,_=>rfl
 |[],y::m,_,_,h=>by have:=(h y).mpr (by simp);simp at this
 |x::l,[],_,_,h=>by have:=(h x).mp (by simp);simp at this
 |x::l,y::m,B,hm,h=>by
  rw[QV]at B hm;have e:x=y:=by
   rcases LI.mp ((h x).mp (by simp))with z|z
   ·exact z
   ·rcases LI.mp ((h y).mpr (by simp))with w|w
    ·exact w.symm
    ·exact(as _ _ (hm.1 _ z) (B.1 _ w)).elim
  subst e;rw[sX as B.2 hm.2 λz=>?_];constructor
  ·intro j
   rcases LI.mp ((h z).mp (by simp[j]))with w|w
   ·subst w;exact(as _ _ (B.1 _ j) (B.1 _ j)).elim
   ·exact w
  ·intro j
   rcases LI.mp ((h z).mpr (by simp[j]))with w|w
   ·subst w;exact(as _ _ (hm.1 _ j) (hm.1 _ j)).elim
   ·exact w
end
section
open L2.Srt
variable{T:List FD}
noncomputable def aj(n:Nat)(F:Nat->Int):Int:=((D0 n).map F).sum
theorem al(h:∀i,i<n->F i=G i):aj n F=aj n G:=by unfold aj;rw[MV λi hi=>h i (MY.mp hi)]
theorem rsum_succ:aj (n+1) F=aj n F+F n:=by unfold aj;rw[Qi];simp
theorem nH:aj (n+1) F=F 0+aj n λi=>F (i+1):=by unfold aj;rw[List.range_succ_eq_map,LX,T3,NJ];rfl
theorem di:aj n (λi=>F i+G i)=aj n F+aj n G:=by
 induction n with
 |zero=>rfl
 |succ n ih=>rw[rsum_succ,rsum_succ,rsum_succ,ih];lia
theorem cj{t:Int}:aj n (λi=>t*F i)=t*aj n F:=by
 induction n with
 |zero=>simp[aj]
 |succ n ih=>rw[rsum_succ,rsum_succ,ih,Int.mul_add]
theorem aS(h:∀i,i<n->F i=0):aj n F=0:=by
 induction n with
 |zero=>rfl
 |succ n ih=>rw[rsum_succ,ih λi hi=>h i ∅,h n ∅];rfl
noncomputable def eX(n m:Nat)(g:Nat->Nat->Tm):List Tm:=(D0 n).flatMap λi=>(D0 m).map (g i)
noncomputable def cF(i j:Nat):Tm:=(((i+j:Nat),(i:Int),(j:Int)),1)
noncomputable def bh(n m:Nat):List Tm:=eX n m cF
end
section
open L2.Srt
variable{T:List FD}
noncomputable def ky(s:Stmt)(ft:Nat):FD:=⟨"line_task",s,["n","m","terms"],2,
 (.cons (.asg (.name 2) (.comp [Y,Y,(Z 1)] ["i","j","m"] (.more (.rng1 (.var 0)) (.name 0) .nil (.last (.rng1 (.var 2)) (.name 1) .nil (.tup (.cons (.bin .add (.var 0) (.var 1)) (.cons (.var 0) (.cons (.var 1) (.cons (.int 1) .nil)))))))))
 (.cons (.ret (.call ft (.cons (.var 0) (.cons (.var 1) (.cons (.bin .sub (.bin .add (.var 0) (.var 1)) (.int 1)) (.cons (.var 2) .nil))))))
 .nil))⟩
theorem qO{g:Nat->Nat->Tm}:(eX n m g).length=n*m:=by
 unfold eX;rw[List.length_flatMap]
 induction n with
 |zero=>simp
 |succ n ih=>rw[Qi,Mo,QS,ih,PZ];simp
theorem xF{l:List Nat}{i:Nat}{G:Nat->List Tm}:(l++[i]).flatMap G=l.flatMap G++G i:=by simp
theorem A5{l:List Nat}{g:Nat->Nat->Tm}:(l.flatMap λi=>(D0 m).map (g i)).length=l.length*m:=by
 induction l with
 |nil=>simp
 |cons i l ih=>rw[Ox,J4,ih,MP,PZ];simp;lia
theorem Cw{s':Stmt}(hf:T[f]?=Z (ky s ft))(L:T[ft]?=Z (i8 s')){k:Nat}(Fn:2<=k)(O:n<=100)(hm:m<=100)(q:∀(rs:List Tm) p M',IsTask (bh n m) rs->Ge M M'->M p=Y->M' p=Z (.lst (rs.map tmD))->Q (.tup [.int n,.int m,.int (n+m-1),.ref p]) M'):phi T k f [.int n,.int m] M Q:=by
 refine az ∅ hf rfl (ρ:=[Z _,Z _,Y]) rfl ?_
 unfold ky;nofun;refine⟨∅,∅,?_⟩
 refine aE (f:=λi=>D.int (i:Nat)) (I:=λl ρ M' acc=>(∃o0 z,ρ=[o0,z,Z (.int m)])/\M'=M/\acc=(l.flatMap λi=>(D0 m).map (cF i)).map tmD) aY ⟨⟨_,_,rfl⟩,rfl,rfl⟩ (λ_ _ _ _ _=>trivial) ?_ ?_
 ·rintro l i r ρ M1 acc e ⟨⟨o0,z,rfl⟩,rfl,rfl⟩;refine⟨_,rfl,λN' U=>?_⟩;have G:=aJ e;rw[Mx]at G;ac_nf;refine⟨∅,∅,?_⟩
  refine aE (f:=λi=>D.int (i:Nat)) (I:=λl' ρ M' acc=>(∃z,ρ=[Z (.int i),z,Z (.int m)])/\M'=M1/\acc=((l.flatMap λi=>(D0 m).map (cF i))++l'.map (cF i)).map tmD) aY ⟨⟨_,rfl⟩,rfl,by simp⟩ (λ_ _ _ _ _=>trivial) ?_ ?_
  ·rintro l' j r' ρ M2 acc e' ⟨⟨z,rfl⟩,rfl,rfl⟩;refine⟨_,rfl,λfv J=>?_⟩;have B:=aJ e';rw[Mx]at B;have hmul:l.length*m<=100*100:=NU ∅ ∅
   ac_nf;refine⟨by rw[I7];lia,by rw[tv,J4,A5,tv,I7];lia,J _ _ _ ⟨⟨_,rfl⟩,rfl,?_⟩⟩
   simp[tmD,cF]
  ·rintro ρ M2 acc ⟨⟨z,rfl⟩,rfl,rfl⟩;refine U _ _ _ ⟨⟨_,_,rfl⟩,rfl,?_⟩;rw[xF];simp
 ·rintro ρ M1 acc ⟨_,rfl,rfl⟩ p hp;have eL:((D0 (n:Int).toNat).flatMap λi=>(D0 m).map (cF i))=bh n m:=by rw[LO];rfl
  rw[eL];have hl:(bh n m).length<=100*100:=by unfold bh;rw[qO];exact NU O hm
  nofun;refine Cv L ∅ (ak ab) ∅ λrs p2 M2 h1 g F e2=>?_
  have g1:=Ge.new (o:=.lst ((bh n m).map tmD)) hp;refine q rs p2 M2 h1 (g1.trans g) ?_ e2
  cases hq:M1 p2 with
  |none=>rfl
  |some o=>rw[g1 _ _ hq]at F;cases F
end
section
open L2.Srt
theorem v6{g:Nat->Nat->Tm}(B:∀i j,(g i j).1.2=((i:Int),(j:Int))):((eX n m g).map (·.1)).Nodup:=by
 unfold eX;rw[W1,Nh,U8];refine⟨λi _=>?_,?_⟩
 ·rw[NJ,Nu];refine(Nh.mp W2).imp ?_;intro a b z e;have h:=congrArg (λk:K3=>k.2.2) e;simp only[T2,B]at h;lia
 ·refine(Nh.mp W2).imp ?_;intro a b z x hx y F e;rw[NJ]at hx F;obtain⟨u,_,rfl⟩:=LU.mp hx;obtain⟨v,_,rfl⟩:=LU.mp F;have h:=congrArg (λk:K3=>k.2.1) e;simp only[T2,B]at h;lia
theorem A6{g:Nat->Nat->Tm}{t:Tm}(h:t∈eX n m g):∃i j,i<n/\j<m/\t=g i j:=by obtain⟨i,hi,h⟩:=P2.mp h;obtain⟨j,z,rfl⟩:=LU.mp h;exact⟨i,j,MY.mp hi,MY.mp z,rfl⟩
theorem IsTask.sub{ts rs:List Tm}(h:IsTask ts rs)(B:(ts.map (·.1)).Nodup){r:Tm}(j:r∈rs):r∈ts:=by obtain⟨u,z,e⟩:=LU.mp (h.mem r j);have:=h.val j;rw[<-e,qM B z]at this;have e2:u=r:=Vh e this.symm;rw[<-e2];exact z
theorem kz:((bh n m).map (·.1)).Nodup:=v6 λ_ _=>rfl
theorem Cy{rs:List Tm}(h:IsTask (bh n m) rs)(B:1<=n):InB rs n m (n+m-1):=by
 have key:∀r∈rs,(0<=r.1.1/\r.1.1<(n+m-1:Nat))/\(0<=r.1.2.1/\r.1.2.1<n)/\(0<=r.1.2.2/\r.1.2.2<m)/\(-(2^64)<r.2/\r.2<2^64):=λr z=>by obtain⟨i,j,hi,F,rfl⟩:=A6 (h.sub kz z);unfold cF;dsimp only;exact⟨∅,∅,∅,by decide⟩
 exact⟨λr z=>(key r z).1,λr z=>(key r z).2.1,λr z=>(key r z).2.2.1,λr z=>(key r z).2.2.2⟩
end
section
open L2.Srt
variable{T:List FD}
theorem dA{F:Nat->Nat->Int}:aj n (λi=>aj m λj=>F i j)=aj m λj=>aj n λi=>F i j:=by
 induction n with
 |zero=>exact(aS λ_ _=>rfl).symm
 |succ n ih=>rw[rsum_succ,ih,<-di];exact al λj _=>rsum_succ.symm
theorem eY{k:Nat}(h:k<n):aj n (λi=>if k=i then F i else 0)=F k:=by
 induction n with
 |zero=>lia
 |succ n ih=>
  rw[rsum_succ]
  by_cases e:k=n
  ·subst e;rw[if_pos rfl,aS λi hi=>if_neg ∅];lia
  ·rw[if_neg e,ih ∅];lia
theorem i9{t:Int}:aj n (λi=>F i*t)=aj n F*t:=by rw[TL,<-cj];exact al λi _=>TL _ _
theorem A7{C:Nat}(h:∀i,i<n->(F i).natAbs<=C):(aj n F).natAbs<=n*C:=by
 induction n with
 |zero=>simp[aj]
 |succ n ih=>rw[rsum_succ,PZ];exact NG (Int.natAbs_add_le _ _) (Nat.add_le_add (ih λi hi=>h i ∅) (h n ∅))
end
section
open L2.Srt
noncomputable def v7(a:List Int)(m i:Nat):List Int:=(D0 m).map λt=>gi a ((i*m+t:Nat):Int)
theorem EJ{a:List Int}{i:Nat}(h:i<a.length):a[i]?=Z (gi a (i:Nat)):=by unfold gi;rw[LL,LO,z0 h];rfl
theorem Cz{a:List Int}{i:Nat}(j:a.length=n*m)(hi:i<n):cc (a.map D.int) (Z ((i*m:Nat):Int)) (Z ((i*m+m:Nat):Int))=(v7 a m i).map D.int:=by
 have hle:i*m+m<=n*m:=by rw[<-PZ];exact Oi m hi
 unfold cc;simp only[HT.sIx];rw[if_neg ∅,if_neg ∅,tv,LO,LO,Nz ∅,Nz ∅]
 unfold v7;apply Ov;intro t
 by_cases h:t<m
 ·rw[O8 ∅,Q5,LQ,EJ ∅,LQ,LQ,MD h];rfl
 ·rw[Ni (by simp;lia),Ni (by simp;lia)]
end
section
open L2.Srt
variable{T:List FD}
noncomputable def idx(l:List Int):List (Int×Int):=l.mapIdx λi x=>((i:Nat),x)
noncomputable def nz(l:List Int):List (Int×Int):=(idx l).filter λq=>!(q.2==0)
noncomputable def pD(q:Int×Int):D:=.tup [.int q.1,.int q.2]
theorem CA:(idx l).length=l.length:=by simp[idx]
theorem A8:fZ (l.map .int)=(idx l).map pD:=by
 unfold fZ idx;apply Ov;intro j;simp only[Um,LQ]
 cases l[j]?<;>rfl
end
section
open L2.Srt
noncomputable def S1(zs:List (Int×Int))(k:Int):Int:=(zs.map λz=>if z.1=k then z.2 else 0).sum
theorem sY{z:Int×Int}{k:Int}:S1 (z::zs) k=(if z.1=k then z.2 else 0)+S1 zs k:=by simp[S1]
noncomputable def gz(l:List Int)(i:Int):Int:=if i<0 then 0 else l.getD i.toNat 0
theorem xG(h:i<0):gz l i=0:=if_pos h
theorem xH:gz [] i=0:=by unfold gz;split<;>simp
theorem dj{x:Int}:gz (x::l) i=if i=0 then x else gz l (i-1):=by
 unfold gz
 by_cases h:i<0
 ·rw[if_pos h,if_neg ∅,if_pos ∅]
 ·rw[if_neg h]
  by_cases h0:i=0
  ·subst h0;simp
  ·rw[if_neg h0,if_neg ∅]
   obtain⟨n,rfl⟩:∃n:Nat,i=((n+1:Nat):Int):=⟨(i-1).toNat,∅⟩
   rw[show(((n+1:Nat):Int)-1).toNat=n by lia,LO]
   simp
theorem nI{a b:List Int}:∀{i:Int},gz (a++b) i=if i<a.length then gz a i else gz b (i-a.length):=by
 induction a with
 |nil=>
  intro i
  by_cases h:i<0
  ·rw[if_pos (by simpa using h),QO,xG h,xG h]
  ·rw[if_neg (by simpa using h)];simp
 |cons x a ih=>
  intro i;rw[QA,dj,dj,ih,MP]
  by_cases h0:i=0
  ·subst h0;rw[if_pos rfl,if_pos rfl,if_pos ∅]
  ·rw[if_neg h0,if_neg h0]
   by_cases h:i<((a.length+1:Nat):Int)
   ·rw[if_pos ∅,if_pos h]
   ·rw[if_neg ∅,if_neg h]
    congr 1;lia
theorem xI{x:Int}:∀{b:List Int} {i:Int},gz (b.map (x * ·)) i=x*gz b i
 |[],i=>by rw[Pp,xH];simp
 |y::b,i=>by rw[LX,dj,dj,xI];split<;>rfl
theorem eI(h:gz l i≠0):0<=i/\i<l.length:=by
 unfold gz at h
 by_cases hi:i<0
 ·rw[if_pos hi]at h;exact absurd rfl h
 ·rw[if_neg hi]at h;refine⟨∅,?_⟩
  by_cases hl:i.toNat<l.length
  ·lia
  ·rw[LL,Ni ∅]at h;exact absurd rfl h
theorem xJ{a b:List (Int×Int)}{k:Int}:S1 (a++b) k=S1 a k+S1 b k:=by simp[S1]
noncomputable def Tn(ps:List Pr)(k i j:Int):Int:=(ps.map λp=>gz p.1 i*gz p.2.1 j*gz p.2.2 k).sum
theorem eZ{a b:List Pr}{k:Int}:Tn (a++b) k i j=Tn a k i j+Tn b k i j:=by simp[Tn]
theorem dl{p:Pr}{a:List Pr}{k:Int}:Tn (p::a) k i j=gz p.1 i*gz p.2.1 j*gz p.2.2 k+Tn a k i j:=by simp[Tn]
theorem xK{L0 L1 L2:Nat}{k i j:Int}:∀{us:List Pr},(∀u∈us,u.1.length=L0/\u.2.1.length=L1/\u.2.2.length=L2)->Tn us k i j≠0->(0<=k/\k<L2)/\(0<=i/\i<L0)/\(0<=j/\j<L1)
 |[],_,h=>absurd (by simp[Tn]) h
 |u::us,B,h=>by
  obtain⟨e0,e1,e2⟩:=B u (by simp)
  rw[dl]at h
  by_cases z:gz u.1 i*gz u.2.1 j*gz u.2.2 k=0
  ·rw[z,Int.zero_add]at h;exact xK (λv F=>B v (by simp[F])) h
  ·have a1:gz u.1 i≠0:=λe=>z (by rw[e];simp)
   have a2:gz u.2.1 j≠0:=λe=>z (by rw[e];simp)
   have G:gz u.2.2 k≠0:=λe=>z (by rw[e];simp)
   have:=eI a1;have:=eI a2;have:=eI G;lia
end
section
open L2.Srt
variable{T:List FD}
noncomputable def one(L:Nat)(k:Int):List Int:=(D0 L).map λh=>if((h:Nat):Int)=k then 1 else 0
theorem fM{k:Int}:(one L k).length=L:=by simp[one]
theorem ic{k:Int}(h0:0<=k)(h1:k<L):gz (one L k) i=if i=k then 1 else 0:=by
 unfold gz one
 by_cases hi:i<0
 ·rw[if_pos hi,if_neg ∅]
 ·rw[if_neg hi,LL,LQ]
  by_cases hl:i.toNat<L
  ·rw[MD hl];simp only[Pk,Option.getD_some]
   by_cases e:i=k
   ·rw[if_pos ∅,if_pos e]
   ·rw[if_neg ∅,if_neg e]
  ·rw[Ni (by simp;lia),if_neg ∅];rfl
end
section
open L2.Srt
noncomputable def tm(p:Pr)(k i j:Int):Int:=gz p.1 i*gz p.2.1 j*gz p.2.2 k
theorem v8{p:Pr}{a:List Pr}{k:Int}:Tn (p::a) k i j=tm p k i j+Tn a k i j:=dl
theorem EK{ps:List Pr}{p:Pr}{k:Int}:Tn (ps.take n++p::ps.drop n) k i j=Tn ps k i j+tm p k i j:=by
 have e:Tn ps k i j=Tn (ps.take n) k i j+Tn (ps.drop n) k i j:=by rw[<-eZ,NQ]
 rw[eZ,v8,e];lia
end
section
open L2.Srt
variable{T:List FD}
def Within(B:Int)(l:List Int):Prop:=∀x∈l,-B<=x/\x<=B
structure Dr(B:Int)(L0 L1 L2:Nat)(p:Pr):Prop where
 l0:p.1.length=L0
 l1:p.2.1.length=L1
 l2:p.2.2.length=L2
 e0:Within B p.1
 e1:Within B p.2.1
 e2:Within B p.2.2
end
section
open L2.Srt
variable{T:List FD}
theorem qP{k:Int}:Within 1 (one L k):=λx hx=>by
 unfold one at hx;obtain⟨h,_,rfl⟩:=LU.mp hx
 split<;>lia
end
section
open L2.Srt
theorem eJ{i:Nat}(h:i<n):gz ((D0 n).map F) (i:Nat)=F i:=by unfold gz;rw[if_neg ∅,LO,LL,LQ,MD h];rfl
end
section
open L2.Srt
variable{T:List FD}
noncomputable def lJ(n i:Nat):List Int:=(D0 (2*n-1)).map λk=>if k=2*i then 1 else if i<=k/\k<i+n then -1 else 0
noncomputable def bY(n i j:Nat):List Int:=(D0 n).map λh=>if h=i∨h=j then 1 else 0
noncomputable def ppI(n i:Nat):List Pr:=(one n (i:Nat),one n (i:Nat),lJ n i)::(D0 i).map λj=>(bY n i j,bY n i j,one (2*n-1) ((i+j:Nat):Int))
noncomputable def pp(n:Nat):List Pr:=(D0 n).flatMap (ppI n)
theorem sZ{G:Nat->List Pr}{k i j:Int}:∀l:List Nat,Tn (l.flatMap G) k i j=(l.map λx=>Tn (G x) k i j).sum
 |[]=>rfl
 |x::l=>by rw[Ox,eZ,sZ l];simp
theorem CB{G:Nat->Pr}{k:Int}:Tn ((D0 n).map G) k i j=aj n λx=>tm (G x) k i j:=by unfold Tn aj;rw[NJ];rfl
theorem dY{k:Nat}:aj n (λi=>if k=i then v else 0)=if k<n then v else 0:=by
 by_cases h:k<n
 ·rw[if_pos h,eY (F:=λ_=>v) h]
 ·rw[if_neg h];exact aS λi hi=>if_neg ∅
theorem EL{i a b:Nat}{o:List Int}{k:Int}(hi:i<n):tm (one n (i:Nat),one n (i:Nat),o) k (a:Nat) (b:Nat)=if a=i/\b=i then gz o k else 0:=by
 unfold tm;dsimp only;rw[ic ∅ ∅,ic ∅ ∅]
 by_cases h1:a=i
 ·by_cases h2:b=i
  ·rw[if_pos ∅,if_pos ∅,if_pos ⟨h1,h2⟩];lia
  ·rw[if_pos (show(a:Int)=(i:Int) by lia),if_neg (show ¬(b:Int)=(i:Int) by lia),if_neg (show ¬(a=i/\b=i) by lia)];lia
 ·rw[if_neg (show ¬(a:Int)=(i:Int) by lia),if_neg (show ¬(a=i/\b=i) by lia)];simp
theorem CC{i j a b k:Nat}(hi:i<n)(J:j<i)(F:a<n)(G:b<n):tm (bY n i j,bY n i j,one (2*n-1) ((i+j:Nat):Int)) (k:Nat) (a:Nat) (b:Nat)=if((a=i∨a=j)/\(b=i∨b=j))/\k=i+j then 1 else 0:=by
 unfold tm bY;dsimp only;rw[eJ F,eJ G,ic ∅ ∅]
 by_cases h1:a=i∨a=j
 ·by_cases h2:b=i∨b=j
  ·by_cases B:k=i+j
   ·rw[if_pos h1,if_pos h2,if_pos ∅,if_pos ⟨⟨h1,h2⟩,B⟩];rfl
   ·rw[if_pos h1,if_pos h2,if_neg ∅,if_neg (λz=>B z.2)];rfl
  ·rw[if_neg h2,if_neg (show ¬(((a=i∨a=j)/\(b=i∨b=j))/\k=i+j) fromλz=>h2 z.1.2)];simp
 ·rw[if_neg h1,if_neg (show ¬(((a=i∨a=j)/\(b=i∨b=j))/\k=i+j) fromλz=>h1 z.1.1)];simp
theorem Gb{a b k:Nat}(L:a<n)(O:b<n)(U:k<2*n-1):Tn (pp n) (k:Nat) (a:Nat) (b:Nat)=if k=a+b then 1 else 0:=by
 unfold pp;rw[sZ];show aj n (λi=>Tn (ppI n i) _ _ _)=_;have Fn:∀i,i<n->Tn (ppI n i) (k:Nat) (a:Nat) (b:Nat)=(if a=i/\b=i then(if k=2*i then 1 else if i<=k/\k<i+n then -1 else 0)else 0)+aj i λj=>if((a=i∨a=j)/\(b=i∨b=j))/\k=i+j then 1 else 0:=λi hi=>by unfold ppI;rw[v8,EL hi,CB];unfold lJ;rw[eJ U];congr 1;exact al λj F=>CC hi F L O
 rw[al Fn]
 by_cases hab:a=b
 ·subst hab;have h1:∀i,i<n->((if a=i/\a=i then(if k=2*i then 1 else if i<=k/\k<i+n then -1 else 0)else 0)+aj i fun j=>if((a=i∨a=j)/\(a=i∨a=j))/\k=i+j then(1:Int)else 0)=(if a=i then((if k=2*a then 1 else if a<=k/\k<a+n then -1 else 0)+if a<=k/\k<2*a then 1 else 0)else 0)+if k-a=i then(if a<k-a/\a<=k then 1 else 0)else 0:=fun i hi=>by
   by_cases e:a=i
   ·subst e;rw[if_pos ⟨rfl,rfl⟩,if_pos rfl];have e1:(aj a fun j=>if((a=a∨a=j)/\(a=a∨a=j))/\k=a+j then(1:Int)else 0)=if a<=k/\k<2*a then 1 else 0:=by
     by_cases h:a<=k
     ·have:∀j,j<a->(if((a=a∨a=j)/\(a=a∨a=j))/\k=a+j then(1:Int)else 0)=if k-a=j then 1 else 0:=fun j F=>by
       by_cases z:k=a+j
       ·rw[if_pos ⟨⟨.inl rfl,.inl rfl⟩,z⟩,if_pos ∅]
       ·rw[if_neg (λw=>z w.2),if_neg ∅]
      rw[al this,dY]
      by_cases h2:k<2*a
      ·rw[if_pos ∅,if_pos ⟨h,h2⟩]
      ·rw[if_neg ∅,if_neg (λw=>h2 w.2)]
     ·rw[if_neg (λw=>h w.1)];exact aS λj F=>if_neg (λw=>h ∅)
    rw[e1];have e2:(if k-a=a then(if a<k-a/\a<=k then(1:Int)else 0)else 0)=0:=by
     by_cases h:k-a=a
     ·rw[if_pos h,if_neg ∅]
     ·rw[if_neg h]
    rw[e2];lia
   ·rw[if_neg (fun w=>e w.1),if_neg e];have e1:∀j,j<i->(if((a=i∨a=j)/\(a=i∨a=j))/\k=i+j then(1:Int)else 0)=if a=j then(if k=i+a then 1 else 0)else 0:=fun j F=>by
     by_cases z:a=j
     ·subst z;rw[if_pos rfl]
      by_cases B:k=i+a
      ·rw[if_pos ⟨⟨.inr rfl,.inr rfl⟩,B⟩,if_pos B]
      ·rw[if_neg (λw=>B w.2),if_neg B]
     ·rw[if_neg z,if_neg (λw=>∅)]
    rw[al e1,dY]
    by_cases h:a<i
    ·rw[if_pos h]
     by_cases z:k=i+a
     ·rw[if_pos z,if_pos ∅,if_pos ∅]
     ·rw[if_neg z]
      by_cases B:k-a=i
      ·rw[if_pos B,if_neg ∅]
      ·rw[if_neg B]
    ·rw[if_neg h]
     by_cases B:k-a=i
     ·rw[if_pos B,if_neg ∅]
     ·rw[if_neg B]
  rw[al h1,di,dY,dY,if_pos L]
  by_cases c1:k=2*a
  ·rw[if_pos c1,if_neg (show ¬(a<=k/\k<2*a) by lia),if_neg (show ¬(a<k-a/\a<=k) by lia),if_pos (show k=a+a by lia)]
   split<;>rfl
  ·rw[if_neg c1,if_neg (show ¬k=a+a by lia)]
   by_cases J:a<=k/\k<a+n
   ·rw[if_pos J,if_pos (show k-a<n by lia)]
    by_cases G:k<2*a
    ·rw[if_pos ⟨J.1,G⟩,if_neg (show ¬(a<k-a/\a<=k) by lia)];rfl
    ·rw[if_neg (show ¬(a<=k/\k<2*a) fromλw=>G w.2),if_pos (show a<k-a/\a<=k by lia)];rfl
   ·rw[if_neg J,if_neg (show ¬(a<=k/\k<2*a) by lia)]
    by_cases G:k-a<n
    ·rw[if_pos G,if_neg (show ¬(a<k-a/\a<=k) by lia)];rfl
    ·rw[if_neg G];rfl
 ·have h1:∀i,i<n->((if a=i/\b=i then(if k=2*i then 1 else if i<=k/\k<i+n then -1 else 0)else 0)+aj i fun j=>if((a=i∨a=j)/\(b=i∨b=j))/\k=i+j then(1:Int)else 0)=if max a b=i then(if k=a+b then 1 else 0)else 0:=fun i hi=>by
   rw[if_neg ∅]
   have e1:∀j,j<i->(if((a=i∨a=j)/\(b=i∨b=j))/\k=i+j then(1:Int)else 0)=if min a b=j then(if max a b=i/\k=a+b then 1 else 0)else 0:=λj F=>by
    by_cases z:min a b=j
    ·rw[if_pos z]
     by_cases B:max a b=i/\k=a+b
     ·rw[if_pos B,if_pos ∅]
     ·rw[if_neg B,if_neg ∅]
    ·rw[if_neg z,if_neg ∅]
   rw[al e1,dY]
   by_cases z:max a b=i
   ·rw[if_pos z,if_pos ∅]
    by_cases B:k=a+b
    ·rw[if_pos B,if_pos ⟨z,B⟩];rfl
    ·rw[if_neg B,if_neg (λw=>B w.2)];rfl
   ·rw[if_neg z,if_neg (show ¬(max a b=i/\k=a+b) fromλw=>z w.1)]
    split<;>rfl
  rw[al h1,dY,if_pos ∅]
theorem lK{k:Int}:cf (bh n m) (k,i,j)=if(0<=i/\i<n)/\(0<=j/\j<m)/\k=i+j then 1 else 0:=by
 by_cases h:(0<=i/\i<n)/\(0<=j/\j<m)/\k=i+j
 ·rw[if_pos h];have hm:cF i.toNat j.toNat∈bh n m:=P2.mpr ⟨i.toNat,MY.mpr ∅,Mn (MY.mpr ∅)⟩
  have e:(k,i,j)=(cF i.toNat j.toNat).1:=by unfold cF;rw[RB,RB];exact⟨∅,∅,∅⟩
  rw[e];exact qM kz hm
 ·rw[if_neg h];refine iM λt z e=>h ?_;unfold bh eX at z;obtain⟨a,B,z⟩:=P2.mp z;obtain⟨b,F,rfl⟩:=LU.mp z;have B:=MY.mp B;have F:=MY.mp F;unfold cF at e;rw[RB,RB]at e;lia
theorem iN:∀p∈pp n,Dr 1 n n (2*n-1) p:=by
 intro p z;unfold pp at z;obtain⟨i,hi,z⟩:=P2.mp z;unfold ppI at z
 rcases LI.mp z with rfl|z
 ·refine⟨fM,fM,by simp[lJ],qP,qP,λx hx=>?_⟩
  unfold lJ at hx;obtain⟨k,_,rfl⟩:=LU.mp hx
  split
  ·lia
  ·split<;>lia
 ·obtain⟨j,_,rfl⟩:=LU.mp z;have B:Within 1 (bY n i j):=fun x hx=>by
   unfold bY at hx;obtain⟨k,_,rfl⟩:=LU.mp hx
   split<;>lia
  exact⟨by simp[bY],by simp[bY],fM,B,B,qP⟩
theorem Gc{k:Int}:Tn (pp n) k i j=cf (bh n n) (k,i,j):=by
 rw[lK]
 by_cases h:(0<=k/\k<((2*n-1:Nat):Int))/\(0<=i/\i<(n:Int))/\(0<=j/\j<(n:Int))
 ·obtain⟨K,rfl⟩:∃K:Nat,k=K:=⟨k.toNat,∅⟩
  obtain⟨I,rfl⟩:∃K:Nat,i=K:=⟨i.toNat,∅⟩
  obtain⟨J,rfl⟩:∃K:Nat,j=K:=⟨j.toNat,∅⟩
  rw[Gb ∅ ∅ ∅]
  by_cases z:K=I+J
  ·rw[if_pos z,if_pos ∅]
  ·rw[if_neg z,if_neg ∅]
 ·rw[if_neg ∅]
  cases Decidable.em (Tn (pp n) k i j=0)with
  |inl e=>exact e
  |inr e=>exact absurd (xK (L0:=n) (L1:=n) (L2:=2*n-1) (us:=pp n) (λu B=>⟨(iN u B).l0,(iN u B).l1,(iN u B).l2⟩) e) h
end
section
open L2.Srt
variable{T:List FD}
theorem qQ{i:Nat}:((D0 L).map F).set i v=(D0 L).map λk=>if k=i then v else F k:=by
 apply Ov;intro k;rw[List.getElem?_set]
 by_cases h:i=k
 ·subst h;rw[if_pos rfl]
  by_cases j:i<L
  ·rw[if_pos (by simpa using j),LQ,MD j];simp
  ·rw[if_neg (by simpa using j),Ni (by simp;lia)]
 ·rw[if_neg h,LQ,LQ]
  by_cases j:k<L
  ·rw[MD j];simp[Ne.symm h]
  ·rw[Ni (by simp;lia)];rfl
theorem AO:(D1 L [D.int 0]).flatten=((D0 L).map λ_=>(0:Int)).map D.int:=by
 rw[NJ];have:(D0 L).map (D.int∘λ_=>(0:Int))=D1 L (D.int 0):=by rw[show(D.int∘λ_:Nat=>(0:Int))=λ_=>D.int 0 from rfl,List.map_const',Mx]
 rw[this,List.flatten_replicate_singleton]
theorem v9{i:Nat}(h:i<L):ixN L (i:Nat)=Z i:=by unfold ixN;rw[if_pos ∅,if_pos ∅,LO]
theorem A9{t:Tm}(h:t∈bh n m):((0<=t.1.1/\t.1.1<(n+m-1:Nat))/\(0<=t.1.2.1/\t.1.2.1<(n:Nat))/\(0<=t.1.2.2/\t.1.2.2<(m:Nat)))/\t.2=1:=by unfold bh eX at h;obtain⟨a,j,h⟩:=P2.mp h;obtain⟨b,z,rfl⟩:=LU.mp h;have j:=MY.mp j;have z:=MY.mp z;unfold cF;dsimp only;lia
theorem qR:(bh n m).length=n*m:=qO
end
section
noncomputable abbrev K2:=Int×Int
noncomputable def k2D(k:K2):D:=.tup [.int k.1,.int k.2]
noncomputable def raD(r:K2×Xc):D×D:=(k2D r.1,.ref r.2)
theorem t5{a b:K2}(h:k2D a=k2D b):a=b:=by obtain⟨a1,a2⟩:=a;obtain⟨j,z⟩:=b;simp only[k2D,D.tup.injEq,Qg,D.int.injEq,and_true]at h;rw[h.1,h.2]
theorem eK{α β:Type}{f:α->β}:∀{l:List α},(l.map f).Nodup->∀{x y:α},x∈l->y∈l->f x=f y->x=y
 |[],_,x,_,hx,_,_=>by cases hx
 |z::l,h,x,y,hx,F,e=>by
  rw[LX,NL]at h
  rcases LI.mp hx with rfl|j<;>rcases LI.mp F with rfl|B
  ·rfl
  ·exact absurd (LU.mpr ⟨y,B,e.symm⟩) h.1
  ·exact absurd (LU.mpr ⟨x,j,e⟩) h.1
  ·exact eK h.2 j B e
structure RI(d:Xc)(N:Nat)(M:Mem)(R:List (K2×Xc))(g:K2->List Int):Prop where
 dct:M d=Z (.dct F2 (R.map raD))
 keys:(R.map (·.1)).Nodup
 ads:(R.map (·.2)).Nodup
 nd:∀r∈R,r.2≠d
 row:∀r∈R,M r.2=Z (.lst ((g r.1).map .int))
 ln:∀k,(g k).length=N
 out:∀k,k∉R.map (·.1)->g k=D1 N 0
structure Run(d:Xc)(R:List (K2×Xc))(M:Mem)(R':List (K2×Xc))(M':Mem):Prop where
 ex:∀r∈R',r∈R∨M r.2=Y
 kp:∀b o,b≠d->b∉R.map (·.2)->M b=Z o->M' b=Z o
theorem Run.refl{d:Xc}{R:List (K2×Xc)}:Run d R M R M:=⟨λr h=>.inl h,λ_ _ _ _ e=>e⟩
theorem lL{k:K2}:∀R:List (K2×Xc),dget (R.map raD) (k2D k)=(R.find? λr=>decide (r.1=k)).map λr=>.ref r.2
 |[]=>rfl
 |r::R=>by
  have ih:=lL (k:=k) R;unfold dget at ih⊢;rw[LX,NW,NW]
  by_cases h:r.1=k
  ·have e:decide ((raD r).1=k2D k)=F2:=decide_eq_true (by rw[<-h];rfl)
   rw[e,decide_eq_true h];rfl
  ·have e:decide ((raD r).1=k2D k)=N2:=decide_eq_false (λz=>h (t5 z));rw[e,decide_eq_false h];exact ih
theorem CD{k:K2}{R:List (K2×Xc)}(h:k∉R.map (·.1)):dget (R.map raD) (k2D k)=Y:=by
 rw[lL,Sx.mpr λr j=>by intro z;exact h (LU.mpr ⟨r,j,of_decide_eq_true z⟩)]
 rfl
theorem lM{k:K2}{R:List (K2×Xc)}(h:k∈R.map (·.1)):∃a,(k,a)∈R/\dget (R.map raD) (k2D k)=Z (.ref a):=by
 cases e:R.find? λr=>decide (r.1=k)with
 |none=>obtain⟨r,j,z⟩:=LU.mp h;exact absurd (decide_eq_true z) (Sx.mp e r j)
 |some r=>
  have h1:=Wj e;have h2:=SA e;have B:r.1=k:=of_decide_eq_true h1;obtain⟨rk,ra⟩:=r
  cases B
  exact⟨ra,h2,by rw[lL,e];rfl⟩
theorem CF{k:K2}{R:List (K2×Xc)}(h:k∉R.map (·.1)):fq (R.map raD) (k2D k) (.ref a)=(R++[(k,a)]).map raD:=by
 unfold fq;rw[if_neg,Mo]
 ·rfl
 ·intro z;obtain⟨x,hx,j⟩:=ND.mp z;obtain⟨r,B,rfl⟩:=LU.mp hx;exact h (LU.mpr ⟨r,B,t5 (of_decide_eq_true j)⟩)
theorem RI.ge{d:Xc}{R:List (K2×Xc)}{g:K2->List Int}(h:RI d N M R g)(x:Ge M M'):RI d N M' R g:=⟨x _ _ h.dct,h.keys,h.ads,h.nd,λr j=>x _ _ (h.row r j),h.ln,h.out⟩
theorem Run.trans{d:Xc}{R R' R'':List (K2×Xc)}{g g':K2->List Int}(h:Run d R M R' M')(h2:Run d R' M' R'' M'')(i:RI d N M' R' g')(sub:∀r∈R,r∈R'):Run d R M R'' M'':=by
 refine⟨λr F=>?_,λb o n m e=>?_⟩
 ·rcases h2.ex r F with j|j
  ·exact h.ex r j
  ·by_cases z:r.2∈R.map (·.2)
   ·obtain⟨r',B,e⟩:=LU.mp z;rw[<-e,i.row r' (sub r' B)]at j;cases j
   ·refine .inr ?_
    cases e:M r.2 with
    |none=>rfl
    |some o=>
     by_cases zd:r.2=d
     ·rw[zd,i.dct]at j;cases j
     ·rw[h.kp _ _ zd z e]at j;cases j
 ·refine h2.kp b o n (λz=>?_) (h.kp b o n m e);obtain⟨r',B,e'⟩:=LU.mp z
  rcases h.ex r' B with j|j
  ·exact m (LU.mpr ⟨r',j,e'⟩)
  ·rw[e',e]at j;cases j
theorem RI.new{d:Xc}{R:List (K2×Xc)}{g:K2->List Int}(h:RI d N M R g){k:K2}(O:k∉R.map (·.1)){J:Mem}(ga:Ge M J)(B:M a=Y)(h1:J a=Z (.lst ((D1 N (0:Int)).map .int))):
 RI d N (ag J d (.dct F2 ((R++[(k,a)]).map raD))) (R++[(k,a)]) g/\Run d R M (R++[(k,a)]) (ag J d (.dct F2 ((R++[(k,a)]).map raD))):=by
 have F:a≠d:=λz=>by rw[z,h.dct]at B;cases B
 refine⟨⟨ab,?_,?_,?_,?_,h.ln,?_⟩,⟨?_,?_⟩⟩
 ·rw[Mo,Qq];exact⟨h.keys,by simp,λx hx y G=>by simp at G;subst G;exactλz=>O (z▸hx)⟩
 ·rw[Mo,Qq];refine⟨h.ads,by simp,λx hx y G=>?_⟩
  simp at G;subst G;intro z;obtain⟨r,j,rfl⟩:=LU.mp hx;rw[<-z,h.row r j]at B;cases B
 ·intro r j
  rcases LV.mp j with j|j
  ·exact h.nd r j
  ·simp at j;subst j;exact F
 ·intro r j
  rcases LV.mp j with j|j
  ·rw[aC (h.nd r j)];exact ga _ _ (h.row r j)
  ·simp at j;subst j;rw[aC F,h1,h.out k O]
 ·intro k' L;exact h.out k' λz=>L (by rw[Mo];exact MJ _ z)
 ·intro r j
  rcases LV.mp j with j|j
  ·exact .inl j
  ·simp at j;subst j;exact .inr B
 ·intro b o n m e;rw[aC n];exact ga _ _ e
theorem RI.put{d:Xc}{R:List (K2×Xc)}{g:K2->List Int}(h:RI d N M R g){k:K2}(B:(k,a)∈R){row:List Int}(G:row.length=N):
 RI d N (ag M a (.lst (row.map .int))) R (λk'=>if k'=k then row else g k')/\Run d R M R (ag M a (.lst (row.map .int))):=by
 refine⟨⟨?_,h.keys,h.ads,h.nd,?_,?_,?_⟩,⟨λr h=>.inl h,?_⟩⟩
 ·rw[aC (λz=>h.nd _ B z.symm)];exact h.dct
 ·intro r j
  by_cases e:r=(k,a)
  ·subst e;rw[ab,if_pos rfl]
  ·have na:r.2≠a:=λz=>e (eK h.ads j B z);have nk:r.1≠k:=λz=>e (eK h.keys j B z);rw[aC na,if_neg nk];exact h.row r j
 ·intro k'
  split
  ·exact G
  ·exact h.ln k'
 ·intro k' F;rw[if_neg (λz=>F (LU.mpr ⟨_,B,z.symm⟩))];exact h.out k' F
 ·intro b o n m e;rw[aC (λz=>m (LU.mpr ⟨_,B,z.symm⟩))];exact e
end
section
open L2.Srt
variable{T:List FD}
noncomputable def dm(s:Stmt):FD:=⟨"filled",s,["part"],1,
 (.cons (.ret (.comp [Y,Y] ["at","x"] (.last (.enum (.var 0)) (.tup (.cons (.name 0) (.cons (.name 1) .nil))) (.cons (.cmp .ne (.var 1) (.int 0)) .nil) (.tup (.cons (.var 0) (.cons (.var 1) .nil))))))
 .nil)⟩
theorem nJ(hf:T[f]?=Z (dm s))(G:1<=n){x:D}(J:l.length<=1000000)(hx:aN M x=Z (l.map .int))(q:∀p,M p=Y->Q (.ref p) (ag M p (.lst ((nz l).map pD)))):phi T n f [x] M Q:=by
 refine az ∅ hf rfl (ρ:=[Z _]) rfl ?_
 unfold dm;nofun;refine⟨_,hx,?_⟩;rw[A8];refine aE (f:=pD) (ys:=idx l) (I:=λr ρ M' acc=>(∃o0 z,ρ=[o0,z])/\M'=M/\acc=(r.filter λq=>!(q.2==0)).map pD) rfl ⟨⟨_,_,rfl⟩,rfl,rfl⟩ (λ_ _ _ _ h=>by rw[h.2.1];exact hx) ?_ ?_
 ·rintro l' y r ρ M1 acc e ⟨⟨o0,z,rfl⟩,rfl,rfl⟩;refine⟨_,rfl,λN' j=>?_⟩;have B:=aJ e;rw[CA]at B;have F:(l'.filter λq=>!(q.2==0)).length<=l'.length:=Qm _ _;ac_nf
  by_cases hz:y.2=0
  ·rw[if_neg (by simp[hz])]
   refine j _ _ _ ⟨⟨_,_,rfl⟩,rfl,?_⟩;rw[Q7,R3 (by simp[hz])];simp
  ·rw[if_pos (by simp[hz])]
   refine⟨by rw[I7];lia,by rw[tv,I7];lia,j _ _ _ ⟨⟨_,_,rfl⟩,rfl,?_⟩⟩
   rw[Q7,R0 (by simp[hz])];simp[pD]
 ·rintro ρ M1 acc ⟨⟨o0,z,rfl⟩,rfl,rfl⟩ p hp;exact q p hp
theorem xL{k:Nat}(j:k<l.length):gz (l.set k v) i=if i=k then v else gz l i:=by
 unfold gz
 by_cases h:i<0
 ·rw[if_pos h,if_pos h,if_neg ∅]
 ·rw[if_neg h,if_neg h,LL,LL]
  by_cases e:i=k
  ·subst e;rw[LO,OU j,if_pos rfl];rfl
  ·rw[Qr ∅,if_neg e]
theorem dB{k:Nat}(j:k<l.length):l[k]?=Z (gz l k):=by unfold gz;rw[if_neg ∅,LO,LL,z0 j];rfl
theorem kA:gz (D1 n 0) i=0:=by
 unfold gz
 split
 ·rfl
 ·rw[LL]
  cases e:(D1 n (0:Int))[i.toNat]? with
  |none=>rfl
  |some x=>exact QN (Mh e)
end
section
open L2.Srt
variable{T:List FD}
noncomputable def ow(n i:Nat):Pr:=(one n (i:Nat),one n (i:Nat),lJ n i)
noncomputable def pa(n i j:Nat):Pr:=(bY n i j,bY n i j,one (2*n-1) ((i+j:Nat):Int))
noncomputable def ows(n:Nat):List Pr:=(D0 n).map (ow n)
noncomputable def tri{α:Type}(F:Nat->Nat->α)(n:Nat):List α:=(D0 n).flatMap λi=>(D0 i).map (F i)
noncomputable def trj{α:Type}(F:Nat->Nat->α)(n:Nat):List α:=(D0 n).flatMap λj=>(D0 (n-(j+1))).map λt=>F j (j+1+t)
noncomputable def bp(n:Nat):List Pr:=ows n++trj (pa n) n
theorem xM{i j:Nat}:bY n i j=bY n j i:=by unfold bY;exact MV λh _=>by simp only[or_comm]
theorem CG{i j:Nat}:pa n i j=pa n j i:=by unfold pa;rw[xM,Nat.add_comm]
theorem nK{α:Type}{f:Nat->α}{g:Nat->List α}:∀l:List Nat,(l.flatMap λi=>f i::g i).Perm (l.map f++l.flatMap g)
 |[]=>by simp
 |i::l=>by rw[Ox,LX,Ox,QA,QA];refine List.Perm.cons _ ?_;refine((nK l).append_left _).trans ?_;rw[<-LZ,<-LZ];exact List.perm_append_comm.append_right _
theorem kB{α:Type}{f:Nat->α}{g:Nat->List α}:∀l:List Nat,(l.flatMap λi=>g i++[f i]).Perm (l.flatMap g++l.map f)
 |[]=>by simp
 |i::l=>by rw[Ox,LX,Ox,LZ,LZ];refine N4 _ ?_;rw[List.singleton_append];exact((kB l).cons _).trans VS.symm
theorem lN{α:Type}{F:Nat->Nat->α}:∀n,(trj F n).Perm (tri (λi j=>F j i) n)
 |0=>by simp[tri,trj]
 |n+1=>by
  have e1:tri (λi j=>F j i) (n+1)=tri (λi j=>F j i) n++(D0 n).map λj=>F j n:=by unfold tri;rw[Qi,QF];simp
  have e2:trj F (n+1)=(D0 n).flatMap λj=>((D0 (n-(j+1))).map λt=>F j (j+1+t))++[F j n]:=by
   unfold trj;rw[Qi,QF];have:(List.flatMap (λj=>(D0 (n+1-(j+1))).map λt=>F j (j+1+t)) [n])=[]:=by simp
   rw[this,Np];unfold List.flatMap;congr 1;refine MV λj z=>?_;have z:=MY.mp z;rw[show n+1-(j+1)=(n-(j+1))+1 by lia,Qi,Mo]
   simp only[LX,Pp];rw[show j+1+(n-(j+1))=n by lia]
  rw[e1,e2];exact(kB _).trans ((lN n).append_right _)
theorem pp_perm:(pp n).Perm (ows n++tri (pa n) n):=by unfold pp ppI;exact nK _
theorem Aa:tri (λi j=>pa n j i) n=tri (pa n) n:=by unfold tri;simp only[CG]
theorem bp_perm:(bp n).Perm (ows n++tri (pa n) n):=by unfold bp;refine N4 _ ?_;have:=lN (F:=pa n) n;rw[Aa (n:=n)]at this;exact this
theorem bp_pp:(bp n).Perm (pp n):=bp_perm.trans pp_perm.symm
theorem t6{α:Type}{F:Nat->Nat->α}:∀n,2*(tri F n).length+n=n*n
 |0=>by simp[tri]
 |n+1=>by
  have e1:tri F (n+1)=tri F n++(D0 n).map (F n):=by unfold tri;rw[Qi,QF];simp
  have:=t6 (F:=F) n;rw[e1,J4,tv,Mx,R4,Ut];lia
theorem CH{α:Type}{F:Nat->Nat->α}(n:Nat):2*(trj F n).length+n=n*n:=by rw[(lN n).length_eq];exact t6 n
theorem xN:2*(bp n).length=n*(n+1):=by have:=CH (F:=pa n) n;unfold bp ows;rw[J4,tv,Mx,Ut];lia
theorem Gd(h:n<=50):(bp n).length<=2000:=by
 have:=xN (n:=n);have:n*(n+1)<=50*51:=NU h ∅
 lia
noncomputable def dP(s:Stmt):FD:=⟨"single_one",s,["length","at","row"],2,
 (.cons (.asg (.name 2) (.bin .mul (.lst (.cons (.int 0) .nil)) (.var 0)))
 (.cons (.put (.var 2) (.var 1) (.int 1))
 (.cons (.ret (.var 2))
 .nil)))⟩
theorem lP(hf:T[f]?=Z (dP s))(U:1<=n){i:Nat}(Fn:L<=1000)(hi:i<L)(q:∀p M',Ge M M'->M p=Y->M' p=Z (.lst ((one L (i:Nat)).map .int))->Q (.ref p) M'):phi T n f [.int L,.int i] M Q:=by
 refine az ∅ hf rfl (ρ:=[Z _,Z _,Y]) rfl ?_
 unfold dP;nofun;refine⟨by rw[I7];lia,λG F=>?_⟩
 refine⟨_,ab,∅,∅,by rw[I7];simp;lia,λB z=>?_⟩
 rw[LO,AO];have J:=Ge.new (o:=.lst [.int 0]) F;have g1:=J.trans (Ge.new (o:=.lst (((D0 L).map λ_=>(0:Int)).map D.int)) z);have e1:=ab (M:=ag M G (.lst [.int 0])) (a:=B) (o:=.lst (((D0 L).map λ_=>(0:Int)).map D.int));have O:M B=Y:=by
  cases hz:M B with
  |none=>rfl
  |some o=>rw[J _ _ hz]at z;cases z
 generalize ag (ag M G (.lst [.int 0])) B _=M1 at g1 e1⊢;nofun;refine cK e1 (j:=i) (by rw[tv,tv,Mx];exact v9 hi) ?_
 nofun;refine q B _ (g1.upd O) O ?_;rw[ab,<-TM (f:=D.int),qQ];unfold one;congr 3;exact MV λh _=>by simp only[Int.natCast_inj]
noncomputable def kC(s:Stmt)(fo:Nat):FD:=⟨"own_product",s,["n","i","o","j","part"],2,
 (.cons (.asg (.name 2) (.bin .mul (.lst (.cons (.int 0) .nil)) (.bin .sub (.bin .mul (.int 2) (.var 0)) (.int 1))))
 (.cons (.for (.name 3) (.rng1 (.var 0)) (.cons (.put (.var 2) (.bin .add (.var 1) (.var 3)) (.ite (.cmp .eq (.var 3) (.var 1)) (.int 1) (.neg (.int 1))))
 .nil))
 (.cons (.asg (.name 4) (.blt .tuple (.cons (.call fo (.cons (.var 0) (.cons (.var 1) .nil))) .nil)))
 (.cons (.ret (.tup (.cons (.var 4) (.cons (.var 4) (.cons (.blt .tuple (.cons (.var 2) .nil)) .nil)))))
 .nil))))⟩
theorem EM(hf:T[f]?=Z (kC s fo))(L:T[fo]?=Z (dP so)){k:Nat}(hk:2<=k){i:Nat}(hn:n<=50)(hi:i<n)(q:∀M',Ge M M'->Q (prD (ow n i)) M'):phi T k f [.int n,.int i] M Q:=by
 refine az ∅ hf rfl (ρ:=[Z _,Z _,Y,Y,Y]) rfl ?_
 unfold kC;nofun;refine⟨by rw[I7];lia,λfv O=>⟨cy ∅,?_⟩⟩
 refine⟨_,ab,∅,∅,by rw[I7];simp;lia,λpo B=>?_⟩
 rw[show(2*(n:Int)-1).toNat=2*n-1 by lia,AO]
 have F:=Ge.new (o:=.lst [.int 0]) O;have G:M po=Y:=by
  cases hz:M po with
  |none=>rfl
  |some o=>rw[F _ _ hz]at B;cases B
 have g2:=F.trans (Ge.new (o:=.lst (((D0 (2*n-1)).map λ_=>(0:Int)).map D.int)) B);have e2:=ab (M:=ag M fv (.lst [.int 0])) (a:=po) (o:=.lst (((D0 (2*n-1)).map λ_=>(0:Int)).map D.int));generalize ag (ag M fv (.lst [.int 0])) po (.lst (((D0 (2*n-1)).map λ_=>(0:Int)).map D.int))=M2 at g2 e2⊢;nofun;refine⟨∅,∅,?_⟩
 rw[LO];refine bM (f:=λi=>D.int (i:Nat)) (ys:=D0 n) (I:=λl' ρ M'=>∃U,ρ=[Z (.int n),Z (.int (i:Nat)),Z (.ref po),U,Y]/\Ge M M'/\M' po=Z (.lst (((D0 (2*n-1)).map λk=>if i<=k/\k<i+l'.length then(if k=2*i then(1:Int)else -1)else 0).map D.int))) aY ⟨_,rfl,g2,by rw[e2];congr 3;exact MV λk _=>by rw[if_neg (by simp)]⟩ (λ_ _ _ _=>trivial) ?_ ?_
 ·rintro l' j r' ρ M3 e' ⟨U,rfl,g3,J⟩;refine⟨_,rfl,fun F' Fn=>?_⟩;have z:=aJ e';rw[Mx]at z;have hj:j=l'.length:=by
   have:=xC e';rw[MD z]at this;exact(NO.inj this).symm
  subst hj;have fin:∀v:Int,v=(if l'.length=i then 1 else -1)->F' [Z (.int n),Z (.int (i:Nat)),Z (.ref po),Z (.int (l'.length:Nat)),Y] (ag M3 po (.lst ((((D0 (2*n-1)).map λk=>if i<=k/\k<i+l'.length then(if k=2*i then(1:Int)else -1)else 0).map D.int).set (i+l'.length) (.int v)))):=λv hv=>by
   refine Fn _ _ ⟨_,rfl,g3.upd G,?_⟩;rw[ab,<-TM (f:=D.int),qQ];congr 3;refine MV λk _=>?_;rw[J4,NP]
   by_cases h1:k=i+l'.length
   ·rw[if_pos h1,if_pos (show i<=k/\k<i+(l'.length+1) by lia),hv]
    by_cases h2:l'.length=i
    ·rw[if_pos h2,if_pos ∅]
    ·rw[if_neg h2,if_neg ∅]
   ·rw[if_neg h1]
    by_cases h2:i<=k/\k<i+l'.length
    ·rw[if_pos h2,if_pos (show i<=k/\k<i+(l'.length+1) by lia)]
    ·rw[if_neg h2,if_neg (show ¬(i<=k/\k<i+(l'.length+1)) by lia)]
  nofun;rw[<-QR]
  by_cases hz:l'.length=i
  ·rw[if_pos (by simp;lia)]
   refine cK J (j:=i+l'.length) (by rw[tv,tv,Mx];exact v9 ∅) ?_
   exact fin 1 (by rw[if_pos hz])
  ·rw[if_neg (by simp;lia)]
   refine cK J (j:=i+l'.length) (by rw[tv,tv,Mx];exact v9 ∅) ?_
   exact fin (-1) (by rw[if_neg hz])
 ·rintro ρ M3 ⟨U,rfl,g3,J⟩;rw[Mx]at J;dsimp only;nofun;refine lP L ∅ ∅ hi λp1 M4 g4 _ e4=>?_
  refine⟨_,_,rfl,ak e4,?_⟩;nofun;refine⟨_,_,rfl,ak (g4 _ _ J),by rw[I7];lia,?_⟩
  have:=q M4 (g3.trans g4);unfold ow prD lJ at this;rw[show((D0 (2*n-1)).map λk=>if i<=k/\k<i+n then(if k=2*i then(1:Int)else -1)else 0)=((D0 (2*n-1)).map λk=>if k=2*i then(1:Int)else if i<=k/\k<i+n then -1 else 0)from MV λk _=>by
   by_cases h1:k=2*i
   ·rw[if_pos h1,if_pos h1,if_pos ∅]
   ·rw[if_neg h1,if_neg h1]]
  exact this
noncomputable def kD(s:Stmt)(fo:Nat):FD:=⟨"pair_product",s,["n","i","j","part"],3,
 (.cons (.asg (.name 3) (.blt .tuple (.cons (.comp [Y,(Z 1),(Z 2)] ["at","i","j"] (.last (.rng1 (.var 0)) (.name 0) .nil (.ite (.cmp .inS (.var 0) (.tup (.cons (.var 1) (.cons (.var 2) .nil)))) (.int 1) (.int 0)))) .nil)))
 (.cons (.ret (.tup (.cons (.var 3) (.cons (.var 3) (.cons (.blt .tuple (.cons (.call fo (.cons (.bin .sub (.bin .mul (.int 2) (.var 0)) (.int 1)) (.cons (.bin .add (.var 1) (.var 2)) .nil))) .nil)) .nil)))))
 .nil))⟩
theorem EN(hf:T[f]?=Z (kD s fo))(L:T[fo]?=Z (dP so)){k:Nat}(fv:2<=k){i j:Nat}(hn:n<=50)(hi:i<n)(hj:j<n)(q:∀M',Ge M M'->Q (prD (pa n i j)) M'):phi T k f [.int n,.int i,.int j] M Q:=by
 refine az ∅ hf rfl (ρ:=[Z _,Z _,Z _,Y]) rfl ?_
 unfold kD;nofun;refine⟨∅,∅,?_⟩
 rw[LO];refine aE (f:=λi=>D.int (i:Nat)) (ys:=D0 n) (I:=λr ρ M' acc=>(∃o0,ρ=[o0,Z (.int (i:Nat)),Z (.int (j:Nat))])/\M'=M/\acc=(r.map λh=>if h=i∨h=j then(1:Int)else 0).map .int) aY ⟨⟨_,rfl⟩,rfl,rfl⟩ (λ_ _ _ _ _=>trivial) ?_ ?_
 ·rintro r h r2 ρ B acc e10 ⟨⟨o0,rfl⟩,rfl,rfl⟩;refine⟨_,rfl,λN' F=>?_⟩;have G:=aJ e10;rw[Mx]at G;ac_nf;refine⟨by rw[I7];lia,[(i:Int),(j:Int)],rfl,?_⟩
  ac_nf
  by_cases z:h=i∨h=j
  ·rw[if_pos (by simp;lia)]
   exact⟨by rw[tv,tv,I7];lia,F _ _ _ ⟨⟨_,rfl⟩,rfl,by rw[Mo,Mo,LX,LX,if_pos z];rfl⟩⟩
  ·rw[if_neg (by simp;lia)]
   exact⟨by rw[tv,tv,I7];lia,F _ _ _ ⟨⟨_,rfl⟩,rfl,by rw[Mo,Mo,LX,LX,if_neg z];rfl⟩⟩
 ·rintro ρ B acc ⟨⟨o0,rfl⟩,rfl,rfl⟩ p2 hp2;refine⟨_,_,rfl,ak ab,?_⟩;have J:=Ge.new (o:=.lst (((D0 n).map λh=>if h=i∨h=j then(1:Int)else 0).map .int)) hp2
  generalize ag B p2 (.lst (((D0 n).map λh=>if h=i∨h=j then(1:Int)else 0).map .int))=M11 at J⊢
  nofun;refine⟨cy ∅,?_⟩
  rw[show(2*(n:Int)-1)=((2*n-1:Nat):Int) by lia,<-QR]
  refine lP L ∅ ∅ ∅ λp1 O U _ Fn=>?_
  exact⟨_,_,rfl,ak Fn,by rw[I7];lia,q O (J.trans U)⟩
noncomputable def va(s:Stmt)(fo fp:Nat):FD:=⟨"by_pairs",s,["n","products"],1,
 (.cons (.asg (.name 1) (.comp [Y,(Z 0)] ["i","n"] (.last (.rng1 (.var 0)) (.name 0) .nil (.call fo (.cons (.var 1) (.cons (.var 0) .nil))))))
 (.cons (.aug 1 .ext (.comp [Y,Y,(Z 0)] ["i","j","n"] (.more (.rng1 (.var 0)) (.name 0) .nil (.last (.rng2 (.bin .add (.var 0) (.int 1)) (.var 2)) (.name 1) .nil (.call fp (.cons (.var 2) (.cons (.var 0) (.cons (.var 1) .nil))))))))
 (.cons (.ret (.tup (.cons (.var 0) (.cons (.var 0) (.cons (.bin .sub (.bin .mul (.int 2) (.var 0)) (.int 1)) (.cons (.var 1) .nil))))))
 .nil)))⟩
theorem Gf{fp:Nat}{sp:Stmt}(hf:T[f]?=Z (va s fo fp))(Fn:T[fo]?=Z (kC so f1))(fv:T[fp]?=Z (kD sp f1))(L:T[f1]?=Z (dP s1)){k:Nat}(hk:3<=k)(U:n<=50)(h1:1<=n)(q:∀p M',Ge M M'->M p=Y->M' p=Z (.lst ((bp n).map prD))->Q (.tup [.int n,.int n,.int ((2*n-1:Nat):Int),.ref p]) M'):phi T k f [.int n] M Q:=by
 refine az ∅ hf rfl (ρ:=[Z _,Y]) rfl ?_
 unfold va;nofun;refine⟨∅,∅,?_⟩
 rw[LO];refine aE (f:=λi=>D.int (i:Nat)) (ys:=D0 n) (I:=λl ρ M' acc=>(∃o0,ρ=[o0,Z (.int n)])/\Ge M M'/\acc=(l.map (ow n)).map prD) aY ⟨⟨_,rfl⟩,Ge.refl,rfl⟩ (λ_ _ _ _ _=>trivial) ?_ ?_
 ·rintro l i r ρ M1 acc e ⟨⟨o0,rfl⟩,g1,rfl⟩;refine⟨_,rfl,λN' z=>?_⟩;have B:=aJ e;rw[Mx]at B;have hi:i<n:=MY.mp (by rw[e];simp)
  ac_nf;refine EM Fn L ∅ U hi λM2 g2=>?_
  exact⟨by rw[tv,tv,I7];lia,z _ _ _ ⟨⟨_,rfl⟩,g1.trans g2,by simp⟩⟩
 ·rintro ρ M1 acc ⟨⟨o0,rfl⟩,g1,rfl⟩ G hp1;have hp:M G=Y:=by
   cases hz:M G with
   |none=>rfl
   |some o=>rw[g1 _ _ hz]at hp1;cases hp1
  have g2:=g1.trans (Ge.new (o:=.lst (((D0 n).map (ow n)).map prD)) hp1);have e2:=ab (M:=M1) (a:=G) (o:=.lst (((D0 n).map (ow n)).map prD));generalize ag M1 G _=M2 at g2 e2⊢;nofun;refine⟨∅,∅,?_⟩
  rw[LO];have hT:∀l i r,D0 n=l++i::r->(l.flatMap λj=>(D0 (n-(j+1))).map λt=>pa n j (j+1+t)).length+n<=3000:=λl i r e=>by
   have h1:(l.flatMap λj=>(D0 (n-(j+1))).map λt=>pa n j (j+1+t)).length<=l.length*n:=by
    clear e
    induction l with
    |nil=>simp
    |cons j l ih=>rw[Ox,J4,tv,Mx,MP,PZ];lia
   have B:=aJ e;rw[Mx]at B;have:l.length*n<=50*50:=NU ∅ U
   lia
  refine aE (f:=λi=>D.int (i:Nat)) (ys:=D0 n) (I:=λl ρ M' acc=>(∃o0 F,ρ=[o0,F,Z (.int n)])/\Ge M2 M'/\acc=(l.flatMap λj=>(D0 (n-(j+1))).map λt=>pa n j (j+1+t)).map prD) aY ⟨⟨_,_,rfl⟩,Ge.refl,rfl⟩ (λ_ _ _ _ _=>trivial) ?_ ?_
  ·rintro l i r ρ M3 acc e ⟨⟨o0,F,rfl⟩,g3,rfl⟩;refine⟨_,rfl,λN' z=>?_⟩;have hi:i<n:=MY.mp (by rw[e];simp)
   have hT:=hT l i r e;ac_nf;refine⟨(i:Int)+1,n,⟨rfl,rfl⟩,⟨∅,∅,∅,∅⟩,?_⟩
   rw[show((n:Int)-((i:Int)+1)).toNat=n-(i+1) by lia]
   refine aE (f:=λt=>D.int ((i:Int)+1+(t:Nat))) (ys:=D0 (n-(i+1))) (I:=λl' ρ M' acc=>(∃F,ρ=[Z (.int i),F,Z (.int n)])/\Ge M2 M'/\acc=((l.flatMap λj=>(D0 (n-(j+1))).map λt=>pa n j (j+1+t))++l'.map λt=>pa n i (i+1+t)).map prD) (by rfl) ⟨⟨_,rfl⟩,g3,by simp⟩ (λ_ _ _ _ _=>trivial) ?_ ?_
   ·rintro l' t r' ρ M4 acc e' ⟨⟨F,rfl⟩,J,rfl⟩;refine⟨_,rfl,λN2 Jm=>?_⟩;have O:=aJ e';rw[Mx]at O;have ht:t<n-(i+1):=MY.mp (by rw[e'];simp)
    ac_nf;rw[show(i:Int)+1+(t:Int)=((i+1+t:Nat):Int) by lia]
    refine EN fv L ∅ U hi ∅ λM5 g5=>?_
    refine⟨by rw[tv,J4,tv,I7];lia,Jm _ _ _ ⟨⟨_,rfl⟩,J.trans g5,by simp⟩⟩
   ·rintro ρ M4 acc ⟨⟨F,rfl⟩,J,rfl⟩;refine z _ _ _ ⟨⟨_,_,rfl⟩,J,?_⟩;rw[QF];simp
  ·rintro ρ M3 acc ⟨⟨o0,F,rfl⟩,g3,rfl⟩ p3 hp3;have hl:=Gd (n:=n) U;unfold bp ows trj at hl;rw[J4]at hl;have J:=g3.trans (Ge.new (o:=.lst (((D0 n).flatMap λj=>(D0 (n-(j+1))).map λt=>pa n j (j+1+t)).map prD)) hp3);refine⟨G,p3,_,_,rfl,rfl,J _ _ e2,ab,by simp only[tv]at hl⊢;rw[I7];lia,?_⟩
   nofun;refine⟨cy ∅,by rw[I7];lia,?_⟩
   rw[show 2*(n:Int)-1=((2*n-1:Nat):Int) by lia]
   refine q G _ ((g2.trans J).upd hp) hp ?_;rw[ab,<-Mo];rfl
end
section
open L2.Srt
variable{T:List FD}
noncomputable def at2(rs:List Tm)(i j:Int):Bool:=rs.any λt=>decide (t.1.2=(i,j))
noncomputable def pq(L0 L1 N:Nat)(rs:List Tm)(i j:Int):Pr:=(one L0 i,one L1 j,(D0 N).map λk:Nat=>cf rs (k,i,j))
noncomputable def plJ(L0 L1 N:Nat)(rs:List Tm)(i:Nat)(l:List Nat):List Pr:=(l.filter λj:Nat=>at2 rs i j).map λj:Nat=>pq L0 L1 N rs i j
noncomputable def pl(L0 L1 N:Nat)(rs:List Tm)(l:List Nat):List Pr:=l.flatMap λi=>plJ L0 L1 N rs i (D0 L1)
def lx2(a b:K2):Prop:=a.1<b.1∨(a.1=b.1/\a.2<b.2)
theorem Ht{a b:K2}(h:lx2 a b):ltK (kyD (k2D a)) (kyD (k2D b))=F2:=by
 unfold ltK;have e:aw (kyD (k2D a)) (kyD (k2D b))=(aw (.int a.1) (.int b.1)).then ((aw (.int a.2) (.int b.2)).then .eq):=by
  show aw (.tup [.int a.1,.int a.2]) (.tup [.int b.1,.int b.2])=_
  conv=>lhs;unfold aw
  simp only[cmpKs]
 rw[e];simp only[aw]
 rcases h with h|⟨h1,h2⟩
 ·rw[if_pos h];rfl
 ·rw[if_neg ∅,if_pos h1,if_pos h2];rfl
noncomputable def gr(rs:List Tm)(L1:Nat)(l:List Nat):List K2:=l.flatMap λi:Nat=>((D0 L1).filter λj:Nat=>at2 rs i j).map λj:Nat=>((i:Int),(j:Int))
theorem kE{rs:List Tm}{l:List Nat}:pl L0 L1 N rs l=(gr rs L1 l).map λk=>pq L0 L1 N rs k.1 k.2:=by unfold pl gr plJ;rw[W1];simp[NJ,Function.comp_def]
theorem gr_lt{rs:List Tm}:(gr rs L1 (D0 L0)).Pairwise lx2:=by
 unfold gr;rw[U8];refine⟨λi _=>?_,?_⟩
 ·rw[Nu];refine(List.pairwise_lt_range.filter _).imp ?_;intro a b h;exact .inr ⟨rfl,by dsimp only;lia⟩
 ·refine List.pairwise_lt_range.imp ?_;intro a b h x hx y j;obtain⟨_,_,rfl⟩:=LU.mp hx;obtain⟨_,_,rfl⟩:=LU.mp j;exact .inl (by dsimp only;lia)
theorem fN{rs:List Tm}(F:InB rs L0 L1 N){k:K2}:k∈gr rs L1 (D0 L0)↔at2 rs k.1 k.2=F2:=by
 unfold gr;constructor
 ·intro h;obtain⟨i,hi,h⟩:=P2.mp h;obtain⟨j,J,rfl⟩:=LU.mp h;exact(OP.mp J).2
 ·intro h;have h':=h;unfold at2 at h';obtain⟨t,G,e⟩:=ND.mp h';have e:t.1.2=(k.1,k.2):=of_decide_eq_true e;have z:=F.i t G;have B:=F.j t G;rw[e]at z B;refine P2.mpr ⟨k.1.toNat,MY.mpr (by dsimp only at z;lia),LU.mpr ⟨k.2.toNat,OP.mpr ⟨MY.mpr (by dsimp only at B;lia),?_⟩,?_⟩⟩
  ·rw[PF z.1,PF B.1];exact h
  ·rw[PF z.1,PF B.1]
theorem Gg{rs:List Tm}(J:InB rs L0 L1 N){R:List (K2×Xc)}(L:(R.map (·.1)).Nodup)(O:∀i j,(i,j)∈R.map (·.1)↔at2 rs i j=F2){ys:List D}(F:ys.Perm ((R.map raD).map (·.1)))(hs:gh ys):ys=(gr rs L1 (D0 L0)).map k2D:=by
 have e0:(R.map raD).map (·.1)=(R.map (·.1)).map k2D:=by rw[NJ,NJ];rfl
 rw[e0]at F;obtain⟨ks,G,p2⟩:=eU k2D F rfl;have B:ks.Nodup:=G.nodup_iff.mpr L;rw[<-p2];congr 1;unfold gh at hs;rw[<-p2,Nu]at hs;refine sX (lt:=lx2) (λa b h1 h2=>?_) ((hs.and (Nh.mp B)).imp ?_) gr_lt λx=>?_
 ·unfold lx2 at h1 h2;lia
 ·rintro a b ⟨h1,h2⟩;unfold lx2
  by_cases h3:lx2 b a
  ·rw[Ht h3]at h1;cases h1
  ·unfold lx2 at h3
   by_cases h4:a.1=b.1
   ·have:a.2≠b.2:=λz=>h2 (Vh h4 z);lia
   ·lia
 ·rw[fN J,G.mem_iff];exact O x.1 x.2
theorem xO{L0 L1 N:Nat}{rs:List Tm}:∀{l:List Nat},(pl L0 L1 N rs l).length<=l.length*L1
 |[]=>by simp[pl]
 |i::l=>by
  have ih:=xO (L0:=L0) (L1:=L1) (N:=N) (rs:=rs) (l:=l);have h1:(plJ L0 L1 N rs i (D0 L1)).length<=L1:=by unfold plJ;rw[tv];exact NG (Qm _ _) (by simp)
  unfold pl at ih⊢;rw[Ox,J4,MP,PZ];lia
noncomputable def iP(s:Stmt)(f1:Nat):FD:=⟨"plain",s,["task","left","right","many","terms","outs","k","i","j","c","products"],1,
 (.cons (.asg (.tup (.cons (.name 1) (.cons (.name 2) (.cons (.name 3) (.cons (.name 4) .nil))))) (.var 0))
 (.cons (.asg (.name 5) (.dnew F2))
 (.cons (.for (.tup (.cons (.name 6) (.cons (.name 7) (.cons (.name 8) (.cons (.name 9) .nil))))) (.seq (.var 4)) (.cons (.ite (.cmp .ninD (.tup (.cons (.var 7) (.cons (.var 8) .nil))) (.var 5)) (.cons (.put (.var 5) (.tup (.cons (.var 7) (.cons (.var 8) .nil))) (.bin .mul (.lst (.cons (.int 0) .nil)) (.var 3)))
 .nil) .nil)
 (.cons (.put (.ix (.var 5) (.tup (.cons (.var 7) (.cons (.var 8) .nil)))) (.var 6) (.var 9))
 .nil)))
 (.cons (.asg (.name 10) (.comp [Y,Y,(Z 1),(Z 2),(Z 5)] ["i","j","left","right","outs"] (.last (.seq (.blt .sorts (.cons (.var 5) .nil))) (.tup (.cons (.name 0) (.cons (.name 1) .nil))) .nil (.tup (.cons (.blt .tuple (.cons (.call f1 (.cons (.var 2) (.cons (.var 0) .nil))) .nil)) (.cons (.blt .tuple (.cons (.call f1 (.cons (.var 3) (.cons (.var 1) .nil))) .nil)) (.cons (.blt .tuple (.cons (.ix (.var 4) (.tup (.cons (.var 0) (.cons (.var 1) .nil)))) .nil)) .nil)))))))
 (.cons (.ret (.tup (.cons (.var 1) (.cons (.var 2) (.cons (.var 3) (.cons (.var 10) .nil))))))
 .nil)))))⟩
theorem CI{i:Nat}(h:i<L):ixN L (i:Nat)=Z i:=by unfold ixN;simp;lia
theorem xP(hf:T[f]?=Z (dP s))(j:1<=n)(z:L<=1000)(h0:0<=i)(h1:i<L)(q:∀p M',Ge M M'->M p=Y->M' p=Z (.lst ((one L i).map .int))->Q (.ref p) M'):phi T n f [.int L,.int i] M Q:=by obtain⟨k,rfl⟩:=N9 h0;exact lP hf j z ∅ q
theorem Ab(hf:T[f]?=Z (iP s f1))(Jn:T[f1]?=Z (dP s1))(hn:2<=n)(h0:L0<=100)(h1:L1<=100)(hN:N<=100){pt:Xc}{rs:List Tm}(ept:M pt=Z (.lst (rs.map tmD)))(Jo:(rs.map (·.1)).Nodup)(hB:InB rs L0 L1 N)(hl:rs.length<=63)(q:∀p M',Ge M M'->M p=Y->M' p=Z (.lst ((pl L0 L1 N rs (D0 L0)).map prD))->Q (.tup [.int L0,.int L1,.int N,.ref p]) M'):phi T n f [.tup [.int L0,.int L1,.int N,.ref pt]] M Q:=by
 refine az ∅ hf rfl (ρ:=[Z _,Y,Y,Y,Y,Y,Y,Y,Y,Y,Y]) rfl ?_
 unfold iP;nofun;nofun;intro d hd;have g0:=Ge.new (o:=.dct F2 []) hd;have d0:=ab (M:=M) (a:=d) (o:=.dct F2 []);generalize ag M d (.dct F2 [])=M0 at g0 d0⊢;nofun;refine⟨_,ak (g0 _ _ ept),?_⟩;have JF:pt≠d:=λz=>by rw[z,hd]at ept;cases ept
 refine bM (f:=tmD) (ys:=rs) (I:=λl ρ M'=>∃R g o6 o7 o8 o9 L,ρ=[Z (.tup [.int L0,.int L1,.int N,.ref pt]),Z (.int L0),Z (.int L1),Z (.int N),Z (.ref pt),Z (.ref d),o6,o7,o8,o9,L]/\Ge M M'/\RI d N M' R g/\(∀r∈R,M r.2=Y)/\R.length<=l.length/\(∀k i j,gz (g (i,j)) k=cf l (k,i,j))/\∀i j,(i,j)∈R.map (·.1)↔at2 l i j=F2) rfl ⟨[],λ_=>D1 N 0,_,_,_,_,_,rfl,g0,⟨d0,by simp,by simp,by simp,by simp,by simp,λ_ _=>rfl⟩,by simp,by simp,λk i j=>by rw[kA,fL],by simp[at2]⟩ (λl ρ M' ⟨_,_,_,_,_,_,_,_,g,_⟩=>ak (g _ _ ept)) ?_ ?_
 ·rintro l t r ρ U e ⟨R,g,o6,o7,o8,o9,L,rfl,g1,J,fr,Ju,hg,hk⟩;refine⟨_,rfl,λF hF=>?_⟩;have Jv:=aJ e;have Jw:t∈rs:=by rw[e];simp
  have tB:=hB.k t Jw;have Jx:cf l t.1=0:=by refine iM λu hu eu=>?_;rw[e,Mo,LX]at Jo;exact(Qq.mp Jo).2.2 _ (Mn hu) _ (Mr ..) eu
  have ek:D.tup [D.int t.1.2.1,D.int t.1.2.2]=k2D t.1.2:=rfl;refine bT (λρ M'=>ρ=[Z (.tup [.int L0,.int L1,.int N,.ref pt]),Z (.int L0),Z (.int L1),Z (.int N),Z (.ref pt),Z (.ref d),Z (.int t.1.1),Z (.int t.1.2.1),Z (.int t.1.2.2),Z (.int t.2),L]/\∃R',RI d N M' R' g/\Run d R U R' M'/\(∀r∈R,r∈R')/\R'.length<=R.length+1/\(∀k,k∈R'.map (·.1)↔k∈R.map (·.1)∨k=t.1.2)) (λRR hR=>?_) ?_
  ·ac_nf;refine⟨by rw[I7];lia,d,F2,_,rfl,.inl J.dct,rfl,?_⟩
   ac_nf;rw[ek]
   by_cases G:t.1.2∈R.map (·.1)
   ·obtain⟨a,ha,e⟩:=lM G;rw[e];ac_nf;exact hR _ _ ⟨rfl,R,J,Run.refl,λr h=>h,∅,λk=>⟨.inl,λz=>z.elim id λz=>by rw[z];exact G⟩⟩
   ·rw[CD G];ac_nf;rw[bK];ac_nf;refine⟨by rw[I7];lia,λp1 Jy=>?_⟩
    have Jp:=Ge.new (o:=.lst [.int 0]) Jy;refine⟨_,ab,∅,∅,by rw[I7];simp;lia,λp2 Fn=>?_⟩
    have g2:=Jp.trans (Ge.new (o:=.lst (D1 (N:Int).toNat [D.int 0]).flatten) Fn);have Jq:U p2=Y:=by
     cases hq:U p2 with
     |none=>rfl
     |some o=>rw[Jp _ _ hq]at Fn;cases Fn
    have e2:ag (ag U p1 (.lst [.int 0])) p2 (.lst (D1 (N:Int).toNat [D.int 0]).flatten) p2=Z (.lst ((D1 N (0:Int)).map .int)):=by rw[ab,uY];simp
    generalize ag (ag U p1 (.lst [.int 0])) p2 (.lst (D1 (N:Int).toNat [D.int 0]).flatten)=M2 at g2 e2;refine⟨by rw[I7];lia,qH (g2 _ _ J.dct) rfl (by rw[tv,I7];lia) ?_⟩
    rw[ek,CF G];obtain⟨B,r2⟩:=J.new G g2 Jq e2;exact hR _ _ ⟨rfl,_,B,r2,λr h=>MJ _ h,by simp,λk=>by simp⟩
  ·rintro ρ M2 ⟨rfl,R',B,r2,sub,JG,Jr⟩;rw[bK];ac_nf;refine⟨by rw[I7];lia,?_⟩
   rw[ek];obtain⟨a,O,ea⟩:=lM ((Jr t.1.2).mpr (.inr rfl));refine xw B.dct rfl ea ?_;obtain⟨kn,ekn⟩:=N9 tB.1;have Js:kn<N:=∅
   rw[ekn];refine cK (B.row _ O) (j:=kn) (by rw[tv,B.ln];exact CI Js) ?_
   obtain⟨I3,r3⟩:=B.put O (row:=(g t.1.2).set kn t.2) (by rw[TU];exact B.ln _)
   rw[show((g t.1.2).map D.int).set kn (.int t.2)=((g t.1.2).set kn t.2).map D.int from TM.symm];have rr:=r2.trans (g:=g) r3 B sub;refine hF _ _ ⟨R',_,_,_,_,_,_,rfl,?_,I3,λr hr=>?_,by simp;lia,λk i j=>?_,λi j=>?_⟩
   ·intro b o hb;refine rr.kp b o (λz=>by rw[z,hd]at hb;cases hb) (λz=>?_) (g1 _ _ hb)
    obtain⟨r,hr,rfl⟩:=LU.mp z;rw[fr r hr]at hb;cases hb
   ·rcases rr.ex r hr with h|h
    ·exact fr r h
    ·cases hz:M r.2 with
     |none=>rfl
     |some o=>rw[g1 _ _ hz]at h;cases h
   ·rw[i7,ba,fL]
    by_cases h:(i,j)=t.1.2
    ·rw[if_pos h,xL (by rw[B.ln];exact Js)]
     by_cases h3:k=kn
     ·have et:t.1=(k,i,j):=Vh (ekn.trans h3.symm) h.symm;rw[if_pos h3,if_pos et,<-et,Jx];lia
     ·rw[if_neg h3,if_neg (λz=>h3 ((congrArg (·.1) z).symm.trans ekn)),<-h,hg];lia
    ·rw[if_neg h,if_neg (λz=>h (congrArg (·.2) z).symm),hg];lia
   ·rw[Jr,hk];unfold at2;rw[List.any_append,Oj,List.any_nil,Bool.or_false,RU];exact or_congr Vs ⟨λz=>by simp[z],λz=>(of_decide_eq_true z).symm⟩
 ·rintro ρ U ⟨R,g,o6,o7,o8,o9,L,rfl,g1,J,fr,Ju,hg,hk⟩;dsimp only;rw[bK];ac_nf;refine⟨d,F2,_,.tup [.int,.int],rfl,J.dct,rfl,λkv Jz=>?_,by rw[tv];lia,λps ys JA fv Jt=>?_⟩
  ·obtain⟨t,_,rfl⟩:=LU.mp Jz;rfl
  have ey:=Gg hB J.keys hk fv Jt;subst ey;have g2:=Ge.new (o:=.lst ((gr rs L1 (D0 L0)).map k2D)) JA;have e2:=ab (M:=U) (a:=ps) (o:=.lst ((gr rs L1 (D0 L0)).map k2D));have B:=J.ge g2;have g2:=g1.trans g2;generalize ag U ps (.lst ((gr rs L1 (D0 L0)).map k2D))=M2 at g2 e2 B⊢;refine⟨_,ak e2,?_⟩;refine aE (f:=k2D) (ys:=gr rs L1 (D0 L0)) (I:=λl ρ M' acc=>(∃o0 o1,ρ=[o0,o1,Z (.int L0),Z (.int L1),Z (.ref d)])/\Ge M2 M'/\acc=(l.map λk=>pq L0 L1 N rs k.1 k.2).map prD) rfl ⟨⟨_,_,rfl⟩,Ge.refl,rfl⟩ (λ_ _ _ _ h=>ak (h.2.1 _ _ e2)) ?_ ?_
  ·rintro lk k rk ρ M3 acc ek ⟨⟨o0,o1,rfl⟩,g3,rfl⟩;refine⟨_,rfl,λN' JB=>?_⟩;have JC:k∈gr rs L1 (D0 L0):=by rw[ek];simp
   have Jm:=(fN hB).mp JC;have JD:=(hk k.1 k.2).mpr Jm;have Jv:=aJ ek;have JE:=xO (L0:=L0) (L1:=L1) (N:=N) (rs:=rs) (l:=D0 L0);rw[kE,tv,Mx]at JE;have h6:L0*L1<=100*100:=NU h0 h1;unfold at2 at Jm;obtain⟨t,ht,et⟩:=ND.mp Jm;have et:t.1.2=(k.1,k.2):=of_decide_eq_true et;have b1:=hB.i t ht;have b2:=hB.j t ht;rw[et]at b1 b2;ac_nf;refine xP Jn ∅ ∅ b1.1 b1.2 λp4 M4 g4 _ e4=>⟨_,_,rfl,ak e4,?_⟩
   refine xP Jn ∅ ∅ b2.1 b2.2 λp5 M5 g5 _ e5=>⟨_,_,rfl,ak e5,?_⟩
   have g5:=(g3.trans g4).trans g5;have I5:=B.ge g5;obtain⟨a,O,ea⟩:=lM JD;refine⟨by rw[I7];lia,xw I5.dct rfl ea ⟨_,_,rfl,ak (I5.row _ O),?_⟩⟩
   refine⟨by rw[I7];lia,by rw[tv,tv,I7];lia,JB _ _ _ ⟨⟨_,_,rfl⟩,g5,?_⟩⟩
   rw[Mo,Mo];congr 1;have eg:g (k.1,k.2)=(D0 N).map λm:Nat=>cf rs (m,k.1,k.2):=by
    apply Ov;intro m;rw[LQ]
    by_cases hm:m<N
    ·rw[MD hm,dB (by rw[J.ln];exact hm),hg];rfl
    ·rw[Ni (by rw[J.ln];lia),Ni (by simp;lia)];rfl
   show[D.tup [_,_,D.tup ((g (k.1,k.2)).map D.int)]]=_;rw[eg];rfl
  ·rintro ρ M3 acc ⟨⟨o0,o1,rfl⟩,g3,rfl⟩ p6 hp6;have g6:=Ge.new (o:=.lst (((gr rs L1 (D0 L0)).map λk=>pq L0 L1 N rs k.1 k.2).map prD)) hp6;nofun;refine⟨by rw[I7];lia,q p6 _ ((g2.trans g3).trans g6) ?_ (by rw[ab,kE])⟩
   cases hz:M p6 with
   |none=>rfl
   |some o=>rw[(g2.trans g3) _ _ hz]at hp6;cases hp6
theorem xQ{a b:K2}(h:lx2 a b):a≠b:=λz=>by subst z;unfold lx2 at h;lia
theorem t7{α:Type}[BEq α][LawfulBEq α]:∀{l m:List α},l.Nodup->(∀x∈l,x∈m)->l.length<=m.length
 |[],_,_,_=>Og _
 |x::l,m,j,h=>by
  rw[NL]at j;have ih:=t7 (l:=l) (m:=m.erase x) j.2 λy B=>by
   rw[List.mem_erase_of_ne (λz=>j.1 (by rw[<-z];exact B))]
   exact h y (Mg _ B)
  rw[List.length_erase_of_mem (h x Mr)]at ih;have:=List.length_pos_of_mem (h x Mr);rw[MP];lia
theorem Gh{rs:List Tm}(j:InB rs L0 L1 N):(pl L0 L1 N rs (D0 L0)).length<=rs.length:=by rw[kE,tv,<-tv (as:=rs) (f:=λt:Tm=>t.1.2)];refine t7 (Nh.mpr (gr_lt.imp xQ)) λk z=>?_;have h:=(fN j).mp z;unfold at2 at h;obtain⟨t,B,e⟩:=ND.mp h;exact LU.mpr ⟨t,B,of_decide_eq_true e⟩
theorem nM:cZ (one L i):=λx hx=>by
 obtain⟨m,_,rfl⟩:=LU.mp hx
 split<;>lia
theorem Gi{rs:List Tm}(hs:∀k,-1000<=cf rs k/\cf rs k<=1000):∀p∈pl L0 L1 N rs (D0 L0),uX L0 L1 N p:=λp j=>by
 rw[kE]at j;obtain⟨k,_,rfl⟩:=LU.mp j;refine⟨fM,fM,by simp[pq],nM,nM,λx hx=>?_⟩
 obtain⟨m,_,rfl⟩:=LU.mp hx;exact hs _
theorem AQ{L0 L1 N:Nat}{rs:List Tm}{k i j:Int}:∀{ks:List K2},ks.Nodup->(∀x∈ks,(0<=x.1/\x.1<L0)/\(0<=x.2/\x.2<L1))->Tn (ks.map λx=>pq L0 L1 N rs x.1 x.2) k i j=if(i,j)∈ks then gz ((D0 N).map λm:Nat=>cf rs (m,i,j)) k else 0
 |[],_,_=>by simp[Tn]
 |x::ks,B,F=>by
  rw[NL]at B;have ih:=AQ (N:=N) (rs:=rs) (k:=k) (i:=i) (j:=j) B.2 λy L=>F y (by simp[L])
  obtain⟨G,J⟩:=F x (by simp)
  rw[LX,dl,ih];unfold pq;dsimp only;rw[ic G.1 G.2,ic J.1 J.2]
  by_cases e:(i,j)=x
  ·subst e;rw[if_pos rfl,if_pos rfl,if_neg B.1,if_pos (by simp)];simp
  ·have hm:((i,j)∈x::ks)↔(i,j)∈ks:=⟨λz=>by rcases LI.mp z with z|z;exact absurd z e;exact z,λz=>Mg _ z⟩
   have O:(if i=x.1 then(1:Int)else 0)*(if j=x.2 then 1 else 0)=0:=by
    by_cases e1:i=x.1
    ·rw[if_neg (λz=>e (Vh e1 z))];simp
    ·rw[if_neg e1];simp
   rw[O];simp only[hm];simp
theorem AR{rs:List Tm}(B:InB rs L0 L1 N){k:Int}:Tn (pl L0 L1 N rs (D0 L0)) k i j=cf rs (k,i,j):=by
 have G:∀x∈gr rs L1 (D0 L0),(0<=x.1/\x.1<L0)/\(0<=x.2/\x.2<L1):=λx hx=>by have h:=(fN B).mp hx;unfold at2 at h;obtain⟨t,F,e⟩:=ND.mp h;have e:t.1.2=(x.1,x.2):=of_decide_eq_true e;have J:=B.i t F;have L:=B.j t F;rw[e]at J L;exact⟨J,L⟩
 rw[kE,AQ (Nh.mpr (gr_lt.imp xQ)) G];have out:(¬(0<=k/\k<N)∨at2 rs i j≠F2)->cf rs (k,i,j)=0:=λh=>iM λt F e=>by
  rcases h with h|h
  ·have:=B.k t F;rw[e]at this;exact h this
  ·exact h (ND.mpr ⟨t,F,by simp[e]⟩)
 by_cases h:at2 rs i j=F2
 ·rw[if_pos ((fN B).mpr h)]
  by_cases hk:0<=k/\k<N
  ·obtain⟨m,rfl⟩:=N9 hk.1;have hm:m<N:=by lia
   unfold gz;rw[if_neg ∅,LO,LL,LQ,MD hm];rfl
  ·rw[out (.inl hk)];apply Classical.byContradiction;intro z;have:=eI z;simp at this;exact hk this
 ·rw[if_neg (λz=>h ((fN B).mp z)),out (.inr h)]
end
section
open L2.Srt
noncomputable def ngL(l:List Int):List Int:=l.map λx=>0-x
theorem Gj:gz (ngL l) i = -gz l i:=by
 have e:ngL l=l.map ((-1) * ·):=by unfold ngL;exact MV λx _=>∅
 rw[e,xI];lia
theorem Ac(h:cZ l):cZ (ngL l):=λx hx=>by unfold ngL at hx;obtain⟨y,j,rfl⟩:=LU.mp hx;have:=h y j;lia
theorem xR:(ngL l).length=l.length:=by simp[ngL]
theorem t8{a b:List Pr}(h:a.Perm b){k:Int}:Tn a k i j=Tn b k i j:=by
 induction h with
 |nil=>rfl
 |cons x _ ih=>rw[dl,dl,ih]
 |swap x y l=>simp only[dl];lia
 |trans _ _ z B=>rw[z,B]
end
section
open L2.Srt
variable{T:List FD}
theorem EO{ps:List Pr}{a:Nat}{k:Int}:Tn (ps.drop a++ps.take a) k i j=Tn ps k i j:=by rw[t8 (Pe),NQ]
theorem Gk{r o:List Int}{k:Int}:tm (l,r,o) k i j+tm (l,r,ngL o) k i j=0:=by unfold tm;dsimp only;rw[Gj,Int.mul_neg];lia
theorem xS{a:Nat}(h:a<=ds.length):cc ds (Z (a:Int)) Y=ds.drop a:=by unfold cc;rw[HT.sIx_none,HT.sIx_nat,Nz h,NY (by simp)]
theorem xT{a:Nat}(h:a<=ds.length):cc ds Y (Z (a:Int))=ds.take a:=by unfold cc;rw[HT.sIx_none,HT.sIx_nat,Nz h,Up,Nat.sub_zero]
end
section
open L2.Srt
variable{T:List FD}
noncomputable abbrev Bks:=List (Xc×List Int)
structure RwAt(M:Mem)(p:Xc)(R:Bks)(W:Nat):Prop where
 at':M p=Z (.lst (R.map λr=>.ref r.1))
 row:∀r∈R,M r.1=Z (.lst (r.2.map .int))/\r.2.length=W
theorem RwAt.ge{R:Bks}(h:RwAt M p R W)(g:Ge M M'):RwAt M' p R W:=⟨g _ _ h.at',λr j=>⟨g _ _ (h.row r j).1,(h.row r j).2⟩⟩
noncomputable def jj(c:Int)(m b:List Int):List Int:=(m.zip b).map λu=>u.1+c*u.2
noncomputable def ax(B:List (List Int))(W:Nat)(zs:List (Int×Int)):List Int:=zs.foldl (λm z=>jj z.2 m (B.getD z.1.toNat [])) (D1 W 0)
theorem fb{B:List (List Int)}{z:Int×Int}:ax B W (zs++[z])=jj z.2 (ax B W zs) (B.getD z.1.toNat []):=by unfold ax;rw[Rj];rfl
theorem jk{m b:List Int}(h:m.length=W)(g:b.length=W):(jj c m b).length=W:=by simp[jj,h,g]
theorem fO{z:Int×Int}(h:z∈nz l):∃i:Nat,z.1=i/\i<l.length/\l[i]?=Z z.2:=by unfold nz idx at h;obtain⟨h,_⟩:=OP.mp h;obtain⟨i,hi,e⟩:=List.mem_mapIdx.mp h;subst e;exact⟨i,rfl,hi,z0 hi⟩
theorem kF{α:Type}{xs:List α}{i:Nat}{x:α}(h:xs[i]?=Z x):atI xs (i:Nat)=Z x:=by
 have:=(LP.mp h).1;unfold atI ixN;rw[if_pos ∅,if_pos ∅,PJ,LO]
 exact h
theorem qS:∀{a b:List Int},Ra ir (a.map .int) (b.map .int)=(a.zip b).map pD
 |[],_=>by simp
 |_::_,[]=>by simp
 |x::a,y::b=>by have:=qS (a:=a) (b:=b);simp only[LX,TN,QU,this];rfl
noncomputable def ie(s:Stmt)(ff:Nat):FD:=⟨"block_sum",s,["part","blocks","made","at","c"],2,
 (.cons (.asg (.name 2) (.bin .mul (.lst (.cons (.int 0) .nil)) (.blt .len (.cons (.ix (.var 1) (.int 0)) .nil))))
 (.cons (.for (.tup (.cons (.name 3) (.cons (.name 4) .nil))) (.seq (.call ff (.cons (.var 0) .nil))) (.cons (.asg (.name 2) (.comp [Y,Y,(Z 4)] ["x","y","c"] (.last (.zip (.var 2) (.ix (.var 1) (.var 3))) (.tup (.cons (.name 0) (.cons (.name 1) .nil))) .nil (.bin .add (.var 0) (.bin .mul (.var 2) (.var 1))))))
 .nil))
 (.cons (.ret (.var 2))
 .nil)))⟩
theorem t9(hf:T[f]?=Z (ie s ff))(Jm:T[ff]?=Z (dm sf))(hn:2<=n){R:Bks}{pb:Xc}(hR:RwAt M pb R W)(hl:l.length=R.length)(h0:1<=R.length)(hb:R.length<=1000)(hw:W<=100000)(hs:∀x∈l,-(2^64)<x/\x<2^64)(q:∀p M',Ge M M'->M p=Y->M' p=Z (.lst ((ax (R.map (·.2)) W (nz l)).map .int))->Q (.ref p) M'):phi T n f [.tup (l.map .int),.ref pb] M Q:=by
 refine az ∅ hf rfl (ρ:=[Z _,Z _,Y,Y,Y]) rfl ?_
 unfold ie;nofun;refine⟨by rw[I7];decide,λp1 Jn=>?_⟩
 have g1:Ge M (ag M p1 (.lst [.int 0])):=.new Jn;have G:=hR.ge g1;obtain⟨j,R',rfl⟩:∃j R',R=j::R':=by
  cases R with
  |nil=>simp at h0
  |cons j R'=>exact⟨j,R',rfl⟩
 refine aI G.at' (d:=.ref j.1) (by simp[atI,ixN]) ?_
 refine aZ (G.row j (Mr ..)).1 ?_;rw[tv,(G.row j (Mr ..)).2];refine wMul_r.mpr ⟨[.int 0],ab,∅,∅,by rw[I7];simp;lia,λp2 J=>?_⟩
 rw[show(D1 (W:Int).toNat [D.int 0]).flatten=(D1 W (0:Int)).map .int by simp]
 have g2:=g1.trans (.new (o:=.lst ((D1 W (0:Int)).map .int)) J);have Jq:=hR.ge g2;nofun;refine nJ Jm ∅ (l:=l) ∅ rfl λp3 L=>?_
 refine⟨_,ak ab,?_⟩;have g3:=g2.trans (.new (o:=.lst ((nz l).map pD)) L);refine bM (f:=pD) (ys:=nz l) (I:=λzs ρ M'=>∃pm fv o4,ρ=[Z (.tup (l.map .int)),Z (.ref pb),Z (.ref pm),fv,o4]/\Ge M M'/\M pm=Y/\M' pm=Z (.lst ((ax ((j::R').map (·.2)) W zs).map .int))/\(ax ((j::R').map (·.2)) W zs).length=W/\M' p3=Z (.lst ((nz l).map pD))) rfl ?_ ?_ ?_ ?_
 ·refine⟨p2,Y,Y,rfl,g3,?_,?_,by simp[ax],ab⟩
  ·cases e:M p2 with
   |none=>rfl
   |some o=>rw[g1 _ _ e]at J;cases J
  ·rw[aC (λz=>by subst z;rw[ab]at L;cases L)]
   exact ab
 ·rintro zs ρ M' ⟨pm,fv,o4,rfl,g,n0,em,ln,U⟩;exact ak U
 ·rintro zs z r ρ M' e ⟨pm,fv,o4,rfl,g,n0,em,ln,U⟩;refine⟨_,rfl,λF hF=>?_⟩;nofun;obtain⟨i,ei,hi,ez⟩:=fO (show z∈nz l by rw[e];simp)
  have Jr:=hs _ (Mh ez);obtain⟨b,eb⟩:∃b,(j::R')[i]?=Z b:=⟨_,z0 ∅⟩
  have O:=Mh eb;have B:=hR.ge g;refine aI B.at' (d:=.ref b.1) ?_ ?_
  ·rw[ei];exact kF (by rw[LQ,eb];rfl)
  have hB:((j::R').map (·.2)).getD z.1.toNat []=b.2:=by rw[ei,LO,LL,LQ,eb];rfl
  refine⟨_,ak em,_,ak (B.row b O).1,?_⟩;rw[qS];refine aE (f:=pD) (ys:=(ax ((j::R').map (·.2)) W zs).zip b.2) (I:=λt ρ M'' acc=>(∃o0 o1,ρ=[o0,o1,Z (.int z.2)])/\M''=M'/\acc=(t.map λu=>u.1+z.2*u.2).map .int) rfl ⟨⟨_,_,rfl⟩,rfl,rfl⟩ ?_ ?_ ?_
  ·rintro t ρ M1 acc ⟨_,rfl,_⟩;exact⟨ak em,ak (B.row b O).1⟩
  ·rintro t u r' ρ M1 acc e' ⟨⟨o0,o1,rfl⟩,rfl,rfl⟩;refine⟨_,rfl,λN' Jo=>?_⟩;have Jp:=aJ e';ac_nf;refine⟨cy ⟨∅,∅⟩,?_⟩
   rw[List.length_zip,ln]at Jp;exact⟨by rw[tv,tv,I7];lia,Jo _ _ _ ⟨⟨_,_,rfl⟩,rfl,by simp⟩⟩
  ·rintro ρ M1 acc ⟨⟨o0,o1,rfl⟩,rfl,rfl⟩ p Fn;refine hF _ _ ⟨p,_,_,rfl,g.trans (.new Fn),?_,?_,?_,?_⟩
   ·cases e9:M p with
    |none=>rfl
    |some o=>rw[g _ _ e9]at Fn;cases Fn
   ·rw[ab,fb,hB];rfl
   ·rw[fb,hB];exact jk ln (B.row b O).2
   ·rw[aC (λy=>by subst y;rw[U]at Fn;cases Fn)];exact U
 ·rintro ρ M' ⟨pm,fv,o4,rfl,g,n0,em,ln,U⟩;nofun;exact q _ _ g n0 em
end
section
open L2.Srt
variable{T:List FD}
noncomputable def bO(t:List Int)(us:List (Int×Int))(c:Int):List Int:=us.foldl (λt u=>t.set u.1.toNat (gz t u.1+c*u.2)) t
noncomputable def cz(P:List (List Int))(t:List Int)(zs:List (Int×Int))(b:List Int):List Int:=zs.foldl (λt z=>bO t ((P.getD z.1.toNat []).zip b) z.2) t
noncomputable def bU(mul:List Int->List Int->List Int)(BL BR:List (List Int))(W:Nat)(P:List (List Int))(N:Nat)(ps:List Pr):List Int:=ps.foldl (λt p=>cz P t (nz p.2.2) (mul (ax BL W (nz p.1)) (ax BR W (nz p.2.1)))) (D1 N 0)
theorem fe{c:Int}:∀{us:List (Int×Int)} {t:List Int},(bO t us c).length=t.length
 |[],_=>rfl
 |u::us,t=>by show(bO (t.set _ _) us c).length=_;rw[fe (us:=us),TU]
theorem kG{us:List (Int×Int)}{u:Int×Int}{t:List Int}:bO t (us++[u]) c=(bO t us c).set u.1.toNat (gz (bO t us c) u.1+c*u.2):=by unfold bO;rw[Rj];rfl
theorem nN{P:List (List Int)}{t:List Int}{z:Int×Int}{b:List Int}:cz P t (zs++[z]) b=bO (cz P t zs b) ((P.getD z.1.toNat []).zip b) z.2:=by unfold cz;rw[Rj];rfl
theorem gB{P:List (List Int)}{b:List Int}:∀{zs:List (Int×Int)} {t:List Int},(cz P t zs b).length=t.length
 |[],_=>rfl
 |z::zs,t=>by show(cz P (bO t _ _) zs b).length=_;rw[gB (zs:=zs),fe]
theorem gC{mul:List Int->List Int->List Int}{BL BR:List (List Int)}{W:Nat}{P:List (List Int)}{N:Nat}{ps:List Pr}{p:Pr}:bU mul BL BR W P N (ps++[p])=cz P (bU mul BL BR W P N ps) (nz p.2.2) (mul (ax BL W (nz p.1)) (ax BR W (nz p.2.1))):=by unfold bU;rw[Rj];rfl
theorem fh{BL BR P:List (List Int)}{ps:List Pr}:(bU mul BL BR W P N ps).length=N:=by
 refine bE (P:=λps=>(bU mul BL BR W P N ps).length=N) (by simp[bU]) (λl x ih=>?_) ps
 rw[gC,gB,ih]
noncomputable def kH(s:Stmt)(fs ff:Nat):FD:=⟨"by_blocks",s,["scheme","lefts","rights","places","multiply","told","times","l","r","o","block","more","k","c","at","x",""],5,
 (.cons (.par 5 6 (.bin .mul (.lst (.cons (.int 0) .nil)) (.bin .add (.ix (.ix (.var 3) (.neg (.int 1))) (.neg (.int 1))) (.int 1))) (.int 0))
 (.cons (.for (.tup (.cons (.name 7) (.cons (.name 8) (.cons (.name 9) .nil)))) (.seq (.ix (.var 0) (.int 3))) (.cons (.asg (.tup (.cons (.name 10) (.cons (.name 11) .nil))) (.callC 4 (.cons (.call fs (.cons (.var 7) (.cons (.var 1) .nil))) (.cons (.call fs (.cons (.var 8) (.cons (.var 2) .nil))) .nil))))
 (.cons (.aug 6 .add (.var 11))
 (.cons (.for (.tup (.cons (.name 12) (.cons (.name 13) .nil))) (.seq (.call ff (.cons (.var 9) .nil))) (.cons (.for (.tup (.cons (.name 14) (.cons (.name 15) .nil))) (.zip (.ix (.var 3) (.var 12)) (.var 10)) (.cons (.augI (.var 5) (.var 14) .add (.bin .mul (.var 13) (.var 15)))
 .nil))
 .nil))
 .nil))))
 (.cons (.ret (.tup (.cons (.var 5) (.cons (.var 6) .nil))))
 .nil)))⟩
theorem xU(s:Stmt)(fs ff:Nat):(kH s fs ff).takes:=by show(Mu "")∈([_,_,_,_,_,_,_,_,_,_,_,_,_,_,_,_,Mu ""]:List Str);simp only[LI,true_or,or_true]
theorem tf{α:Type}{xs:List α}{x:α}(h:xs.getLast?=Z x):atI xs (-1)=Z x:=by
 rw[Pg]at h;have:=(LP.mp h).1;unfold atI ixN;rw[if_neg ∅,if_pos ∅,PJ]
 rw[<-h];congr 1;lia
theorem qT{M2:Mem}(g:Ge M M2)(h:M p=Y):Ge M (ag M2 p o):=λa o' e=>by rw[aC (λz=>by rw[z,h]at e;cases e)];exact g _ _ e
theorem qU(g:Ge M M')(h:M' p=Y):M p=Y:=by
 cases e:M p with
 |none=>rfl
 |some o=>rw[g _ _ e]at h;cases h
theorem EQ {fs:Nat}{ss:Stmt}(hf:T[f]?=Z (kH s fs ff))(Jo:T[fs]?=Z (ie ss ff))(L:T[ff]?=Z (dm sf))(h5:fs<5000/\ff<5000/\f<1000){j:Nat}(hn:4<=n)(hj:j<1000){gs:List D}{pp pL pR pP:Xc}{a0 a1 a2:D}{ps:List Pr}{RL RR RP:Bks}{V tm:Nat}(ep:M pp=Z (.lst (ps.map prD)))(hL:RwAt M pL RL W)(hR:RwAt M pR RR W)(hP:RwAt M pP RP V)(h0:1<=RL.length/\RL.length<=1000/\1<=RR.length/\RR.length<=1000/\1<=RP.length/\RP.length<=1000)(hw:W<=100000)(hv:1<=V/\V<=100000)(hN:N<=1000000)(hl:∀p∈ps,p.1.length=RL.length/\p.2.1.length=RR.length/\p.2.2.length=RP.length)(hs:∀p∈ps,(∀x∈p.1,-(2^64)<x/\x<2^64)/\(∀x∈p.2.1,-(2^64)<x/\x<2^64)/\∀x∈p.2.2,-(2^64)<x/\x<2^64)(Jv:∀r∈RP,∀x∈r.2,0<=x/\x<N)(Jw:∃r,RP.getLast?=Z r/\r.2.getLast?=Z ((N:Int)-1))(Jx:∀p∈ps,(mul (ax (RL.map (·.2)) W (nz p.1)) (ax (RR.map (·.2)) W (nz p.2.1))).length=V)(hmul:∀{p x y O Q1},p∈ps->Ge M O->O x=Z (.lst ((ax (RL.map (·.2)) W (nz p.1)).map .int))->O y=Z (.lst ((ax (RR.map (·.2)) W (nz p.2.1)).map .int))->
   (∀z M2,Ge O M2->O z=Y->M2 z=Z (.lst ((mul (ax (RL.map (·.2)) W (nz p.1)) (ax (RR.map (·.2)) W (nz p.2.1))).map .int))->Q1 (.tup [.ref z,.int tm]) M2)->rOf (phi T (n-1)) j gs js [.ref x,.ref y] O Q1)(q:∀p M',Ge M M'->M p=Y->M' p=Z (.lst ((bU mul (RL.map (·.2)) (RR.map (·.2)) W (RP.map (·.2)) N ps).map .int))->Q (.tup [.ref p,.int (ps.length*tm:Nat)]) M'):
 phi T n (1000+f) [.tup [a0,a1,a2,.ref pp],.ref pL,.ref pR,.ref pP,.ref a,.int (j:Nat),.tup gs,.tup ((js:List Nat).map λi:Nat=>.int i)] M Q:=by
 refine zX (xs:=[.tup [a0,a1,a2,.ref pp],.ref pL,.ref pR,.ref pP]) ∅ ∅ hj hf (xU s fs ff) rfl (ρ:=[Z _,Z _,Z _,Z _,Z _,Y,Y,Y,Y,Y,Y,Y,Y,Y,Y,Y,Y]) rfl ?_
 unfold kH;nofun;refine⟨by rw[I7];decide,λp1 Jy=>?_⟩
 have g1:Ge M (ag M p1 (.lst [.int 0])):=.new Jy;obtain⟨rl,el,Jz⟩:=Jw;have Jp:=hP.ge g1;refine aI Jp.at' (d:=.ref rl.1) (tf (by rw[SN,el];rfl)) ?_
 refine aI (Jp.row rl (List.mem_of_getLast? el)).1 (d:=.int ((N:Int)-1)) (tf (by rw[SN,Jz];rfl)) ?_
 rw[EE,show(N:Int)-1+1=N by lia]
 refine wMul_r.mpr ⟨[.int 0],ab,∅,∅,by rw[I7];simp;lia,λpt Jq=>?_⟩
 rw[show(D1 (N:Int).toNat [D.int 0]).flatten=(D1 N (0:Int)).map .int by simp]
 have g2:=g1.trans (.new (o:=.lst ((D1 N (0:Int)).map .int)) Jq);have npt:=qU g1 Jq;have eps:=g2 _ _ ep;nofun;refine⟨_,rfl,_,ak eps,?_⟩;refine bM (f:=prD) (ys:=ps) (I:=λl ρ M'=>∃o7 o8 o9 JA JB U Fn B G,ρ=[Z (.tup [a0,a1,a2,.ref pp]),Z (.ref pL),Z (.ref pR),Z (.ref pP),Z (.ref a),Z (.ref pt),Z (.int (l.length*tm:Nat)),o7,o8,o9,JA,JB,U,Fn,B,G,Y]/\Ge M M'/\M' pt=Z (.lst ((bU mul (RL.map (·.2)) (RR.map (·.2)) W (RP.map (·.2)) N l).map .int))) rfl ?_ ?_ ?_ ?_
 ·exact⟨Y,Y,Y,Y,Y,Y,Y,Y,Y,by simp,g2,ab⟩
 ·rintro l ρ M' ⟨_,_,_,_,_,_,_,_,_,rfl,g,_⟩;exact ak (g _ _ ep)
 ·rintro l p r ρ M' e ⟨_,_,_,_,_,_,_,_,_,rfl,g,et⟩;refine⟨_,rfl,λF hF=>?_⟩;have hp:p∈ps:=by rw[e];simp
  obtain⟨l1,l2,l3⟩:=hl p hp;obtain⟨s1,s2,s3⟩:=hs p hp;have lo:p.2.2.length<=1000:=by rw[l3];exact h0.2.2.2.2.2
  nofun;refine⟨a,rfl,?_⟩;ac_nf;refine lw (t9 Jo L ∅ (hL.ge g) l1 h0.1 h0.2.1 hw s1 λx O gx nx ex=>?_) h5.1
  refine lw (t9 Jo L ∅ ((hR.ge g).ge gx) l2 h0.2.2.1 h0.2.2.2.1 hw s2 λy M2 gy ny ey=>?_) h5.1
  have gm:=(g.trans gx).trans gy;refine Ch (hmul hp gm (gy _ _ ex) ey λz M3 gz' nz' ez=>?_);have g3:=gm.trans gz';refine⟨_,rfl,?_⟩;nofun;have Jr:=(gx.trans gy |>.trans gz') _ _ et
  nofun;refine lw (nJ L ∅ (l:=p.2.2) ∅ rfl λpz J=>?_) h5.2.1
  have g4:=g3.trans (.new (o:=.lst ((nz p.2.2).map pD)) J);have fv:ag M3 pz (.lst ((nz p.2.2).map pD)) z=_:=Ge.new (o:=.lst ((nz p.2.2).map pD)) J _ _ ez;have Jm:ag M3 pz (.lst ((nz p.2.2).map pD)) pt=_:=Ge.new (o:=.lst ((nz p.2.2).map pD)) J _ _ Jr;have Jn:ag M3 pz (.lst ((nz p.2.2).map pD)) pz=Z (.lst ((nz p.2.2).map pD)):=ab;have nzp:z≠pt:=λy=>by subst y;rw[(gx.trans gy) _ _ et]at nz';cases nz'
  have npp:pz≠pt:=λy=>by subst y;rw[Jr]at J;cases J
  generalize ag M3 pz (.lst ((nz p.2.2).map pD))=M4 at g4 fv Jm Jn⊢;have Js:(bU mul (RL.map (·.2)) (RR.map (·.2)) W (RP.map (·.2)) N l).length=N:=fh;have hb:=Jx p hp;have fin:=@gC mul (RL.map (·.2)) (RR.map (·.2)) W (RP.map (·.2)) N l p;generalize bU mul (RL.map (·.2)) (RR.map (·.2)) W (RP.map (·.2)) N l=t0 at Jm Js fin;generalize mul (ax (RL.map (·.2)) W (nz p.1)) (ax (RR.map (·.2)) W (nz p.2.1))=b at fv hb fin;refine⟨_,ak Jn,?_⟩;refine bM (f:=pD) (ys:=nz p.2.2) (I:=λzs ρ M'=>∃U Fn B G,ρ=[Z (.tup [a0,a1,a2,.ref pp]),Z (.ref pL),Z (.ref pR),Z (.ref pP),Z (.ref a),Z (.ref pt),Z (.int ((l.length*tm:Nat)+(tm:Nat))),Z (.tup (p.1.map .int)),Z (.tup (p.2.1.map .int)),Z (.tup (p.2.2.map .int)),Z (.ref z),Z (.int (tm:Nat)),U,Fn,B,G,Y]/\M'=ag M4 pt (.lst ((cz (RP.map (·.2)) t0 zs b).map .int))) rfl ?_ ?_ ?_ ?_
  ·exact⟨_,_,_,_,rfl,(xz Jm).symm⟩
  ·rintro zs ρ M' ⟨_,_,_,_,rfl,rfl⟩;exact ak (by rw[aC npp];exact Jn)
  ·rintro zs w r' ρ M' e' ⟨_,_,_,_,rfl,rfl⟩;refine⟨_,rfl,λF2 JC=>?_⟩;obtain⟨i,ei,hi,ew⟩:=fO (show w∈nz p.2.2 by rw[e'];simp)
   have JH:=s3 _ (Mh ew);obtain⟨row,er⟩:∃row,RP[i]?=Z row:=⟨_,z0 ∅⟩
   have Jt:=Mh er;have g5:∀t:List Int,Ge M (ag M4 pt (.lst (t.map .int))):=λt=>qT g4 npt;have JD:(RP.map (·.2)).getD w.1.toNat []=row.2:=by rw[ei,LO,LL,LQ,er];rfl
   have sz:∀t:List Int,aN (ag M4 pt (.lst (t.map .int))) (.ref z)=Z (b.map .int):=λt=>ak (by rw[aC nzp];exact fv)
   have sr:∀t:List Int,aN (ag M4 pt (.lst (t.map .int))) (.ref row.1)=Z (row.2.map .int):=λt=>ak (g5 t _ _ (hP.row row Jt).1);nofun;refine aI ((hP.ge (g5 _)).at') (d:=.ref row.1) (by rw[ei];exact kF (by rw[LQ,er];rfl)) ?_
   refine⟨_,sr _,_,sz _,?_⟩;rw[qS];have JE:(cz (RP.map (·.2)) t0 zs b).length=N:=by rw[gB,Js]
   refine bM (f:=pD) (ys:=row.2.zip b) (I:=λus ρ M'=>∃B G,ρ=[Z (.tup [a0,a1,a2,.ref pp]),Z (.ref pL),Z (.ref pR),Z (.ref pP),Z (.ref a),Z (.ref pt),Z (.int ((l.length*tm:Nat)+(tm:Nat))),Z (.tup (p.1.map .int)),Z (.tup (p.2.1.map .int)),Z (.tup (p.2.2.map .int)),Z (.ref z),Z (.int (tm:Nat)),Z (.int w.1),Z (.int w.2),B,G,Y]/\M'=ag M4 pt (.lst ((bO (cz (RP.map (·.2)) t0 zs b) us w.2).map .int))) rfl ?_ ?_ ?_ ?_
   ·exact⟨_,_,rfl,rfl⟩
   ·rintro us ρ M' ⟨_,_,rfl,rfl⟩;exact⟨sr _,sz _⟩
   ·rintro us u r2 ρ M' e2 ⟨_,_,rfl,rfl⟩;refine⟨_,rfl,λF3 JF=>?_⟩;have hu:=Jv row Jt u.1 (Q8 (show(u.1,u.2)∈row.2.zip b by rw[e2];simp)).1
    have Ju:(bO (cz (RP.map (·.2)) t0 zs b) us w.2).length=N:=by rw[fe,JE]
    have eu:u.1=((u.1.toNat:Nat):Int):=∅
    have hk:u.1.toNat<N:=∅
    have JG:atI ((bO (cz (RP.map (·.2)) t0 zs b) us w.2).map D.int) u.1=Z (.int (gz (bO (cz (RP.map (·.2)) t0 zs b) us w.2) u.1)):=by rw[eu];exact kF (by rw[LQ,dB (by rw[Ju];exact hk)];rfl)
    nofun;refine⟨pt,_,u.1,_,rfl,rfl,ab,JG,cy ⟨∅,∅⟩,?_⟩
    rw[Cg];refine cK ab (j:=u.1.toNat) (by rw[eu,tv,Ju];unfold ixN;rw[if_pos ∅,if_pos ∅]) ?_
    rw[xx,<-TM];exact JF _ _ ⟨_,_,rfl,by rw[kG]⟩
   ·rintro ρ M' ⟨_,_,rfl,rfl⟩;ac_nf;exact JC _ _ ⟨_,_,_,_,rfl,by rw[nN,JD]⟩
  ·rintro ρ M' ⟨_,_,_,_,rfl,rfl⟩;ac_nf;have e6:((l.length*tm:Nat):Int)+(tm:Nat)=((l++[p]).length*tm:Nat):=by rw[J4,NP,R4,Nat.one_mul,QR]
   rw[e6];exact hF _ _ ⟨_,_,_,_,_,_,_,_,_,rfl,qT g4 npt,by rw[ab,fin]⟩
 ·rintro ρ M' ⟨_,_,_,_,_,_,_,_,_,rfl,g,et⟩;nofun;exact⟨by rw[I7];decide,q _ _ g npt et⟩
end
section
open L2.Srt
theorem Ad{t:List Int}:∀us:List (Int×Int),(∀u∈us,0<=u.1/\u.1<t.length)->gz (bO t us c) z=gz t z+c*S1 us z:=by
 refine bE (P:=λus:List (Int×Int)=>(∀u∈us,0<=u.1/\u.1<(t.length:Int))->gz (bO t us c) z=gz t z+c*S1 us z) (λ_=>by simp[bO,S1]) λl x ih h=>?_
 have hx:=h x (by simp)
 have e:=ih λu j=>h u (MJ _ j);rw[kG,xL (by rw[fe];lia),xJ,sY,show S1 [] z=0 by rfl]
 by_cases y:z=x.1
 ·subst y;rw[if_pos ∅,if_pos rfl,e];grind
 ·rw[if_neg ∅,if_neg ∅,e];grind
theorem CJ{P:List (List Int)}{b t:List Int}:∀zs:List (Int×Int),(∀w∈zs,∀u∈(P.getD w.1.toNat []).zip b,0<=u.1/\u.1<t.length)->gz (cz P t zs b) z=gz t z+(zs.map λw=>w.2*S1 ((P.getD w.1.toNat []).zip b) z).sum:=by
 refine bE (P:=λzs=>(∀w∈zs,∀u∈(P.getD w.1.toNat []).zip b,0<=u.1/\u.1<t.length)->gz (cz P t zs b) z=gz t z+(zs.map λw=>w.2*S1 ((P.getD w.1.toNat []).zip b) z).sum) (λ_=>by simp[cz]) λl x ih h=>?_
 have e:=ih λu j=>h u (MJ _ j);rw[nN,Ad _ (by rw[gB];exact h x (by simp)),e,Mo,QS]
 simp;lia
theorem ER{x:Int}:nz (l++[x])=nz l++(if x=0 then[]else[(((l.length:Nat):Int),x)]):=by
 unfold nz idx;rw[List.mapIdx_append,Q7];congr 1
 by_cases h:x=0<;>simp[h]
theorem xV{x:Int}{i:Nat}:gz (l++[x]) (i:Nat)=if i=l.length then x else gz l (i:Nat):=by
 rw[nI,dj,xH]
 by_cases h:i=l.length
 ·subst h;simp
 ·rw[if_neg h]
  by_cases y:i<l.length
  ·rw[if_pos ∅]
  ·rw[if_neg ∅,if_neg ∅]
   by_cases w:gz l (i:Nat)=0
   ·rw[w]
   ·have:=eI w;lia
theorem xW:∀l:List Int,((nz l).map λw=>w.2*G w.1.toNat).sum=aj l.length λi=>gz l (i:Nat)*G i:=by
 refine bE (P:=λl=>((nz l).map λw=>w.2*G w.1.toNat).sum=aj l.length λi=>gz l (i:Nat)*G i) (by rfl) λl x ih=>?_
 rw[ER,Mo,QS,ih,J4,NP,rsum_succ,xV,if_pos rfl];congr 1
 ·exact al λi hi=>by rw[xV,if_neg ∅]
 ·by_cases h:x=0
  ·subst h;simp
  ·rw[if_neg h];simp
theorem CK{m b:List Int}(hm:m.length=W)(j:b.length=W)(z:q<W):gz (jj c m b) (q:Nat)=gz m (q:Nat)+c*gz b (q:Nat):=by
 have h1:q<m.length:=∅
 have h2:q<b.length:=∅
 have e:(jj c m b)[q]?=Z (m[q]+c*b[q]):=by unfold jj;rw[LQ,show(m.zip b)[q]?=Z (m[q],b[q])from List.getElem?_zip_eq_some.mpr ⟨z0 h1,z0 h2⟩];rfl
 unfold gz;rw[if_neg ∅,if_neg ∅,if_neg ∅,LO,LL,LL,LL,e,z0 h1,z0 h2]
 rfl
theorem CL{B:List (List Int)}(j:q<W):∀zs:List (Int×Int),(∀w∈zs,(B.getD w.1.toNat []).length=W)->(ax B W zs).length=W/\gz (ax B W zs) (q:Nat)=(zs.map λw=>w.2*gz (B.getD w.1.toNat []) (q:Nat)).sum:=by
 refine bE (P:=λzs=>(∀w∈zs,(B.getD w.1.toNat []).length=W)->(ax B W zs).length=W/\gz (ax B W zs) (q:Nat)=(zs.map λw=>w.2*gz (B.getD w.1.toNat []) (q:Nat)).sum) (λ_=>⟨by simp[ax],by simp[ax];exact kA⟩) λl x ih h=>?_
 obtain⟨e1,e2⟩:=ih λu z=>h u (MJ _ z);have hx:=h x (by simp)
 rw[fb];refine⟨jk e1 hx,?_⟩;rw[CK e1 hx j,e2,Mo,QS];simp
theorem tj{B:List (List Int)}(j:q<W)(F:l.length=B.length)(z:∀b∈B,b.length=W):gz (ax B W (nz l)) (q:Nat)=aj l.length λi=>gz l (i:Nat)*gz (B.getD i []) (q:Nat):=by
 rw[(CL j (nz l) λw hw=>?_).2,xW (G:=λi=>gz (B.getD i []) (q:Nat))];obtain⟨i,ei,hi,_⟩:=fO hw;rw[ei,LO,LL,z0 ∅]
 exact z _ (PM _)
theorem eM{B:List (List Int)}(F:l.length=B.length)(j:∀b∈B,b.length=W):(ax B W (nz l)).length=W:=by
 have g:∀zs:List (Int×Int),(∀w∈zs,(B.getD w.1.toNat []).length=W)->(ax B W zs).length=W:=bE (P:=λzs=>(∀w∈zs,(B.getD w.1.toNat []).length=W)->(ax B W zs).length=W) (λ_=>by simp[ax]) λl x ih h=>by rw[fb];exact jk (ih λu z=>h u (MJ _ z)) (h x (by simp))
 refine g _ λw hw=>?_;obtain⟨i,ei,hi,_⟩:=fO hw;rw[ei,LO,LL,z0 ∅]
 exact j _ (PM _)
end
section
open L2.Srt
theorem fP{i:Nat}{x:Int}(h:l[i]?=Z x):gz l (i:Nat)=x:=by unfold gz;rw[if_neg ∅,LO,LL,h];rfl
theorem qV{m:Nat}{F:Nat->Int}:∀n:Nat,aj (n*m) F=aj n λa=>aj m λb=>F (a*m+b)
 |0=>by rw[Nat.zero_mul];rfl
 |n+1=>by
  rw[rsum_succ,<-qV n];have g:∀k:Nat,aj (n*m+k) F=aj (n*m) F+aj k λb=>F (n*m+b):=λk=>by
   induction k with
   |zero=>show _=_+0;simp
   |succ k ih=>rw[<-QM,rsum_succ,ih,rsum_succ];lia
  rw[PZ,g m]
theorem Ae{s:Nat}(h:s<=W)(z:∀i,s<=i->F i=0):aj W F=aj s F:=by
 obtain⟨k,rfl⟩:=Nat.exists_eq_add_of_le h;clear h
 induction k with
 |zero=>rfl
 |succ k ih=>rw[<-QM,rsum_succ,ih,z _ ∅];simp
theorem AS{z:Int}:∀{r b:List Int},r.length=b.length->S1 (r.zip b) z=aj b.length λq=>if gz r (q:Nat)=z then gz b (q:Nat)else 0
 |[],[],_=>rfl
 |x::r,y::b,h=>by
  rw[QU,sY,AS (r:=r) (b:=b) (by simpa using h),MP,nH]
  congr 1
theorem tq{w m:Nat}{k:Int}{GL GR:Nat->Nat->Int}:∀ps:List Pr,(ps.map λp=>gz p.2.2 k*aj w λb=>(aj m λi=>gz p.1 (i:Nat)*GL i b)*(aj m λj=>gz p.2.1 (j:Nat)*GR j b)).sum=aj w λb=>aj m λi=>aj m λj=>Tn ps k (i:Nat) (j:Nat)*(GL i b*GR j b)
 |[]=>by
  rw[aS]
  ·rfl
  ·exactλb _=>aS λi _=>aS λj _=>by simp[Tn]
 |p::ps=>by
  rw[LX,T3,tq ps,<-cj,<-di];refine al λb _=>?_;rw[<-i9,<-cj,<-di];refine al λi _=>?_;rw[<-cj,<-cj,<-di];refine al λj _=>?_;rw[dl]
  grind
end
section
open L2.Srt
noncomputable def cvz(w:Nat)(A B:List Int)(z:Int):Int:=aj w λi=>gz A (i:Nat)*gz B (z-(i:Nat))
noncomputable def cv(w:Nat)(A B:List Int):List Int:=(D0 (2*w-1)).map λz:Nat=>cvz w A B (z:Nat)
theorem fQ:(cv w A B).length=2*w-1:=by simp[cv]
theorem dr(h:¬(0<=i/\i<l.length)):gz l i=0:=Decidable.byContradiction λz=>h (eI z)
theorem ES(j:B.length<=w)(h:¬(0<=z/\z<(2*w-1:Nat))):cvz w A B z=0:=aS λi hi=>by rw[dr (l:=B) ∅,Int.mul_zero]
theorem vc(j:B.length<=w):gz (cv w A B) z=cvz w A B z:=by
 by_cases h:0<=z/\z<(2*w-1:Nat)
 ·obtain⟨k,rfl⟩:=N9 h.1;refine fP ?_;unfold cv;rw[LQ,MD ∅];rfl
 ·rw[ES j h,dr (by rw[fQ];exact h)]
noncomputable def pln(n w:Nat):List (List Int):=(D0 (2*n-1)).map λk:Nat=>(D0 (2*w-1)).map λx:Nat=>((k*w:Nat):Int)+(x:Nat)
theorem fR:(pln n w).length=2*n-1:=by simp[pln]
theorem xX:∀r∈pln n w,∀x∈r,0<=x/\x<(2*n*w-1:Nat):=λr h z B=>by
 obtain⟨k,j,rfl⟩:=LU.mp h;obtain⟨x,hx,rfl⟩:=LU.mp B;have j:=MY.mp j;have hx:=MY.mp hx;have h1:(k+2)*w<=2*n*w:=Oi w ∅
 rw[R4]at h1;lia
theorem ET{i:Nat}(hi:i<2*n-1):(pln n w).getD i []=(D0 (2*w-1)).map λx:Nat=>((i*w:Nat):Int)+(x:Nat):=by unfold pln;rw[LL,LQ,MD hi];rfl
theorem EU{i:Nat}(hi:i<2*n-1){b:List Int}(B:b.length=2*w-1):S1 (((pln n w).getD i []).zip b) z=gz b (z-(i*w:Nat)):=by
 rw[ET hi,AS (by simp[B]),B]
 have ev:∀q,q<2*w-1->gz ((D0 (2*w-1)).map λx:Nat=>((i*w:Nat):Int)+(x:Nat)) (q:Nat)=((i*w:Nat):Int)+(q:Nat):=λq j=>fP (by rw[LQ,MD j];rfl)
 by_cases h:0<=z-(i*w:Nat)/\z-(i*w:Nat)<(2*w-1:Nat)
 ·obtain⟨k,G⟩:=N9 h.1;rw[G,<-eY (n:=2*w-1) (k:=k) (F:=λq=>gz b (q:Nat)) ∅]
  refine al λq j=>?_;rw[ev q j]
  by_cases e:k=q
  ·rw[if_pos ∅,if_pos e]
  ·rw[if_neg ∅,if_neg e]
 ·rw[dr (by rw[B];exact h)]
  exact aS λq j=>if_neg (by rw[ev q j];lia)
theorem Af{BL BR P:List (List Int)}{V:Nat}(G:List Int->Nat->Int):∀ps:List Pr,(∀p∈ps,p.2.2.length=P.length/\(mul (ax BL W (nz p.1)) (ax BR W (nz p.2.1))).length=V)->(∀r∈P,∀x∈r,0<=x/\x<N)->
 (∀(b:List Int) (i:Nat),b.length=V->i<P.length->S1 ((P.getD i []).zip b) z=G b i)->
 gz (bU mul BL BR W P N ps) z=(ps.map λp=>aj P.length λk=>gz p.2.2 (k:Nat)*G (mul (ax BL W (nz p.1)) (ax BR W (nz p.2.1))) k).sum:=by
 intro ps h B F
 revert ps
 refine bE (P:=λps=>(∀p∈ps,p.2.2.length=P.length/\(mul (ax BL W (nz p.1)) (ax BR W (nz p.2.1))).length=V)->gz (bU mul BL BR W P N ps) z=(ps.map λp=>aj P.length λk=>gz p.2.2 (k:Nat)*G (mul (ax BL W (nz p.1)) (ax BR W (nz p.2.1))) k).sum) (λ_=>by simp[bU];exact kA) λl p ih h=>?_
 have e:=ih λu j=>h u (MJ _ j);obtain⟨h1,h2⟩:=h p (by simp)
 rw[gC,CJ,e,Mo,QS]
 ·congr 1;have e2:(nz p.2.2).map (fun w=>w.2*S1 ((P.getD w.1.toNat []).zip (mul (ax BL W (nz p.1)) (ax BR W (nz p.2.1)))) z)=(nz p.2.2).map fun w=>w.2*G (mul (ax BL W (nz p.1)) (ax BR W (nz p.2.1))) w.1.toNat:=MV fun w hw=>by
   obtain⟨i,ei,hi,_⟩:=fO hw;rw[ei,LO,F _ i h2 ∅]
  rw[e2,xW (G:=G (mul (ax BL W (nz p.1)) (ax BR W (nz p.2.1)))),h1];simp
 ·intro w hw u j;obtain⟨i,ei,hi,_⟩:=fO hw;rw[fh];rw[ei,LO,LL,z0 ∅]at j
  exact B _ (PM _) _ (Q8 j).1
theorem qW{α:Type}{m:Nat}{F:α->Nat->Int}:∀ps:List α,(ps.map λp=>aj m λk=>F p k).sum=aj m λk=>(ps.map λp=>F p k).sum
 |[]=>(aS λ_ _=>rfl).symm
 |p::ps=>by rw[LX,T3,qW ps,<-di];exact al λk _=>by rw[LX,T3]
noncomputable def blk(n w:Nat)(A:List Int):List (List Int):=(D0 n).map λi:Nat=>(D0 w).map λx:Nat=>gz A (i*w+x:Nat)
theorem cu:(blk n w A).length=n:=by simp[blk]
theorem dq:∀b∈blk n w A,b.length=w:=λb j=>by obtain⟨k,_,rfl⟩:=LU.mp j;simp
theorem EV{i:Nat}(hi:i<n):(blk n w A).getD i []=(D0 w).map λx:Nat=>gz A (i*w+x:Nat):=by unfold blk;rw[LL,LQ,MD hi];rfl
theorem ig{i:Nat}(hi:i<n):gz ((blk n w A).getD i []) y=if 0<=y/\y<w then gz A ((i*w:Nat)+y)else 0:=by
 rw[EV hi]
 by_cases h:0<=y/\y<w
 ·obtain⟨k,rfl⟩:=N9 h.1;rw[if_pos h];exact fP (by rw[LQ,MD ∅];rfl)
 ·rw[if_neg h,dr (by simpa using h)]
theorem qX(j:l.length=n):gz (ax (blk n w B) w (nz l)) y=aj n λi=>gz l (i:Nat)*gz ((blk n w B).getD i []) y:=by
 by_cases h:0<=y/\y<w
 ·obtain⟨k,rfl⟩:=N9 h.1;rw[tj ∅ (by rw[j,cu]) dq,j]
 ·rw[dr (by rw[eM (by rw[j,cu]) dq];exact h)]
  exact(aS λi hi=>by rw[ig hi,if_neg h,Int.mul_zero]).symm
theorem Ag(hw:0<w)(L:B.length<=n*w){u:Int}:(aj n λj=>gz ((blk n w B).getD j []) (u-(j*w:Nat)))=gz B u:=by
 by_cases h:0<=u/\u<(n*w:Nat)
 ·obtain⟨k,rfl⟩:=N9 h.1;have J:k<n*w:=by lia
  have e:=U1 k w;have hm:=WH k hw;have hd:k / w<n:=RH (by rw[S2];exact J)
  rw[<-eY (n:=n) (k:=k / w) (F:=λ_=>gz B (k:Nat)) hd];refine al λj G=>?_;rw[ig G]
  by_cases ej:k / w=j
  ·subst ej;rw[S2]at e;rw[if_pos rfl,if_pos ∅];congr 1;lia
  ·rw[if_neg ej,if_neg];intro z;refine ej ?_;have O:j*w<=k:=by lia
   have U:k<(j+1)*w:=by rw[R4];lia
   exact(Nat.div_eq_of_lt_le ∅ ∅)
 ·rw[dr ∅]
  refine aS λj G=>?_;rw[ig G,if_neg];intro z;have:(j+1)*w<=n*w:=Oi w G;rw[R4]at this;exact h ∅
theorem CM{s:Nat}(hw:0<w){ps:List Pr}(fv:A.length=s)(hB:B.length=s)(hs:s<=n*w)(U:∀k i j,Tn ps k i j=cf (bh n n) (k,i,j))(J:∀p∈ps,p.1.length=n/\p.2.1.length=n/\p.2.2.length=2*n-1):
 gz (bU (cv w) (blk n w A) (blk n w B) w (pln n w) (2*n*w-1) ps) z=cvz s A B z:=by
 have L:∀p∈ps,(ax (blk n w B) w (nz p.2.1)).length=w:=λp G=>eM (by rw[(J p G).2.1,cu]) dq
 rw[Af (V:=2*w-1) (λb i=>gz b (z-(i*w:Nat))) ps (λp G=>⟨by rw[(J p G).2.2,fR],fQ⟩) xX λb i O hi=>EU (by rwa[fR]at hi) O,fR]
 have e1:ps.map (λp=>aj (2*n-1) λk=>gz p.2.2 (k:Nat)*gz (cv w (ax (blk n w A) w (nz p.1)) (ax (blk n w B) w (nz p.2.1))) (z-(k*w:Nat)))
  = ps.map λp=>aj (2*n-1) λk=>gz p.2.2 (k:Nat)*aj w λb=>(aj n λi=>gz p.1 (i:Nat)*gz ((blk n w A).getD i []) (b:Nat))*(aj n λj=>gz p.2.1 (j:Nat)*gz ((blk n w B).getD j []) (z-(k*w:Nat)-(b:Nat))):=MV λp G=>by
  obtain⟨l1,l2,l3⟩:=J p G;refine al λk Fn=>?_;rw[vc (by rw[L p G];exact LW _)]
  congr 1;exact al λb O=>by rw[qX l1,qX l2]
 rw[e1,qW,al λk _=>tq (w:=w) (m:=n) (k:=(k:Nat)) (GL:=λi b=>gz ((blk n w A).getD i []) (b:Nat)) (GR:=λj b=>gz ((blk n w B).getD j []) (z-(k*w:Nat)-(b:Nat))) ps];rw[dA];have e2:∀b,b<w->(aj (2*n-1) λk=>aj n λi=>aj n λj=>Tn ps (k:Nat) (i:Nat) (j:Nat)*(gz ((blk n w A).getD i []) (b:Nat)*gz ((blk n w B).getD j []) (z-(k*w:Nat)-(b:Nat))))
  = aj n λi=>gz A (i*w+b:Nat)*gz B (z-(i*w+b:Nat)):=λb O=>by
  rw[dA];refine al λi hi=>?_;rw[dA,<-Ag hw (B:=B) (n:=n) ∅,<-cj]
  refine al λj hj=>?_;rw[<-eY (n:=2*n-1) (k:=i+j) (F:=λk=>gz A (i*w+b:Nat)*gz ((blk n w B).getD j []) (z-(i*w+b:Nat)-(j*w:Nat))) ∅]
  refine al λk Fn=>?_;rw[U,lK]
  by_cases e:i+j=k
  ·subst e;rw[if_pos rfl,if_pos ∅,ig hi,if_pos ∅,Int.one_mul]
   congr 2;rw[R4];lia
  ·rw[if_neg e,if_neg ∅,Int.zero_mul]
 rw[al e2,dA,<-qV (F:=λq=>gz A (q:Nat)*gz B (z-(q:Nat)))];exact Ae hs λi hi=>by rw[dr (l:=A) ∅,Int.zero_mul]
theorem CN{s:Nat}(hw:0<w){ps:List Pr}(G:A.length=s)(J:B.length=s)(hs:s<=n*w)(L:∀k i j,Tn ps k i j=cf (bh n n) (k,i,j))(O:∀p∈ps,p.1.length=n/\p.2.1.length=n/\p.2.2.length=2*n-1):
 (bU (cv w) (blk n w A) (blk n w B) w (pln n w) (2*n*w-1) ps).take (2*s-1)=cv s A B:=by
 have h2:2*s-1<=2*n*w-1:=by rw[T5];lia
 apply Ov;intro z
 by_cases F:z<2*s-1
 ·rw[O8 F,dB (by rw[fh];lia),CM hw G J hs L O,dB (by rw[fQ];exact F),vc ∅]
 ·rw[Ni (by rw[Mm];lia),Ni (by rw[fQ];lia)]
end
section
open L2.Srt
variable{T:List FD}
noncomputable def kI(s:Stmt):FD:=⟨"block_length",s,["length","n"],2,
 (.cons (.ret (.bin .fdiv (.bin .sub (.bin .add (.var 0) (.var 1)) (.int 1)) (.var 1)))
 .nil)⟩
theorem CO(hf:T[f]?=Z (kI s)){k:Nat}(z:1<=k){l:Nat}(B:1<=n)(j:n<=1000)(q:Q (.int ((l+n-1) / n:Nat)) M):phi T k f [.int l,.int n] M Q:=by
 refine az ∅ hf rfl (ρ:=[Z _,Z _]) rfl ?_
 unfold kI;nofun;refine⟨∅,∅,?_⟩
 rw[show((l:Int)+n-1) / n=(((l+n-1) / n:Nat):Int) by rw[Int.natCast_ediv];congr 1;lia]
 exact q
theorem nO{l r:List Nat}{x:Nat}(e:D0 n=l++x::r):x=l.length/\x<n/\l=D0 x:=by
 have h1:x<n:=MY.mp (by rw[e];simp)
 have h2:(D0 n)[l.length]?=Z x:=by rw[e];simp
 have j:l.length<n:=by have:=congrArg O6 e;simp at this;lia
 rw[MD j]at h2
 cases h2
 refine⟨rfl,h1,?_⟩;have z:(D0 n).take l.length=l:=by rw[e];simp
 rw[<-z,List.take_range,Nz ∅]
 simp
end
section
open L2.Srt
variable{T:List FD}
noncomputable def tms(m n:Nat):Nat->Nat->Nat
 |0,_=>1
 |d+1,s=>if s=1 then 1 else m*tms m n d ((s+n-1) / n)
def Lim(m:Nat)(l:List Int):Prop:=∀x∈l,x.natAbs<2^m
theorem Lim.gz(h:Lim m l)(i:Int):(gz l i).natAbs<2^m:=by
 by_cases z:Mi.gz l i=0
 ·rw[z];exact Wk m
 ·obtain⟨h0,h1⟩:=eI z;have:l[i.toNat]?=Z (Mi.gz l i):=by
   have:=dB (l:=l) (k:=i.toNat) ∅
   rwa[show((i.toNat:Nat):Int)=i by lia]at this
  exact h _ (Mh this)
theorem EW(h:∀q:Nat,q<l.length->(gz l (q:Nat)).natAbs<2^m):Lim m l:=λx hx=>by
 obtain⟨q,j,e⟩:=UE hx;have:=h q j
 rwa[fP (by rw[z0 j,e])]at this
theorem lQ(hm:m<=1000){x:Int}(h:x.natAbs<2^m):QC x<=2^20:=NG (intBits_le_iff.mpr h) ∅
end
section
open L2.Srt
variable{T:List FD}
theorem vd{g:MG}{e:ME}{r:MSs}(h:wE Φ e ρ M λx j=>∃ρ',bG g x ρ=Z ρ'/\wSs Φ r E ρ' j):wSs Φ (.cons (.asg g e) r) E ρ M:=by rw[bK];exact h
theorem tt{s d:Nat}(j:2<=n)(hs:2<=s)(h:s<=2^(d+1)):(s+n-1) / n<=2^d/\1<=(s+n-1) / n/\s<=n*((s+n-1) / n)/\(s+n-1) / n<=s/\n*((s+n-1) / n)<=s+n:=by
 have e:=U1 (s+n-1) n;have r:=WH (s+n-1) (show n > 0 by lia)
 have h1:(s+n-1) / n<2^d+1:=RH (by rw[Ut,Uu];have:2*2^d<=n*2^d:=Oi _ j;rw[VB]at h;lia)
 have h2:(s+n-1) / n<s+1:=RH (by rw[Ut,Uu];have:2*s<=n*s:=Oi _ j;lia)
 refine⟨∅,?_,∅,∅,∅⟩
 exact Nat.div_pos ∅ ∅
end
section
open L2.Srt
variable{T:List FD}
noncomputable def jl(s:Stmt):FD:=⟨"_law_times",s,["_law_many","_law_n","_law_length","_law_total"],3,
 (.cons (.asg (.name 3) (.int 1))
 (.cons (.while (.cmp .gt (.var 2) (.int 1)) (.cons (.asg (.name 3) (.bin .mul (.var 3) (.var 0)))
 (.cons (.asg (.name 2) (.bin .add (.bin .fdiv (.var 2) (.var 1)) (.blt .int (.cons (.cmp .gt (.bin .mod (.var 2) (.var 1)) (.int 0)) .nil))))
 .nil)))
 (.cons (.ret (.var 3))
 .nil)))⟩
theorem CP{s:Nat}(z:1<=n):(s+n-1) / n=s / n+if 0<s%n then 1 else 0:=by
 have e:=U1 s n;have r:=WH s (show n > 0 by lia)
 have h0:0<n:=∅
 by_cases h:0<s%n
 ·rw[if_pos h];have j:(s%n-1) / n=0:=W3 ∅
  rw[show s+n-1=n*(s / n)+(s%n-1+n) by lia,Wl h0,Nat.add_div_right _ h0,j]
 ·rw[if_neg h];have j:(n-1) / n=0:=W3 ∅
  rw[show s+n-1=n*(s / n)+(n-1) by lia,Wl h0,j]
theorem xY(hf:T[f]?=Z (jl s)){k:Nat}(J:1<=k){many d sz:Nat}(hm:many<=1000)(B:2<=n)(F:n<=1000)(h1:1<=sz)(h2:sz<=2^d)(q:Q (.int (tms many n d sz:Nat)) M):phi T k f [.int many,.int n,.int sz] M Q:=by
 refine az ∅ hf rfl (ρ:=[Z _,Z _,Z _,Y]) rfl ?_
 unfold jl;nofun;nofun;refine⟨d+1,?_⟩;have g:∀(d sz tot:Nat),1<=sz->sz<=2^d->Q (.int (tot*tms many n d sz:Nat)) M->
  aD (ef (wOp wGt (cS 2) (wC (.int 1)))) (wSs (phi T (k-1)) (.cons (.asg (.name 3) (.bin .mul (.var 3) (.var 0))) (.cons (.asg (.name 2) (.bin .add (.bin .fdiv (.var 2) (.var 1)) (.blt .int (.cons (.cmp .gt (.bin .mod (.var 2) (.var 1)) (.int 0)) .nil)))) .nil)))
   {nx:=wSs (phi T (k-1)) (.cons (.ret (.var 3)) .nil) {nx:=λ_ M'=>Q .non M',rt:=Q},rt:=Q} (d+1) [Z (.int many),Z (.int n),Z (.int sz),Z (.int tot)] M:=by
  intro d
  induction d with
  |zero=>
   intro sz tot h1 h2 q;obtain rfl:sz=1:=by simp at h2;lia
   rw[aD];ac_nf;rw[if_neg (by simp)]
   nofun;have e:tms many n 0 1=1:=rfl;rw[e,Uu]at q;exact q
  |succ d ih=>
   intro sz tot h1 h2 q;rw[aD]
   by_cases hs:sz=1
   ·subst hs;ac_nf;rw[if_neg (by simp)]
    nofun;have e:tms many n (d+1) 1=1:=rfl;rw[e,Uu]at q;exact q
   ·have ew:=tt B ∅ h2
    have ec:=CP (s:=sz) (n:=n) ∅
    have e:tms many n (d+1) sz=many*tms many n d ((sz+n-1) / n):=by show(if sz=1 then 1 else _)=_;rw[if_neg hs]
    have j:=ih ((sz+n-1) / n) (tot*many) ew.2.1 ew.1 (by rw[T5,<-e];exact q)
    ac_nf;rw[if_pos ∅]
    nofun;refine⟨i6 ⟨∅,∅⟩,?_⟩
    nofun;refine⟨∅,∅,∅,?_⟩
    have G:(sz:Int) / n+(if 0<(sz:Int)%n then 1 else 0)=(((sz+n-1) / n:Nat):Int):=by
     rw[ec]
     by_cases z:0<sz%n
     ·rw[if_pos z,if_pos (by exact_mod_cast z)];simp
     ·rw[if_neg z,if_neg (by intro y;exact z (by exact_mod_cast y))];simp
    ac_nf;rw[G,show(tot:Int)*many=((tot*many:Nat):Int) by simp]
    exact j
 exact g d sz 1 h1 h2 (by rw[Nat.one_mul];exact q)
end
section
open L2.Srt
theorem Gm{i:Nat}:gi l (i:Nat)=gz l (i:Nat):=by unfold gi gz;rw[if_neg ∅]
end
section
open L2.Srt
variable{T:List FD}
noncomputable def oP(s:Stmt):FD:=⟨"row_blocks",s,["row","n","wide","whole"],3,
 (.cons (.asg (.name 3) (.bin .add (.var 0) (.bin .mul (.lst (.cons (.int 0) .nil)) (.bin .sub (.bin .mul (.var 1) (.var 2)) (.blt .len (.cons (.var 0) .nil))))))
 (.cons (.ret (.comp [Y,(Z 3),(Z 2)] ["at","whole","wide"] (.last (.rng1 (.var 1)) (.name 0) .nil (.sl (.var 1) (.some (.bin .mul (.var 0) (.var 2))) (.some (.bin .mul (.bin .add (.var 0) (.int 1)) (.var 2)))))))
 .nil))⟩
theorem EX{k:Nat}:gz (A++D1 k 0) i=gz A i:=by
 rw[nI]
 by_cases h:i<A.length
 ·rw[if_pos h]
 ·rw[if_neg h,kA,dr ∅]
theorem kJ(hf:T[f]?=Z (oP s)){k:Nat}(hk:1<=k)(hn:n<=10)(hw:w<=100)(hA:A.length<=n*w)(ep:M p=Z (.lst (A.map .int)))(q:∀p' R M',Ge M M'->M p'=Y->RwAt M' p' R w->R.map (·.2)=blk n w A->Q (.ref p') M'):phi T k f [.ref p,.int n,.int w] M Q:=by
 have Jm:n*w<=10*100:=NU hn hw;refine az ∅ hf rfl (ρ:=[Z _,Z _,Z _,Y]) rfl ?_
 unfold oP;nofun;refine⟨by rw[I7];decide,λp1 z=>⟨cy ⟨∅,∅⟩,?_⟩⟩
 have g1:=Ge.new (o:=.lst [.int 0]) z;refine aZ (g1 _ _ ep) ?_;ac_nf;rw[tv,show(n:Int)*w-A.length=((n*w-A.length:Nat):Int) by rw[Int.ofNat_sub hA];simp]
 refine⟨_,ab,∅,∅,by rw[I7];simp;lia,λp2 B=>?_⟩
 rw[LO,uY];have g2:=g1.trans (Ge.new (o:=.lst ((D1 (n*w-A.length) (0:Int)).map D.int)) B);refine⟨_,_,g2 _ _ ep,ab,by rw[tv,tv,Nx,I7];lia,λpw F=>?_⟩
 rw[<-Mo];have g3:=g2.trans (Ge.new (o:=.lst ((A++D1 (n*w-A.length) (0:Int)).map D.int)) F);have O:ag (ag (ag M p1 (.lst [.int 0])) p2 (.lst ((D1 (n*w-A.length) (0:Int)).map D.int))) pw (.lst ((A++D1 (n*w-A.length) (0:Int)).map D.int)) pw=_:=ab;generalize ag (ag (ag M p1 (.lst [.int 0])) p2 (.lst ((D1 (n*w-A.length) (0:Int)).map D.int))) pw (.lst ((A++D1 (n*w-A.length) (0:Int)).map D.int))=M3 at g3 O⊢;have G:(A++D1 (n*w-A.length) (0:Int)).length=n*w:=by rw[J4,Nx];lia
 have j:∀i,i<n->v7 (A++D1 (n*w-A.length) (0:Int)) w i=(D0 w).map λx:Nat=>gz A (i*w+x:Nat):=λi hi=>by unfold v7;exact MV λt _=>by rw[Gm,EX]
 generalize A++D1 (n*w-A.length) (0:Int)=W at O G j;clear g1 g2 z B F;nofun;refine⟨∅,∅,?_⟩
 rw[LO];refine aE (f:=λi:Nat=>.int (i:Nat)) (ys:=D0 n) (I:=λl ρ M' acc=>(∃o0,ρ=[o0,Z (.ref pw),Z (.int w)])/\Ge M3 M'/\∃R:Bks,acc=R.map (λr=>.ref r.1)/\R.map (·.2)=l.map (λi:Nat=>(D0 w).map λx:Nat=>gz A (i*w+x:Nat))/\∀r∈R,M' r.1=Z (.lst (r.2.map .int))/\r.2.length=w) aY ⟨⟨_,rfl⟩,.refl,[],rfl,rfl,by simp⟩ (λ_ _ _ _ _=>trivial) ?_ ?_
 ·rintro l x r' ρ M1 acc e ⟨⟨o0,rfl⟩,g,R,rfl,eR,J⟩;refine⟨_,rfl,λN' U=>?_⟩;obtain⟨ex,hx,el⟩:=nO e;have Fn:R.length=l.length:=by have:=congrArg O6 eR;simpa using this
  ac_nf;refine⟨cy ⟨∅,∅⟩,cy ⟨∅,∅⟩,?_⟩
  rw[show(x:Int)*w=((x*w:Nat):Int) by simp,show((x:Int)+1)*w=((x*w+w:Nat):Int) by rw[QR,TZ];grind]
  refine⟨_,g _ _ O,λpr L=>?_⟩;rw[Cz G hx,j x hx];refine⟨by rw[tv,Fn,<-ex,I7];lia,U _ _ _ ⟨⟨_,rfl⟩,g.trans (.new L),R++[(pr,(D0 w).map λt:Nat=>gz A (x*w+t:Nat))],by simp,by simp[eR],λu hu=>?_⟩⟩
  rcases LV.mp hu with h|h
  ·exact⟨Ge.new L _ _ (J u h).1,(J u h).2⟩
  ·rw[OD]at h;subst h;exact⟨ab,by simp⟩
 ·rintro ρ M1 acc ⟨_,g,R,rfl,eR,J⟩ p fv;exact q p R _ ((g3.trans g).trans (.new fv)) (qU (g3.trans g) fv) ⟨ab,λr hr=>⟨Ge.new fv _ _ (J r hr).1,(J r hr).2⟩⟩ eR
theorem xZ{J L:Str}(O:ρ[4]?=Z (Z (.int (w:Nat))))(e1:ρ[1]?=Z (Z (.int (n:Nat))))(fv:1<=n/\n<=10)(hw:1<=w/\w<=100)(q:∀p R M',Ge M M'->RwAt M' p R (2*w-1)->R.map (·.2)=pln n w->Q (.ref p) M'):
 wE Φ (.comp [Y,(Z 4)] [J,L] (.last (.rng1 (.bin .sub (.bin .mul (.int 2) (.var 1)) (.int 1))) (.name 0) .nil (.lrng2 (.bin .mul (.var 0) (.var 1)) (.bin .sub (.bin .mul (.bin .add (.var 0) (.int 2)) (.var 1)) (.int 1))))) ρ M Q:=by
 ac_nf;refine⟨_,e1,?_⟩;ac_nf;refine⟨cy ⟨by decide,by decide⟩,∅,∅,?_⟩
 rw[O,show(2*(n:Int)-1).toNat=2*n-1 by lia]
 simp only[Th];refine aE (f:=λi:Nat=>.int (i:Nat)) (ys:=D0 (2*n-1)) (I:=λl ρ M' acc=>(∃o0,ρ=[o0,Z (.int w)])/\Ge M M'/\∃R:Bks,acc=R.map (λr=>.ref r.1)/\R.map (·.2)=l.map (λk:Nat=>(D0 (2*w-1)).map λx:Nat=>((k*w:Nat):Int)+(x:Nat))/\∀r∈R,M' r.1=Z (.lst (r.2.map .int))/\r.2.length=2*w-1) aY ⟨⟨_,rfl⟩,.refl,[],rfl,rfl,by simp⟩ (λ_ _ _ _ _=>trivial) ?_ ?_
 ·rintro l x r' ρ' M1 acc e ⟨⟨o0,rfl⟩,g,R,rfl,eR,j⟩;refine⟨_,rfl,λN' B=>?_⟩;obtain⟨ex,hx,el⟩:=nO e;have F:R.length=l.length:=by have:=congrArg O6 eR;simpa using this
  have U:x*w<=20*100:=NU ∅ hw.2
  ac_nf;refine⟨cy ⟨∅,∅⟩,cy ⟨∅,∅⟩,((x*w:Nat):Int),2*w-1,?_,∅,∅,∅,λp z=>?_⟩
  ·have:((x:Int)+2)*w=((x*w:Nat):Int)+2*w:=by rw[Int.add_mul,TZ]
   rw[this,show(x:Int)*w=((x*w:Nat):Int) by simp]
   congr 3;lia
  ·rw[show((D0 (2*w-1)).map λk:Nat=>D.int (((x*w:Nat):Int)+(k:Nat)))=((D0 (2*w-1)).map λk:Nat=>((x*w:Nat):Int)+(k:Nat)).map .int by rw[NJ];rfl]
   refine⟨by rw[tv,F,<-ex,I7];lia,B _ _ _ ⟨⟨_,rfl⟩,g.trans (.new z),R++[(p,(D0 (2*w-1)).map λk:Nat=>((x*w:Nat):Int)+(k:Nat))],by simp,by simp[eR],λu Fn=>?_⟩⟩
   rcases LV.mp Fn with h|h
   ·exact⟨Ge.new z _ _ (j u h).1,(j u h).2⟩
   ·rw[OD]at h;subst h;exact⟨ab,by simp⟩
 ·rintro ρ' M1 acc ⟨_,g,R,rfl,eR,j⟩ p z;exact q p R _ (g.trans (.new z)) ⟨ab,λr G=>⟨Ge.new z _ _ (j r G).1,(j r G).2⟩⟩ eR
noncomputable def jm(s:Stmt)(fbl fby frb fsl:Nat)(P:Xc)(pos:Pos)(q:Str):FD:=⟨"row_times",s,["scheme","n","one","other","wide","places","told","times"],4,
 (.cons (.ite (.cmp .eq (.blt .len (.cons (.var 2) .nil)) (.int 1)) (.cons (.ret (.tup (.cons (.lst (.cons (.bin .mul (.ix (.var 2) (.int 0)) (.ix (.var 3) (.int 0))) .nil)) (.cons (.int 1) .nil))))
 .nil) .nil)
 (.cons (.asg (.name 4) (.call fbl (.cons (.blt .len (.cons (.var 2) .nil)) (.cons (.var 1) .nil))))
 (.cons (.asg (.name 5) (.comp [Y,(Z 4)] ["k","wide"] (.last (.rng1 (.bin .sub (.bin .mul (.int 2) (.var 1)) (.int 1))) (.name 0) .nil (.lrng2 (.bin .mul (.var 0) (.var 1)) (.bin .sub (.bin .mul (.bin .add (.var 0) (.int 2)) (.var 1)) (.int 1))))))
 (.cons (.asg (.tup (.cons (.name 6) (.cons (.name 7) .nil))) (.callL fby (.cons (.var 0) (.cons (.call frb (.cons (.var 2) (.cons (.var 1) (.cons (.var 4) .nil)))) (.cons (.call frb (.cons (.var 3) (.cons (.var 1) (.cons (.var 4) .nil)))) (.cons (.var 5) .nil)))) fsl [0,1] [0,1,2,3] P pos q))
 (.cons (.ret (.tup (.cons (.sl (.var 6) .none (.some (.bin .sub (.bin .mul (.int 2) (.blt .len (.cons (.var 2) .nil))) (.int 1)))) (.cons (.var 7) .nil))))
 .nil)))))⟩
theorem tu{L:List Int}(G:n*1000<=2^20)(h:Lim m L)(j:l.length=n)(hs:∀x∈l,x.natAbs<=1000):Lim (m+20) (ax (blk n w L) w (nz l)):=by
 refine EW λq B=>?_;rw[eM (by rw[j,cu]) dq]at B
 rw[tj B (by rw[j,cu]) dq,j]
 have J:0<2^m:=Wk m;have g:=A7 (n:=n) (C:=1000*(2^m-1)) (F:=λi=>gz l (i:Nat)*gz ((blk n w L).getD i []) (q:Nat)) λi hi=>by
  rw[Int.natAbs_mul];refine NU ?_ ?_
  ·by_cases z:gz l (i:Nat)=0
   ·rw[z];decide
   ·exact hs _ (Mh (dB ∅))
  ·rw[ig hi]
   split
   ·have:=h.gz ((i*w:Nat)+(q:Nat):Int);lia
   ·exact Og _
 refine Vb g ?_;rw[Nat.pow_add,<-T5,S2 (2^m)];refine Vb (Oi _ G) (Nat.mul_lt_mul_of_pos_left ∅ (by decide))
theorem Ah(j:1<=n):(pln n w).getLast?=Z ((D0 (2*w-1)).map λx:Nat=>(((2*n-2)*w:Nat):Int)+(x:Nat)):=by rw[Pg,fR];unfold pln;rw[LQ,MD ∅,show 2*n-1-1=2*n-2 by lia];rfl
end
section
open L2.Srt
variable{T:List FD}
theorem CQ{a:Nat}(h:a<=ds.length):cc ds Y (Z (a:Int))=ds.take a:=by unfold cc;rw[HT.sIx_none,HT.sIx_nat,Nz h,Up,Nat.sub_zero]
theorem y3{fbl fby frb fs:Nat}{sbl sby srb ss:Stmt}{qn:Str}(hf:T[f]?=Z (jm s fbl fby frb f P pos qn))(Jo:T[fbl]?=Z (kI sbl))(O:T[frb]?=Z (oP srb))(Jp:T[fby]?=Z (kH sby fs ff))(Jq:T[fs]?=Z (ie ss ff))(Jr:T[ff]?=Z (dm sf))(h5:fs<5000/\ff<5000/\fby<1000)(h6:f<1000)(hn:2<=n/\n<=10){ps:List Pr}(Jv:ps.length<=1000)(hT:∀k i j,Tn ps k i j=cf (bh n n) (k,i,j))(G:∀p∈ps,uX n n (2*n-1) p){pp:Xc}{a0 a1 a2:D}:
 ∀{d s k m:Nat} {A B:List Int} {pA pB:Xc} {M:Mem} {Q:QD},1<=s->s<=2^d->s<=64->3*d+6<=k->m+20*d<=1000->A.length=s->B.length=s->Lim m A->Lim m B->M P=Z (.tab pos qn)->M pp=Z (.lst (ps.map prD))->M pA=Z (.lst (A.map .int))->M pB=Z (.lst (B.map .int))->
  (∀p M',Ge M M'->M p=Y->M' p=Z (.lst ((cv s A B).map .int))->Q (.tup [.ref p,.int (tms ps.length n d s:Nat)]) M')->phi T k f [.tup [a0,a1,a2,.ref pp],.int n,.ref pA,.ref pB] M Q:=by
 intro d;have base:∀{d k m:Nat} {A B:List Int} {pA pB:Xc} {M:Mem} {Q:QD},1<=k->m<=1000->A.length=1->B.length=1->Lim m A->Lim m B->M pA=Z (.lst (A.map .int))->M pB=Z (.lst (B.map .int))->
  (∀p M',Ge M M'->M p=Y->M' p=Z (.lst ((cv 1 A B).map .int))->Q (.tup [.ref p,.int (tms ps.length n d 1:Nat)]) M')->phi T k f [.tup [a0,a1,a2,.ref pp],.int n,.ref pA,.ref pB] M Q:=by
  intro d k m A B pA pB M Q hk hm lA lB bA bB eA eB q;refine az ∅ hf rfl (ρ:=[Z _,Z _,Z _,Z _,Y,Y,Y,Y]) rfl ?_
  unfold jm;obtain⟨x,rfl⟩:=Rh.mp lA;obtain⟨y,rfl⟩:=Rh.mp lB;nofun;refine aZ eA ?_;ac_nf;rw[if_pos (by rfl)]
  nofun;refine aI eA (d:=.int x) rfl ?_;refine aI eB (d:=.int y) rfl ?_;refine wMul_i.mpr ⟨.inr (.inr ⟨lQ hm (bA x (by simp)),lQ hm (bB y (by simp))⟩),?_⟩
  refine⟨by rw[I7];decide,λp F=>⟨by rw[I7];decide,?_⟩⟩
  have e1:cv 1 [x] [y]=[x*y]:=by show[aj 1 _]=_;simp[aj,gz]
  have e2:tms ps.length n d 1=1:=by cases d<;>rfl
  rw[e1,e2]at q;exact q p _ (.new F) F ab
 induction d with
 |zero=>
  intro s k m A B pA pB M Q h1 h2 Js hk hm lA lB bA bB eP ep eA eB q;obtain rfl:s=1:=by simp at h2;lia
  exact base ∅ ∅ lA lB bA bB eA eB q
 |succ d ih=>
  intro s k m A B pA pB M Q h1 h2 Js hk hm lA lB bA bB eP ep eA eB q
  by_cases U:s=1
  ·subst U;exact base ∅ ∅ lA lB bA bB eA eB q
  refine az ∅ hf rfl (ρ:=[Z _,Z _,Z _,Z _,Y,Y,Y,Y]) rfl ?_
  unfold jm;nofun;refine aZ eA ?_;ac_nf;rw[if_neg (by rw[tv,lA];simp;lia)]
  nofun;refine aZ eA ?_;rw[tv,lA];refine CO Jo ∅ ∅ ∅ ?_
  have L:(s+n-1) / n<=2^d/\1<=(s+n-1) / n/\s<=n*((s+n-1) / n)/\(s+n-1) / n<=s/\n*((s+n-1) / n)<=s+n:=tt hn.1 ∅ h2
  have etm:tms ps.length n (d+1) s=ps.length*tms ps.length n d ((s+n-1) / n):=by show(if s=1 then 1 else _)=_;rw[if_neg U]
  generalize (s+n-1) / n=w at L etm⊢;obtain⟨L,Jt,Ju,Jw,Jx⟩:=L;refine vd ?_;refine xZ (n:=n) (w:=w) rfl rfl ∅ ∅ λpP RP M1 g1 hP eRP=>?_
  refine⟨_,rfl,?_⟩;refine vd ?_;refine⟨[.tup [a0,a1,a2,.ref pp],.int n],rfl,?_⟩;dsimp only[wA,av,aX];refine⟨_,rfl,?_⟩;dsimp only;have Fn:RP.length=2*n-1:=by
   have:=congrArg O6 eRP
   rwa[tv,fR]at this
  ac_nf;refine kJ O ∅ ∅ ∅ ∅ (g1 _ _ eA) λpBL RL M4 g4 nL hL eRL=>?_
  ac_nf;refine kJ O ∅ ∅ ∅ ∅ (g4 _ _ (g1 _ _ eB)) λpBR RR M5 g5 nR hR eRR=>?_
  have fv:=g4.trans g5;have J:=g1.trans fv;have lRL:RL.length=n:=by have:=congrArg O6 eRL;rwa[tv,cu]at this
  have lRR:RR.length=n:=by have:=congrArg O6 eRR;rwa[tv,cu]at this
  ac_nf;refine⟨J _ _ eP,λa ha=>?_⟩;have Jm:∀r∈RP,r.2∈pln n w:=λr hr=>by rw[<-eRP];exact Mn hr
  refine EQ (n:=k-1) (f:=fby) (js:=[0,1,2,3]) (gs:=[.tup [a0,a1,a2,.ref pp],.int n]) (W:=w) (V:=2*w-1) (N:=2*n*w-1) (mul:=cv w) (tm:=tms ps.length n d w) Jp Jq Jr h5 ∅ h6 (J _ _ ep) (hL.ge g5) hR (hP.ge fv) ⟨∅,∅,∅,∅,∅,∅⟩ ∅ ⟨∅,∅⟩ ?_ ?_ ?_ ?_ ?_ ?_ ?_ ?_
  ·exact NG (Nat.sub_le _ _) (NG (NU (by lia:2*n<=20) (by lia:w<=100)) (by decide))
  ·exactλp F=>⟨by rw[lRL];exact(G p F).l0,by rw[lRR];exact(G p F).l1,by rw[Fn];exact(G p F).l2⟩
  ·exactλp F=>⟨λx hx=>by have:=(G p F).s0 x hx;lia,λx hx=>by have:=(G p F).s1 x hx;lia,λx hx=>by have:=(G p F).s2 x hx;lia⟩
  ·exactλr hr z hz=>xX r.2 (Jm r hr) z hz
  ·have h1:(RP.map (·.2)).getLast?=_:=(congrArg List.getLast? eRP).trans (Ah ∅)
   rw[SN]at h1
   cases h2:RP.getLast? with
   |none=>rw[h2]at h1;cases h1
   |some r=>
    rw[h2]at h1;have h3:r.2=_:=NO.inj h1;refine⟨r,rfl,?_⟩;rw[h3,Pg,tv,Mx,LQ,MD ∅,Pk]
    congr 1;have e1:(2*n-2)*w+2*w=2*n*w:=by rw[<-R4];congr 1;lia
    have e2:1*w<=2*n*w:=Oi w ∅
    lia
  ·exactλp F=>fQ
  ·intro p x y M6 Q6 F g6 ex ey q6;refine⟨rfl,Ci ∅ ∅ ?_⟩
   have bnd:n*1000<=2^20:=∅
   rw[eRL]at ex q6;rw[eRR]at ey q6;refine ih (s:=w) (m:=m+20) Jt L ∅ ∅ ∅ (eM (by rw[cu];exact(G p F).l0) dq) (eM (by rw[cu];exact(G p F).l1) dq) (tu bnd bA (G p F).l0 λx hx=>by have:=(G p F).s0 x hx;lia) (tu bnd bB (G p F).l1 λx hx=>by have:=(G p F).s1 x hx;lia) (g6 _ _ (J _ _ eP)) (g6 _ _ (J _ _ ep)) ex ey q6
  ·intro p M6 g6 n6 e6;refine⟨_,rfl,?_⟩;rw[eRL,eRR,eRP]at e6;nofun;refine aZ (g6 _ _ (J _ _ eA)) ?_;ac_nf;rw[tv,lA];refine⟨cy ⟨∅,∅⟩,?_⟩
   rw[show 2*(s:Int)-1=((2*s-1:Nat):Int) by lia]
   have hle:2*s-1<=2*n*w-1:=by rw[T5];lia
   refine⟨_,e6,λp7 Jn=>⟨by rw[I7];decide,?_⟩⟩
   rw[CQ (by rw[tv,fh];exact hle),<-UQ,CN ∅ lA lB Ju hT λp F=>⟨(G p F).l0,(G p F).l1,(G p F).l2⟩,<-etm]
   have gE:=(J.trans g6);exact q p7 _ (gE.trans (.new Jn)) (qU gE Jn) ab
end
section
open L2.Srt
variable{T:List FD}
noncomputable def qY(s:Stmt)(fbp fpl flt fta fpa:Nat):FD:=⟨"_law_line_scheme",s,["_law_box_here","_law_n","_law_scheme","_law_products","_law_l","_law_r","_law_o","_law_at"],2,
 (.cons (.asg (.name 2) (.ix (.lst (.cons (.call fbp (.cons (.var 1) .nil)) (.cons (.call fpl (.cons (.call flt (.cons (.var 1) (.cons (.var 1) .nil))) .nil)) .nil))) (.call fta (.cons (.var 0) (.cons (.int 2) .nil)))))
 (.cons (.asg (.name 3) (.blt .list (.cons (.ix (.var 2) (.int 3)) .nil)))
 (.cons (.ite (.cmp .eq (.call fta (.cons (.var 0) (.cons (.int 3) .nil))) (.int 0)) (.cons (.asgL (.cons (.name 4) (.cons (.name 5) (.cons (.name 6) .nil))) (.comp [Y,(Z 0)] ["_law_length","_law_box_here"] (.last (.seq (.tup (.cons (.var 1) (.cons (.var 1) (.cons (.bin .sub (.bin .mul (.int 2) (.var 1)) (.int 1)) .nil))))) (.name 0) .nil (.call fpa (.cons (.var 1) (.cons (.var 0) .nil))))))
 (.cons (.drop (.ins (.var 3) (.call fta (.cons (.var 0) (.cons (.bin .add (.blt .len (.cons (.var 3) .nil)) (.int 1)) .nil))) (.tup (.cons (.var 4) (.cons (.var 5) (.cons (.var 6) .nil))))))
 (.cons (.drop (.meth .append (.var 3) (.tup (.cons (.var 4) (.cons (.var 5) (.cons (.blt .tuple (.cons (.comp [Y] ["_law_c"] (.last (.seq (.var 6)) (.name 0) .nil (.bin .sub (.int 0) (.var 0)))) .nil)) .nil))))))
 .nil))) .nil)
 (.cons (.asg (.name 7) (.call fta (.cons (.var 0) (.cons (.blt .len (.cons (.var 3) .nil)) .nil))))
 (.cons (.ret (.tup (.cons (.var 1) (.cons (.var 1) (.cons (.bin .sub (.bin .mul (.int 2) (.var 1)) (.int 1)) (.cons (.bin .add (.sl (.var 3) (.some (.var 7)) .none) (.sl (.var 3) .none (.some (.var 7)))) .nil))))))
 .nil)))))⟩
structure LS(n c:Nat)(ps:List Pr):Prop where
 ne:ps≠[]
 len:ps.length<=c
 pr:∀p∈ps,uX n n (2*n-1) p
 tn:∀k i j,Tn ps k i j=cf (bh n n) (k,i,j)
theorem lU(h:Within 1 l):cZ l:=λx hx=>by have:=h x hx;lia
theorem Gn(h1:1<=n)(F:n<=5):LS n 27 (bp n):=by
 have B:=xN (n:=n);have h:n*(n+1)<=5*6:=NU F ∅
 have h':1*2<=n*(n+1):=NU h1 ∅
 refine⟨λz=>by rw[z]at B;simp at B;lia,∅,λp G=>?_,λk i j=>(t8 bp_pp).trans Gc⟩
 have:=iN p (bp_pp.mem_iff.mp G);exact⟨this.l0,this.l1,this.l2,lU this.e0,lU this.e1,lU this.e2⟩
theorem CS{fbp fpl flt fta fpa fp:Nat}{s2 s3 s4 s5 s6 s7:Stmt}(hf:T[f]?=Z (qY s fbp fpl flt fta fpa))(JC:T[fpl]?=Z (iP s1 f1))(Jw:T[f1]?=Z (dP s2))(Fn:T[flt]?=Z (ky s3 ft))(ht:T[ft]?=Z (i8 s4))(JD:T[fbp]?=Z (va s5 fo fp))(JE:T[fo]?=Z (kC s6 f1))(JF:T[fp]?=Z (kD s7 f1)){k:Nat}(hk:6<=k)(fv:kw T (k-1) fta)(Jr:xD T (k-1) fpa)(Js:2<=n/\n<=5)(hb:Box b M)(q:∀ps p M',LS n 29 ps->Bx b M M'->M p=Y->M' p=Z (.lst (ps.map prD))->Q (.tup [.int n,.int n,.int (2*n-1:Nat),.ref p]) M'):phi T k f [.ref b,.int n] M Q:=by
 refine az ∅ hf rfl (ρ:=[Z _,Z _,Y,Y,Y,Y,Y,Y]) rfl ?_
 unfold qY;have JL:n*n<=25:=NU Js.2 Js.2;refine bT (λρ M'=>∃ps p,ρ=[Z (.ref b),Z (.int n),Z (.tup [.int n,.int n,.int (2*n-1:Nat),.ref p]),Y,Y,Y,Y,Y]/\Bx b M M'/\M' p=Z (.lst (ps.map prD))/\LS n 27 ps) (λR hR=>?_) ?_
 ·ac_nf;refine Gf JD JE JF Jw ∅ ∅ ∅ λpa Ma ga na ea=>?_
  ac_nf;refine Cw Fn ht ∅ ∅ ∅ λrs a M1 hT g1 n1 e1=>?_
  rw[show(n:Int)+n-1=((2*n-1:Nat):Int) by lia]
  have hlen:rs.length<=25:=by have:=hT.len;rw[qR]at this;lia
  have hI:InB rs n n (2*n-1):=by
   have:=Cy hT ∅
   rwa[show n+n-1=2*n-1 by lia]at this
  have Jt:∀k,-25<=cf rs k/\cf rs k<=25:=λk=>by
   rw[hT.cf];have:=zZ (ts:=bh n n) (B:=1) ∅ (λt ht=>by have:=(A9 ht).2;lia) (k:=k)
   rw[qR]at this;lia
  refine Ab JC Jw ∅ ∅ ∅ ∅ e1 hT.nodup hI ∅ λp M2 g2 n2 e2=>?_
  ac_nf;refine⟨by rw[I7];decide,λpz JG=>?_⟩
  have gz':=Ge.new (o:=.lst [.tup [.int n,.int n,.int (2*n-1:Nat),.ref pa],.tup [.int n,.int n,.int (2*n-1:Nat),.ref p]]) JG;have g3:=((ga.trans g1).trans g2).trans gz';have x3:=Bx.of hb g3;have e3:=ab (M:=M2) (a:=pz) (o:=.lst [.tup [.int n,.int n,.int (2*n-1:Nat),.ref pa],.tup [.int n,.int n,.int (2*n-1:Nat),.ref p]]);have ea:=gz' _ _ (g2 _ _ (g1 _ _ ea));have e2:=gz' _ _ e2;generalize ag M2 pz (.lst [.tup [.int n,.int n,.int (2*n-1:Nat),.ref pa],.tup [.int n,.int n,.int (2*n-1:Nat),.ref p]])=M3 at x3 e3 ea e2⊢;refine fv x3.box (by decide) (by decide) λv M4 v0 v1 J=>?_
  have nb:∀{a:Xc} {o:O},M3 a=Z o->(∀x y z:Int,o≠.lst [.int x,.int y,.int z])->a≠b:=λ{a o} h1 h2 z=>by obtain⟨x,y,z',e⟩:=x3.box;rw[<-z,h1]at e;exact h2 _ _ _ (NO.inj e)
  have nbp:∀{a:Xc} {ps:List Pr},M3 a=Z (.lst (ps.map prD))->LS n 27 ps->a≠b:=λh1 G=>nb h1 λx y z=>by
   intro e
   cases h:(_:List Pr)with
   |nil=>exact G.ne h
   |cons u r=>rw[h]at e;cases e
  have Jx:=Gn (n:=n) ∅ Js.2
  have Jy:LS n 27 (pl n n (2*n-1) rs (D0 n)):=by
   refine⟨?_,?_,?_,?_⟩
   ·intro z;have h:cf (bh n n) (0,0,0)=0:=by
     rw[<-hT.cf,<-AR hI,z];rfl
    rw[lK,if_pos ∅]at h
    cases h
   ·have:=Gh hI;lia
   ·exact Gi λk=>by have:=Jt k;lia
   ·exactλk i j=>by rw[AR hI,hT.cf]
  have Jz:=J.keep _ _ (nb e3 λx y z e=>by cases e) e3
  have JA:=x3.trans J;have L:v=0∨v=1:=∅
  rcases L with rfl|rfl
  ·exact aI Jz (d:=.tup [.int n,.int n,.int (2*n-1:Nat),.ref pa]) rfl (hR _ _ ⟨_,_,rfl,JA,J.keep _ _ (nbp ea Jx) ea,Jx⟩)
  ·exact aI Jz (d:=.tup [.int n,.int n,.int (2*n-1:Nat),.ref p]) rfl (hR _ _ ⟨_,_,rfl,JA,J.keep _ _ (nbp e2 Jy) e2,Jy⟩)
 rintro ρ M1 ⟨ps,p,rfl,x1,e1,G⟩;nofun;refine⟨_,rfl,_,_,rfl,ak e1,λp3 Jm=>?_⟩;have F:p3≠b:=λz=>by obtain⟨_,_,_,e⟩:=x1.box;rw[<-z,Jm]at e;cases e
 have n3:=x1.none Jm F;have x3:=x1.ge (Ge.new (o:=.lst (ps.map prD)) Jm);have e3:=ab (M:=M1) (a:=p3) (o:=.lst (ps.map prD));generalize ag M1 p3 (.lst (ps.map prD))=M3 at x3 e3⊢;generalize D.tup [.int n,.int n,.int (2*n-1:Nat),.ref p]=sch;refine bT (λρ M'=>∃ps o4 o5 o6,ρ=[Z (.ref b),Z (.int n),Z sch,Z (.ref p3),o4,o5,o6,Y]/\Bx b M M'/\M' p3=Z (.lst (ps.map prD))/\LS n 29 ps) (λR hR=>?_) ?_
 ·ac_nf;refine fv x3.box (by decide) (by decide) λv M4 v0 v1 J=>?_
  have e4:=J.keep _ _ F e3;have J:=x3.trans J;ac_nf
  by_cases L:v=0
  ·rw[if_pos (by simp[L])]
   nofun;refine⟨cy ⟨by decide,by decide⟩,by rw[I7];decide,?_⟩
   rw[show 2*(n:Int)-1=((2*n-1:Nat):Int) by lia]
   refine aE (f:=λi:Nat=>.int (i:Nat)) (ys:=[n,n,2*n-1]) (I:=λl ρ M' acc=>(∃o0,ρ=[o0,Z (.ref b)])/\Bx b M M'/\M' p3=Z (.lst (ps.map prD))/\∃vs:List (List Int),acc=vs.map (λv=>.tup (v.map .int))/\vs.map O6=l/\∀v∈vs,cZ v) rfl ⟨⟨_,rfl⟩,J,e4,[],rfl,rfl,by simp⟩ (λ_ _ _ _ _=>trivial) ?_ ?_
   ·rintro l i r ρ M5 acc e ⟨⟨o0,rfl⟩,U,e5,vs,rfl,hl,L⟩;refine⟨_,rfl,fun N' Ju=>?_⟩;have Fn:=aJ e;have hi:i=n∨i=2*n-1:=by
     have:i∈[n,n,2*n-1]:=by rw[e];simp
     simp only[LI,MM,or_false]at this
     rcases this with h|h|h
     ·exact .inl h
     ·exact .inl h
     ·exact .inr h
    have JM:vs.length=l.length:=by rw[<-hl,tv]
    ac_nf;refine Jr ∅ U.box λns M6 JH JI x6=>?_
    refine⟨by rw[tv,I7];simp at Fn;lia,Ju _ _ _ ⟨⟨_,rfl⟩,U.trans x6,x6.keep _ _ F e5,vs++[ns],by simp,by simp[hl,JH],λv JJ=>?_⟩⟩
    rcases LV.mp JJ with h|h
    ·exact L v h
    ·rw[OD]at h;subst h;exact JI
   ·rintro ρ M5 acc ⟨⟨o0,rfl⟩,U,e5,vs,rfl,hl,L⟩ pv hpv;obtain⟨l,r,o,rfl⟩:∃l r o,vs=[l,r,o]:=by
     have h3:vs.length=3:=by have:=congrArg O6 hl;simpa using this
     match vs,h3 with
     |[l,r,o],_=>exact⟨l,r,o,rfl⟩
    simp only[LX,Pp,Qg,and_true]at hl;refine⟨_,ab,_,rfl,?_⟩;have gv:=Ge.new (o:=.lst ([l,r,o].map λv=>.tup (v.map .int))) hpv;have e6:=gv _ _ e5;have x6:=U.ge gv;have Jn:=Qk hl.1 (L l (by simp))
    have Jo:=Qk hl.2.1 (L r (by simp))
    have Jp:=Qk hl.2.2 (L o (by simp))
    generalize ag M5 pv (.lst ([l,r,o].map λv=>.tup (v.map .int)))=M6 at gv e6 x6⊢;clear L e5 U gv hpv J e4;nofun;refine⟨⟨_,e6⟩,aZ e6 ?_⟩;ac_nf;rw[tv];refine fv x6.box ∅ (by have:=G.len;lia) λw M7 w0 w1 x7=>?_
    have e7:=x7.keep _ _ F e6;have x7:=x6.trans x7;refine⟨by rw[I7];lia,?_⟩
    refine⟨_,_,_,_,rfl,rfl,e7,w0,by rw[tv];lia,by rw[tv,I7];have:=G.len;lia,?_⟩
    have eq:(ps.map prD).take w.toNat++D.tup [D.tup (l.map D.int),D.tup (r.map D.int),D.tup (o.map D.int)]::(ps.map prD).drop w.toNat=(ps.take w.toNat++(l,r,o)::ps.drop w.toNat).map prD:=by rw[Mo,LX,UQ,List.map_drop];rfl
    rw[eq];have JB:∀p∈ps.take w.toNat++(l,r,o)::ps.drop w.toNat,uX n n (2*n-1) p:=λy hy=>by
     rcases LV.mp hy with h|h
     ·exact G.pr y (OM h)
     ·rcases LI.mp h with rfl|h
      ·exact⟨Jn.1,Jo.1,Jp.1,Jn.2,Jo.2,Jp.2⟩
      ·exact G.pr y (Pq h)
    have hT:∀k i j,Tn (ps.take w.toNat++(l,r,o)::ps.drop w.toNat) k i j=Tn ps k i j+tm (l,r,o) k i j:=λk i j=>EK;have hlen:(ps.take w.toNat++(l,r,o)::ps.drop w.toNat).length<=28:=by have:=G.len;rw[J4,MP,Mm,Of];lia
    generalize ps.take w.toNat++(l,r,o)::ps.drop w.toNat=qs at JB hT hlen⊢;have e8:=ab (M:=M7) (a:=p3) (o:=.lst (qs.map prD));have x8:=x7.upd (o:=.lst (qs.map prD)) n3 F;generalize ag M7 p3 (.lst (qs.map prD))=M8 at e8 x8⊢;clear e7 x7 e6 x6;nofun;refine⟨⟨_,e8⟩,?_⟩;refine aE (f:=.int) (ys:=o) (I:=λl ρ M' acc=>(∃o0,ρ=[o0])/\M'=M8/\acc=(ngL l).map .int) rfl ⟨⟨_,rfl⟩,rfl,rfl⟩ (λ_ _ _ _ _=>trivial) ?_ ?_
    ·rintro l2 y r2 ρ M9 acc e ⟨⟨o0,rfl⟩,rfl,rfl⟩;refine⟨_,rfl,λN' Ju=>?_⟩;have Fn:=aJ e;ac_nf;exact⟨by rw[tv,xR,I7];lia,Ju _ _ _ ⟨⟨_,rfl⟩,rfl,by simp[ngL]⟩⟩
    ·rintro ρ M9 acc ⟨_,rfl,rfl⟩ p9 hp9;refine⟨_,_,rfl,ak ab,?_⟩;have g9:=Ge.new (o:=.lst ((ngL o).map .int)) hp9;have e9:=g9 _ _ e8;have x9:=x8.ge g9;generalize ag M9 p9 (.lst ((ngL o).map .int))=M10 at g9 e9 x9⊢;refine⟨by rw[I7];decide,p3,_,_,rfl,rfl,e9,by rw[tv,I7];lia,?_⟩
     refine hR _ _ ⟨qs++[(l,r,ngL o)],_,_,_,rfl,x9.upd n3 F,by rw[ab,Mo];rfl,by simp,by rw[J4,NP];lia,λy hy=>?_,λk i j=>?_⟩
     ·rcases LV.mp hy with h|h
      ·exact JB y h
      ·rw[OD]at h;subst h;exact⟨Jn.1,Jo.1,by rw[xR];exact Jp.1,Jn.2,Jo.2,Ac Jp.2⟩
     ·have:=Gk (l:=l) (r:=r) (o:=o) (k:=k) (i:=i) (j:=j);rw[eZ,v8,hT,G.tn,show Tn [] k i j=0 from rfl];lia
  ·rw[if_neg (by simp[L])]
   exact hR _ _ ⟨_,_,_,_,rfl,J,e4,G.ne,by have:=G.len;lia,G.pr,G.tn⟩
 clear G e3 e1 Jm x3 ps x1;rintro ρ M4 ⟨ps,o4,o5,o6,rfl,J,e4,G⟩;nofun;refine aZ e4 ?_;rw[tv];have JK:=N6.mpr G.ne;have hlen:=G.len;refine fv J.box ∅ ∅ λv M5 v0 v1 U=>?_
 have e5:=U.keep _ _ F e4;have U:=J.trans U;obtain⟨a,rfl⟩:=N9 v0;have Jq:a<=ps.length:=∅
 nofun;refine⟨cy ⟨by decide,by decide⟩,?_⟩
 refine⟨_,e5,λpa Jr=>?_⟩;have ga:=Ge.new (o:=.lst (cc (ps.map prD) (Z (a:Int)) Y)) Jr;refine⟨_,ga _ _ e5,λpb F=>?_⟩;have gb:=ga.trans (Ge.new (o:=.lst (cc (ps.map prD) Y (Z (a:Int)))) F);refine⟨_,_,Ge.new F _ _ ab,ab,?_,λpc Jv=>⟨by rw[I7];decide,?_⟩⟩
 ·rw[xT (by simpa using Jq),xS (by simpa using Jq),I7,Mm,Of,tv];lia
 have JN:=U.box;have xb:=U.ge gb;have Jt:pc≠b:=λz=>by obtain⟨_,_,_,e⟩:=xb.box;rw[<-z,Jv]at e;cases e
 rw[show 2*(n:Int)-1=((2*n-1:Nat):Int) by lia]
 refine q (ps.drop a++ps.take a) pc _ ⟨?_,?_,λy hy=>?_,λk i j=>?_⟩ (xb.ge (.new Jv)) (xb.none Jv Jt) ?_
 ·intro z;have:=congrArg O6 z;rw[J4,Mm,Of,O9]at this;lia
 ·rw[J4,Mm,Of];lia
 ·rcases LV.mp hy with h|h
  ·exact G.pr y (Pq h)
  ·exact G.pr y (OM h)
 ·rw[EO,G.tn]
 ·rw[ab,xT (by simpa using Jq),xS (by simpa using Jq),<-UQ,<-List.map_drop,<-Mo]
end
section
variable{T:List FD}
theorem tw:∀n:Nat,b9 uo (D1 n (D.bl F2))=Z (D1 n F2)
 |0=>rfl
 |n+1=>by rw[Nk];unfold b9;rw[tw n];rfl
theorem EY(e:M p=Z (.lst (D1 n (.bl F2))))(q:Q (.bl F2) M):qb [.ref p] M Q:=by
 refine⟨_,_,_,rfl,ak e,tw n,?_⟩;rw[show(D1 n F2).all id=F2 by simp]
 exact q
end
section
open L2.Srt
variable{T:List FD}
noncomputable def lV(s:Stmt):FD:=⟨"_law_same_row",s,["_law_found","_law_due"],2,
 (.cons (.ite (.or (.cons (.not (.tru (.isin (.var 0) "list"))) (.cons (.cmp .ne (.blt .len (.cons (.var 0) .nil)) (.blt .len (.cons (.var 1) .nil))) .nil))) (.cons (.ret (.bl N2))
 .nil) .nil)
 (.cons (.ret (.blt .all (.cons (.comp [Y,Y] ["_law_a","_law_b"] (.last (.zip (.var 0) (.var 1)) (.tup (.cons (.name 0) (.cons (.name 1) .nil))) .nil (.and (.cons (.isin (.var 0) "int") (.cons (.not (.isin (.var 0) "bool")) (.cons (.cmp .eq (.var 0) (.var 1)) .nil)))))) .nil)))
 .nil))⟩
theorem CT{α:Type}{l:List α}:D1 l.length (D.bl F2)=l.map λ_=>D.bl F2:=by
 induction l with
 |nil=>rfl
 |cons a l ih=>rw[MP,Nk,ih];rfl
theorem qZ:∀A:List Int,Ra ir (A.map D.int) (A.map D.int)=A.map λx=>D.tup [.int x,.int x]
 |[]=>rfl
 |a::A=>by rw[LX,TN,qZ A,LX];rfl
theorem Ai(hf:T[f]?=Z (lV s)){k:Nat}(F:1<=k){p':Xc}(ep:M p=Z (.lst (A.map .int)))(ep':M p'=Z (.lst (A.map .int)))(G:A.length<=1000)(q:∀M',Ge M M'->Q (.bl F2) M'):phi T k f [.ref p,.ref p'] M Q:=by
 refine az ∅ hf rfl (ρ:=[Z _,Z _]) rfl ?_
 unfold lV;nofun;refine⟨"list",by simp[tyN,ep],F2,rfl,?_⟩
 rw[if_neg (by decide)]
 refine aZ ep (aZ ep' ?_);ac_nf;rw[if_neg (by simp)]
 nofun;refine⟨_,ak ep,_,ak ep',?_⟩;refine aE (f:=λx:Int=>D.tup [.int x,.int x]) (ys:=A) (I:=λl ρ M' acc=>(∃o0 z,ρ=[o0,z])/\M'=M/\acc=l.map λ_=>D.bl F2) (qZ A) ⟨⟨_,_,rfl⟩,rfl,rfl⟩ (λ_ _ _ _ h=>by rw[h.2.1];exact⟨ak ep,ak ep'⟩) ?_ ?_
 ·rintro l x r ρ M1 acc e ⟨⟨o0,z,rfl⟩,rfl,rfl⟩;refine⟨_,rfl,λN' j=>?_⟩;have B:=aJ e;ac_nf;refine⟨"int",rfl,?_⟩;rw[if_pos (by rfl)]
  refine⟨"int",rfl,?_⟩;rw[if_pos (by rfl)]
  exact⟨by rw[tv,I7];lia,j _ _ _ ⟨⟨_,_,rfl⟩,rfl,by simp⟩⟩
 ·rintro ρ M1 acc ⟨_,rfl,rfl⟩ pa hpa;exact EY (n:=A.length) (by rw[ab,CT]) (q _ (.new hpa))
end
section
open L2.Srt
noncomputable def ev(b:Int):List Int->Int
 |[]=>0
 |x::l=>x+b*ev b l
def Dg(b:Int)(l:List Int):Prop:=∀x∈l,0<=x/\x<b
def Lz(R:List Int):Prop:=∀x,R.getLast?=Z x->x≠0
structure Nm(b:Int)(F:List Int):Prop where
 dg:Dg b F
 ex:∃x R,F=x::R/\Lz R
theorem lW{b:Int}:∀l:List Int,ev b (l++[0])=ev b l
 |[]=>by simp[ev]
 |x::l=>by show x+b*ev b (l++[0])=x+b*ev b l;rw[lW l]
theorem r6{b:Int}{l:List Int}:∀k:Nat,ev b (l++D1 k 0)=ev b l
 |0=>by simp
 |k+1=>by rw[List.replicate_succ',<-LZ,lW,r6 k]
theorem Lz.tail{x:Int}(h:Lz (x::y::l)):Lz (y::l):=λz j=>h z (by rw[List.getLast?_cons_cons];exact j)
theorem y4{b:Int}(F:1<=b):∀{l:List Int},Dg b l->Lz l->l≠[]->0<ev b l
 |[],_,_,h=>absurd rfl h
 |[x],h,j,_=>by have h1:=(h x Mr).1;have h2:=j x rfl;show 0<x+b*0;lia
 |x::y::l,h,j,_=>by
  have h1:=(h x Mr).1;have ih:=y4 F (λz B=>h z (Mg _ B)) j.tail (by simp)
  have:=Int.mul_pos (show 0<b by lia) ih
  show 0<x+b*ev b (y::l);lia
theorem y7{b x:Int}(h:0<=x/\x<b):(ev b (x::l))%b=x:=by show(x+b*ev b l)%b=x;rw[Int.add_mul_emod_self_left];exact Int.emod_eq_of_lt h.1 h.2
theorem y8{b x:Int}(h:0<=x/\x<b):(ev b (x::l)) / b=ev b l:=by show(x+b*ev b l) / b=_;rw[Int.add_mul_ediv_left _ _ ∅,Int.ediv_eq_zero_of_lt h.1 h.2];lia
theorem AT{b:Int}(j:1<=b/\b<=1000):∀{l:List Int},Dg b l->0<=ev b l/\ev b l<1024^l.length
 |[],_=>by simp[ev]
 |x::l,h=>by
  obtain⟨z,F⟩:=AT j (l:=l) λy B=>h y (Mg _ B);have h1:=h x Mr;have h2:b*ev b l<=1000*ev b l:=Int.mul_le_mul_of_nonneg_right j.2 z;have G:=Int.mul_nonneg (show 0<=b by lia) z
  refine⟨by show 0<=x+b*ev b l;lia,?_⟩
  rw[MP,Int.pow_succ];show x+b*ev b l<_;lia
theorem tz{b:Int}(j:1<=b/\b<=1000)(h:Dg b l)(z:l.length<=100):QC (ev b l)<=2^20:=by
 obtain⟨h1,h2⟩:=AT j h;refine lQ (m:=1000) (by decide) ?_
 have G:(1024:Int)^l.length<=1024^100:=by exact_mod_cast Nat.pow_le_pow_right (show 0<1024 by decide) z
 have B:((ev b l).natAbs:Int)<1024^100:=∅
 have F:((ev b l).natAbs:Int)<((2^1000:Nat):Int):=by rw[show((2^1000:Nat):Int)=1024^100 by decide +kernel];exact B
 exact_mod_cast F
theorem iQ{b:Int}:∀{l:List Int},ev b l=aj l.length λi=>gz l (i:Nat)*b^i
 |[]=>rfl
 |x::l=>by
  rw[MP,nH];show x+b*ev b l=_;rw[iQ (l:=l),<-cj,dj,if_pos (by rfl)]
  congr 1
  ·simp
  ·refine al λi _=>?_;rw[dj,if_neg ∅,Int.pow_succ,show((i+1:Nat):Int)-1=(i:Nat) by lia]
   grind
theorem gD{n:Nat}{F:Nat->Int}:∀k:Nat,aj (n+k) F=aj n F+aj k λj=>F (n+j)
 |0=>by show _=_+0;simp
 |k+1=>by rw[<-QM,rsum_succ,gD k,rsum_succ];lia
theorem Go{b:Int}{s:Nat}(G:A.length=s)(J:B.length=s)(h1:1<=s):ev b (cv s A B)=ev b A*ev b B:=by
 have e1:ev b (cv s A B)=aj (2*s-1) λz=>cvz s A B (z:Nat)*b^z:=by rw[iQ,fQ];exact al λz _=>by rw[vc ∅]
 have e2:(aj (2*s-1) λz=>cvz s A B (z:Nat)*b^z)=aj (2*s-1) λz=>aj s λi=>gz A (i:Nat)*gz B ((z:Nat)-(i:Nat))*b^z:=al λz _=>by unfold cvz;rw[<-i9]
 rw[e1,e2,dA];have L:∀i,i<s->(aj (2*s-1) λz=>gz A (i:Nat)*gz B ((z:Nat)-(i:Nat))*b^z)=gz A (i:Nat)*b^i*ev b B:=λi hi=>by
  obtain⟨r,O⟩:∃r,2*s-1=i+(s+r):=⟨s-1-i,∅⟩
  rw[O,gD,gD,aS,iQ,J,aS (n:=r),Int.zero_add,Int.add_zero,<-cj]
  ·refine al λj F=>?_;rw[show((i+j:Nat):Int)-(i:Nat)=(j:Nat) by lia,Int.pow_add]
   grind
  ·intro j F;rw[dr (l:=B) ∅];simp
  ·intro j F;rw[dr (l:=B) ∅];simp
 rw[al L,i9,iQ (l:=A),G]
end
section
open L2.Srt
variable{T:List FD}
noncomputable def kK(s:Stmt):FD:=⟨"figures_of",s,["number","base","figures","rest"],2,
 (.cons (.asg (.name 2) (.lst (.cons (.bin .mod (.var 0) (.var 1)) .nil)))
 (.cons (.asg (.name 3) (.bin .fdiv (.var 0) (.var 1)))
 (.cons (.while (.cmp .gt (.var 3) (.int 0)) (.cons (.drop (.meth .append (.var 2) (.bin .mod (.var 3) (.var 1))))
 (.cons (.asg (.name 3) (.bin .fdiv (.var 3) (.var 1)))
 .nil)))
 (.cons (.ret (.var 2))
 .nil))))⟩
noncomputable def r8(s:Stmt)(ff fr:Nat):FD:=⟨"long_product",s,["scheme","n","one","other","base","left","right","length","row","times","product","x"],5,
 (.cons (.par 5 6 (.call ff (.cons (.var 2) (.cons (.var 4) .nil))) (.call ff (.cons (.var 3) (.cons (.var 4) .nil))))
 (.cons (.asg (.name 7) (.blt .max2 (.cons (.blt .len (.cons (.var 5) .nil)) (.cons (.blt .len (.cons (.var 6) .nil)) .nil))))
 (.cons (.asg (.tup (.cons (.name 8) (.cons (.name 9) .nil))) (.call fr (.cons (.var 0) (.cons (.var 1) (.cons (.bin .add (.var 5) (.bin .mul (.lst (.cons (.int 0) .nil)) (.bin .sub (.var 7) (.blt .len (.cons (.var 5) .nil))))) (.cons (.bin .add (.var 6) (.bin .mul (.lst (.cons (.int 0) .nil)) (.bin .sub (.var 7) (.blt .len (.cons (.var 6) .nil))))) .nil))))))
 (.cons (.asg (.name 10) (.int 0))
 (.cons (.for (.name 11) (.rev (.var 8)) (.cons (.asg (.name 10) (.bin .add (.bin .mul (.var 10) (.var 4)) (.var 11)))
 .nil))
 (.cons (.ret (.tup (.cons (.var 10) (.cons (.var 9) .nil))))
 .nil))))))⟩
theorem tD(hf:T[f]?=Z (kK s)){k:Nat}(hk:1<=k){b:Int}(hb:1<=b/\b<=1000){F:List Int}(Fn:Nm b F)(fv:F.length<=100)(q:∀p M',Ge M M'->M p=Y->M' p=Z (.lst (F.map .int))->Q (.ref p) M'):phi T k f [.int (ev b F),.int b] M Q:=by
 obtain⟨j,x,R,rfl,J⟩:=Fn;have hx:=j x Mr;refine az ∅ hf rfl (ρ:=[Z _,Z _,Y,Y]) rfl ?_
 unfold kK;nofun;rw[y7 hx];refine⟨∅,by rw[I7];decide,λp O=>?_⟩
 nofun;rw[y8 hx];refine⟨∅,∅,?_⟩
 nofun;refine⟨R.length+1,?_⟩;have g:∀(o0:Option D) (R G:List Int) (M':Mem),Dg b R->Lz R->G.length+R.length<=100->Ge M M'->M' p=Z (.lst (G.map .int))->(∀M',Ge M M'->M' p=Z (.lst ((G++R).map .int))->Q (.ref p) M')->
  aD (ef (wOp wGt (cS 3) (wC (.int 0)))) (wSs (phi T (k-1)) (.cons (.drop (.meth .append (.var 2) (.bin .mod (.var 3) (.var 1)))) (.cons (.asg (.name 3) (.bin .fdiv (.var 3) (.var 1))) .nil)))
   {nx:=wSs (phi T (k-1)) (.cons (.ret (.var 2)) .nil) {nx:=λ_ M'=>Q .non M',rt:=Q},rt:=Q} (R.length+1) [o0,Z (.int b),Z (.ref p),Z (.int (ev b R))] M':=by
  intro o0 R
  induction R with
  |nil=>
   intro G M' _ _ _ g' e' q';rw[O9,aD];ac_nf;rw[if_neg (by simp[ev])]
   nofun;exact q' _ g' (by rw[Np];exact e')
  |cons y R ih=>
   intro G M' j J hlen g' e' q';have L:=j y Mr;rw[MP,aD];have B:=y4 (b:=b) ∅ j J (by simp)
   ac_nf;rw[if_pos (by simpa using B)]
   nofun;refine⟨⟨_,e'⟩,∅,⟨p,_,_,rfl,rfl,e',by rw[tv,I7];rw[MP]at hlen;lia,?_⟩⟩
   rw[y7 L];nofun;rw[y8 L];refine⟨∅,∅,?_⟩
   have U:Lz R:=by
    cases R with
    |nil=>intro z h;cases h
    |cons a R=>exact J.tail
   exact ih (G++[y]) _ (λz h=>j z (Mg _ h)) U (by simp at hlen⊢;lia) (qT g' O) (by rw[ab,Mo];rfl) λM2 g2 e2=>q' M2 g2 (by rw[e2,LZ];rfl)
 exact g _ R [x] _ (λy L=>j y (Mg _ L)) J (by simp at fv⊢;lia) (.new O) ab λM' g' e'=>q p M' g' O e'
theorem AU{i:Nat}{F:List Int}(ei:ρ[i]?=Z (Z (.ref p)))(G:ρ[7]?=Z (Z (.int (L:Nat))))(ep:M p=Z (.lst (F.map .int)))(h:F.length<=L)(J:L<=1000)(q:∀p' M',Ge M M'->M' p'=Z (.lst ((F++D1 (L-F.length) 0).map .int))->Q (.ref p') M'):
 wE Φ (.bin .add (.var i) (.bin .mul (.lst (.cons (.int 0) .nil)) (.bin .sub (.var 7) (.blt .len (.cons (.var i) .nil))))) ρ M Q:=by
 ac_nf;refine⟨_,ei,by rw[I7];decide,λO j=>⟨_,G,_,ei,?_⟩⟩
 have g1:=Ge.new (o:=.lst [.int 0]) j;refine aZ (g1 _ _ ep) ?_;ac_nf;rw[tv,show(L:Int)-F.length=((L-F.length:Nat):Int) by lia]
 refine⟨_,ab,∅,∅,by rw[I7];simp;lia,λp2 z=>?_⟩
 rw[LO,uY];have g2:=g1.trans (Ge.new (o:=.lst ((D1 (L-F.length) (0:Int)).map D.int)) z);refine⟨_,_,g2 _ _ ep,ab,by rw[tv,tv,Nx,I7];lia,λpw B=>?_⟩
 rw[<-Mo];exact q pw _ (g2.trans (.new B)) ab
theorem tE{b:Int}(j:1<=b/\b<=1000){F:List Int}(h:Dg b F){k:Nat}:Big (F++D1 k 0):=λx hx=>by
 rcases LV.mp hx with h1|h1
 ·have:=h x h1;lia
 ·rw[QN h1];decide
theorem CU{fr:Nat}(hf:T[f]?=Z (r8 s ff fr))(O:T[ff]?=Z (kK sf)){k:Nat}(hk:2<=k){b:Int}(fv:1<=b/\b<=1000){F G:List Int}(hF:Nm b F)(hG:Nm b G)(lF:F.length<=60)(lG:G.length<=60){sch:D}{tm:Nat->Nat}(Jm:∀{sz:Nat} {A B:List Int} {pA pB:Xc} {z:Mem} {Q1:QD},1<=sz->sz<=60->A.length=sz->B.length=sz->Big A->Big B->Ge M z->z pA=Z (.lst (A.map .int))->z pB=Z (.lst (B.map .int))->(∀p M',Ge z M'->z p=Y->M' p=Z (.lst ((cv sz A B).map .int))->Q1 (.tup [.ref p,.int (tm sz:Nat)]) M')->phi T (k-1) fr [sch,.int n,.ref pA,.ref pB] z Q1)(q:∀M',Ge M M'->Q (.tup [.int (ev b F*ev b G),.int (tm (max F.length G.length):Nat)]) M'):phi T k f [sch,.int n,.int (ev b F),.int (ev b G),.int b] M Q:=by
 refine az ∅ hf rfl (ρ:=[Z _,Z _,Z _,Z _,Z _,Y,Y,Y,Y,Y,Y,Y]) rfl ?_
 unfold r8;nofun;refine tD O ∅ fv hF ∅ λp1 z g1 n1 e1=>?_
 ac_nf;refine tD O ∅ fv hG ∅ λp2 M2 g2 n2 e2=>?_
 ac_nf;nofun;have e1:=g2 _ _ e1;refine aZ e1 ?_;refine aZ e2 ?_;ac_nf;rw[tv,tv];have Jn:(if(F.length:Int)<G.length then(G.length:Int)else F.length)=((max F.length G.length:Nat):Int):=by split<;>lia
 rw[Jn];have U:F.length<=max F.length G.length:=Nat.le_max_left ..;have Fn:G.length<=max F.length G.length:=Nat.le_max_right ..;have j:1<=max F.length G.length/\max F.length G.length<=60:=by
  obtain⟨x,R,e,_⟩:=hF.ex;have:1<=F.length:=by rw[e];simp
  exact⟨∅,WI.mpr ⟨lF,lG⟩⟩
 generalize max F.length G.length=L at U Fn j q⊢;refine vd ?_;show wAr (phi T (k-1) fr) (wA (phi T (k-1)) _) _ _ _;unfold wAr;dsimp only[wA,av,aX];refine⟨_,rfl,?_⟩;dsimp only;refine⟨_,rfl,?_⟩;dsimp only;refine AU rfl rfl e1 U ∅ λq1 M3 g3 e3=>?_
 refine AU rfl rfl (g3 _ _ e2) Fn ∅ λq2 M4 g4 e4=>?_
 have gA:=((g1.trans g2).trans g3).trans g4;refine Jm (sz:=L) j.1 j.2 (by rw[J4,Nx];lia) (by rw[J4,Nx];lia) (tE fv hF.dg) (tE fv hG.dg) gA (g4 _ _ e3) e4 λpr M5 g5 n5 e5=>?_
 refine⟨_,rfl,?_⟩;nofun;nofun;refine⟨_,e5,?_⟩;refine bM (f:=.int) (ys:=(cv L (F++D1 (L-F.length) 0) (G++D1 (L-G.length) 0)).reverse) (I:=λl ρ M'=>(∃J,ρ=[Z sch,Z (.int n),Z (.int (ev b F)),Z (.int (ev b G)),Z (.int b),Z (.ref p1),Z (.ref p2),Z (.int (L:Nat)),Z (.ref pr),Z (.int (tm L:Nat)),Z (.int (ev b l.reverse)),J])/\M'=M5) (by rw[W4]) ⟨⟨_,rfl⟩,rfl⟩ (λl ρ M' h=>by rw[h.2];exact e5) ?_ ?_
 ·rintro l x r ρ M' e ⟨⟨J,rfl⟩,rfl⟩;refine⟨_,rfl,λFn Jo=>?_⟩;rw[bK];ac_nf;refine⟨i6 ⟨∅,∅⟩,?_⟩
  refine Jo _ _ ⟨⟨Z (.int x),?_⟩,rfl⟩;rw[RY,show[x].reverse++l.reverse=x::l.reverse from rfl,show ev b (x::l.reverse)=x+b*ev b l.reverse from rfl,TL b,Int.add_comm x]
 ·rintro ρ M' ⟨⟨J,rfl⟩,rfl⟩;nofun;rw[Qw,Go (by rw[J4,Nx];lia) (by rw[J4,Nx];lia) j.1,r6,r6]
  exact⟨by rw[I7];decide,q _ (gA.trans g5)⟩
end
section
open L2.Srt
variable{T:List FD}
noncomputable def lZ(s:Stmt)(fta:Nat):FD:=⟨"_law_long",s,["_law_box_here","_law_base","_law_length","_law_way","_law_figures","_law_number_here","_law_figure","_law_many"],3,
 (.cons (.asg (.name 3) (.call fta (.cons (.var 0) (.cons (.int 6) .nil))))
 (.cons (.asg (.name 4) (.comp [Y,(Z 3),(Z 1),(Z 0)] ["_law_k","_law_way","_law_base","_law_box_here"] (.last (.rng1 (.var 2)) (.name 0) .nil (.ite (.cmp .eq (.var 1) (.int 0)) (.bin .sub (.var 2) (.int 1)) (.call fta (.cons (.var 3) (.cons (.var 2) .nil)))))))
 (.cons (.ite (.cmp .eq (.var 3) (.int 1)) (.cons (.asg (.name 4) (.bin .add (.bin .mul (.lst (.cons (.int 0) .nil)) (.bin .sub (.var 2) (.int 1))) (.lst (.cons (.int 1) .nil))))
 .nil) .nil)
 (.cons (.asg (.name 5) (.int 0))
 (.cons (.for (.name 6) (.seq (.revS (.var 4) (.neg (.int 1)))) (.cons (.asg (.name 5) (.bin .add (.bin .mul (.var 5) (.var 1)) (.var 6)))
 .nil))
 (.cons (.asg (.name 7) (.var 2))
 (.cons (.while (.and (.cons (.cmp .gt (.var 7) (.int 1)) (.cons (.cmp .eq (.ix (.var 4) (.bin .sub (.var 7) (.int 1))) (.int 0)) .nil))) (.cons (.asg (.name 7) (.bin .sub (.var 7) (.int 1)))
 .nil))
 (.cons (.ret (.tup (.cons (.var 5) (.cons (.var 7) .nil))))
 .nil))))))))⟩
theorem CV{b:Int}{fs:List Int}(h:Dg b fs)(h1:1<=m)(hm:m<=fs.length)(B:m=1∨gz fs ((m-1:Nat):Int)≠0):Nm b (fs.take m):=by
 refine⟨λx hx=>h x (OM hx),?_⟩
 cases fs with
 |nil=>simp at hm;lia
 |cons x r=>
  obtain⟨k,rfl⟩:∃k,m=k+1:=⟨m-1,∅⟩
  refine⟨x,r.take k,rfl,λy j=>?_⟩;have F:k<=r.length:=by simpa using hm
  rw[Pg,Mm,Nz F]at j
  by_cases h0:k=0
  ·subst h0;simp at j
  ·rw[O8 ∅]at j
   rcases B with z|z
   ·lia
   ·intro e;subst e;apply z;refine fP ?_;rw[show k+1-1=(k-1)+1 by lia,OO]
    exact j
theorem CW{b:Int}{fs:List Int}(hm:m<fs.length)(j:gz fs (m:Nat)=0):ev b (fs.take (m+1))=ev b (fs.take m):=by rw[SM,dB hm,j];exact lW _
theorem Aj{fta:Nat}(hf:T[f]?=Z (lZ s fta)){k:Nat}(hk:1<=k)(O:kw T (k-1) fta){b:Int}(hb:2<=b/\b<=1000)(hL:1<=L/\L<=60){bx:Xc}(Jm:Box bx M)(q:∀F M',Nm b F->F.length<=60->Bx bx M M'->Q (.tup [.int (ev b F),.int (F.length:Nat)]) M'):phi T k f [.ref bx,.int b,.int (L:Nat)] M Q:=by
 refine az ∅ hf rfl (ρ:=[Z _,Z _,Z _,Y,Y,Y,Y,Y]) rfl ?_
 unfold lZ;refine bT (λρ M'=>∃v:Int,ρ=[Z (.ref bx),Z (.int b),Z (.int (L:Nat)),Z (.int v),Y,Y,Y,Y]/\Bx bx M M') (λR G=>?_) ?_
 ·ac_nf;exact O Jm (by decide) (by decide) λv M1 _ _ x1=>G _ _ ⟨v,rfl,x1⟩
 rintro ρ M1 ⟨v,rfl,x1⟩;refine bT (λρ M'=>∃p fs,ρ=[Z (.ref bx),Z (.int b),Z (.int (L:Nat)),Z (.int v),Z (.ref p),Y,Y,Y]/\Bx bx M M'/\M' p=Z (.lst (fs.map .int))/\Dg b fs/\fs.length=L) (λR G=>?_) ?_
 ·ac_nf;refine⟨∅,∅,?_⟩
  rw[LO];refine aE (f:=λi:Nat=>.int (i:Nat)) (ys:=D0 L) (I:=λl ρ M' acc=>(∃o0,ρ=[o0,Z (.int v),Z (.int b),Z (.ref bx)])/\Bx bx M M'/\∃fs:List Int,acc=fs.map .int/\fs.length=l.length/\Dg b fs) aY ⟨⟨_,rfl⟩,x1,[],rfl,rfl,λx hx=>by cases hx⟩ (λ_ _ _ _ _=>trivial) ?_ ?_
  ·rintro l i r ρ M2 acc e ⟨⟨o0,rfl⟩,j,fs,rfl,fv,U⟩;refine⟨_,rfl,fun N' Jn=>?_⟩;have Jo:=aJ e;rw[Mx]at Jo;have key:∀(y:Int) (B:Mem),0<=y->y<b->Bx bx M B->(fs.map D.int).length<LK/\N' [Z (.int (i:Nat)),Z (.int v),Z (.int b),Z (.ref bx)] B (fs.map D.int++[.int y]):=fun y B y0 y1 Fn=>by
    refine⟨by rw[tv,I7];lia,Jn _ _ _ ⟨⟨_,rfl⟩,Fn,fs++[y],by simp,by simp[fv],λz J=>?_⟩⟩
    rcases LV.mp J with h|h
    ·exact U z h
    ·rw[OD]at h;subst h;exact⟨y0,y1⟩
   ac_nf
   by_cases hv:v=0
   ·rw[if_pos (by simp[hv])]
    exact key _ _ ∅ ∅ j
   ·rw[if_neg (by simp[hv])]
    exact O j.box ∅ ∅ λy B y0 y1 Fn=>key _ _ y0 y1 (j.trans Fn)
  ·rintro ρ M2 acc ⟨_,j,fs,rfl,fv,U⟩ p hp;rw[Mx]at fv;exact G _ _ ⟨p,fs,rfl,j.ge (.new hp),ab,U,fv⟩
 rintro ρ M2 ⟨p0,Jp,rfl,j,e2,d2,l2⟩;refine bT (λρ M'=>∃p fs,ρ=[Z (.ref bx),Z (.int b),Z (.int (L:Nat)),Z (.int v),Z (.ref p),Y,Y,Y]/\Bx bx M M'/\M' p=Z (.lst (fs.map .int))/\Dg b fs/\fs.length=L) (λR G=>?_) ?_
 ·ac_nf
  by_cases hv:v=1
  ·rw[if_pos (by simp[hv])]
   nofun;refine⟨by rw[I7];decide,λp1 Jq=>?_⟩
   have g1:=Ge.new (o:=.lst [.int 0]) Jq;rw[show(L:Int)-1=((L-1:Nat):Int) by lia]
   refine⟨_,ab,∅,∅,by rw[I7];simp;lia,λpz Jr=>?_⟩
   rw[LO,uY];have gz':=Ge.new (o:=.lst ((D1 (L-1) (0:Int)).map D.int)) Jr;have ez:=ab (M:=ag M2 p1 (.lst [.int 0])) (a:=pz) (o:=.lst ((D1 (L-1) (0:Int)).map D.int));refine⟨by rw[I7];decide,λpo Js=>?_⟩
   have go:=Ge.new (o:=.lst ([(1:Int)].map D.int)) Js;refine⟨_,_,go _ _ ez,ab,by rw[tv,Nx,I7];simp;lia,λpw Jt=>?_⟩
   have gw:=Ge.new (o:=.lst ((D1 (L-1) (0:Int)).map D.int++[(1:Int)].map D.int)) Jt;refine G _ _ ⟨pw,D1 (L-1) 0++[1],rfl,j.ge (((g1.trans gz').trans go).trans gw),by rw[ab,Mo];rfl,λx hx=>?_,by simp;lia⟩
   rcases LV.mp hx with h|h
   ·rw[QN h];lia
   ·rw[OD]at h;lia
  ·rw[if_neg (by simp[hv])]
   exact G _ _ ⟨_,_,rfl,j,e2,d2,l2⟩
 clear e2 d2 l2 j p0 Jp;rintro ρ B ⟨p,fs,rfl,Fn,e3,U,lF⟩;nofun;nofun;refine⟨_,e3,λpr Ju=>⟨_,ak ab,?_⟩⟩;have gr:=Ge.new (o:=.lst (fs.map D.int).reverse) Ju;have x4:=Fn.ge gr;have e4:=gr _ _ e3;have er:=ab (M:=B) (a:=pr) (o:=.lst (fs.map D.int).reverse);generalize ag B pr (.lst (fs.map D.int).reverse)=M4 at x4 e4 er⊢;refine bM (f:=.int) (ys:=fs.reverse) (I:=λl ρ M'=>(∃o6,ρ=[Z (.ref bx),Z (.int b),Z (.int (L:Nat)),Z (.int v),Z (.ref p),Z (.int (ev b l.reverse)),o6,Y])/\M'=M4) (by rw[W4]) ⟨⟨_,rfl⟩,rfl⟩ (λl ρ M' h=>by rw[h.2];exact ak er) ?_ ?_
 ·rintro l x r ρ M' e ⟨⟨o6,rfl⟩,rfl⟩;refine⟨_,rfl,λFn Jv=>?_⟩;rw[bK];ac_nf;refine⟨i6 ⟨∅,∅⟩,?_⟩
  refine Jv _ _ ⟨⟨Z (.int x),?_⟩,rfl⟩;rw[RY,show[x].reverse++l.reverse=x::l.reverse from rfl,show ev b (x::l.reverse)=x+b*ev b l.reverse from rfl,TL b,Int.add_comm x]
 ·rintro ρ M' ⟨⟨o6,rfl⟩,rfl⟩;rw[Qw];nofun;nofun;refine⟨L,?_⟩;have go:∀m:Nat,m+1<=L->ev b (fs.take (m+1))=ev b fs->
   aD (jK (ef (wOp wGt (cS 7) (wC (.int 1)))) (ef (wOp wEq (wOp wIx (cS 4) (wOp kT (cS 7) (wC (.int 1)))) (wC (.int 0))))) (wSs (phi T (k-1)) (.cons (.asg (.name 7) (.bin .sub (.var 7) (.int 1))) .nil))
    {nx:=wSs (phi T (k-1)) (.cons (.ret (.tup (.cons (.var 5) (.cons (.var 7) .nil)))) .nil) {nx:=λ_ M'=>Q .non M',rt:=Q},rt:=Q} (m+1) [Z (.ref bx),Z (.int b),Z (.int (L:Nat)),Z (.int v),Z (.ref p),Z (.int (ev b fs)),o6,Z (.int ((m+1:Nat):Int))] M':=by
   have fin:∀m:Nat,m+1<=L->ev b (fs.take (m+1))=ev b fs->(m+1=1∨gz fs (m:Nat)≠0)->Q (.tup [.int (ev b fs),.int ((m+1:Nat):Int)]) M':=λm h1 h2 h3=>by
    have:=q (fs.take (m+1)) M' (CV U ∅ ∅ h3) (by rw[Mm];lia) x4
    rwa[h2,Mm,Nz ∅]at this
   intro m
   induction m with
   |zero=>
    intro hm ee;rw[aD];ac_nf;rw[if_neg (by simp)]
    nofun;exact⟨by rw[I7];decide,fin 0 hm ee (.inl rfl)⟩
   |succ m ih=>
    intro hm ee;rw[aD];ac_nf;rw[if_pos ∅,show((m+1+1:Nat):Int)-1=((m+1:Nat):Int) by lia]
    refine aI e4 (d:=.int (gz fs ((m+1:Nat):Int))) (kF (by rw[LQ,dB ∅];rfl)) ?_
    ac_nf
    by_cases J:gz fs ((m+1:Nat):Int)=0
    ·rw[if_pos (by simpa using J)]
     nofun;rw[show((m+1+1:Nat):Int)-1=((m+1:Nat):Int) by lia]
     exact ih ∅ (by rw[<-CW ∅ J];exact ee)
    ·rw[if_neg (by simpa using J)]
     nofun;exact⟨by rw[I7];decide,fin (m+1) hm ee (.inr J)⟩
  obtain⟨m,rfl⟩:∃m,L=m+1:=⟨L-1,∅⟩
  exact go m ∅ (by rw[NY ∅])
end
section
namespace K50
noncomputable def ai(i:Nat):Stmt:=PySem.Challenge.pw_fewtimes_k50_long_numbers.main.body.getD i (.Pass ⟨0,0,0,0⟩)
noncomputable def d0:FD:=i8 (ai 1)
noncomputable def d1:FD:=ky (ai 2) 0
noncomputable def d2:FD:=dm (ai 4)
noncomputable def d3:FD:=dP (ai 5)
noncomputable def d4:FD:=kI (ai 7)
noncomputable def d5:FD:=ie (ai 8) 2
noncomputable def d6:FD:=kH (ai 9) 5 2
noncomputable def d7:FD:=oP (ai 10)
noncomputable def b8:MSs:=
 (.cons (.ite (.cmp .eq (.blt .len (.cons (.var 2) .nil)) (.int 1)) (.cons (.ret (.tup (.cons (.lst (.cons (.bin .mul (.ix (.var 2) (.int 0)) (.ix (.var 3) (.int 0))) .nil)) (.cons (.int 1) .nil))))
 .nil) .nil)
 (.cons (.asg (.name 4) (.call 4 (.cons (.blt .len (.cons (.var 2) .nil)) (.cons (.var 1) .nil))))
 (.cons (.asg (.name 5) (.comp [Y,(Z 4)] ["k","wide"] (.last (.rng1 (.bin .sub (.bin .mul (.int 2) (.var 1)) (.int 1))) (.name 0) .nil (.lrng2 (.bin .mul (.var 0) (.var 1)) (.bin .sub (.bin .mul (.bin .add (.var 0) (.int 2)) (.var 1)) (.int 1))))))
 (.cons (.asg (.tup (.cons (.name 6) (.cons (.name 7) .nil))) (.callL 6 (.cons (.var 0) (.cons (.call 7 (.cons (.var 2) (.cons (.var 1) (.cons (.var 4) .nil)))) (.cons (.call 7 (.cons (.var 3) (.cons (.var 1) (.cons (.var 4) .nil)))) (.cons (.var 5) .nil)))) 8 [0,1] [0,1,2,3] 62 ⟨42,98,42,137⟩ (Mu "row_times.<locals>.<lambda>")))
 (.cons (.ret (.tup (.cons (.sl (.var 6) .none (.some (.bin .sub (.bin .mul (.int 2) (.blt .len (.cons (.var 2) .nil))) (.int 1)))) (.cons (.var 7) .nil))))
 .nil)))))
noncomputable def d8:FD:=⟨"row_times",ai 11,["scheme","n","one","other","wide","places","told","times"],4,b8⟩
noncomputable def d9:FD:=kK (ai 12)
noncomputable def d10:FD:=r8 (ai 13) 9 8
noncomputable def d11:FD:=iP (ai 15) 3
noncomputable def d12:FD:=kC (ai 16) 3
noncomputable def d13:FD:=kD (ai 17) 3
noncomputable def d14:FD:=va (ai 18) 12 13
noncomputable def d15:FD:=ku (ai 20)
noncomputable def d16:FD:=lD (ai 21)
noncomputable def d17:FD:=uV (ai 22) 15 16
noncomputable def d18:FD:=qI (ai 23) 16
noncomputable def d19:FD:=ji (ai 24) 18
noncomputable def d20:FD:=qK (ai 25) 19
noncomputable def d21:FD:=qY (ai 26) 14 11 1 18 20
noncomputable def d22:FD:=jl (ai 27)
noncomputable def d23:FD:=lV (ai 28)
noncomputable def d24:FD:=lZ (ai 29) 18
noncomputable def b25:MSs:=
 (.cons (.for (.name 1) (.rng1 (.blt .max2 (.cons (.int 4) (.cons (.blt .min2 (.cons (.blt .len (.cons (.var 0) .nil)) (.cons (.int 8) .nil))) .nil)))) (.cons (.asg (.name 2) (.call 17 (.cons (.var 0) (.cons (.var 1) .nil))))
 (.cons (.asg (.name 3) (.bin .add (.int 2) (.call 18 (.cons (.var 2) (.cons (.int 4) .nil)))))
 (.cons (.asg (.name 4) (.call 21 (.cons (.var 2) (.cons (.var 3) .nil))))
 (.cons (.asg (.name 5) (.ix (.lst (.cons (.int 2) (.cons (.int 10) (.cons (.int 1000) (.cons (.bin .add (.int 2) (.call 18 (.cons (.var 2) (.cons (.int 999) .nil)))) .nil))))) (.call 18 (.cons (.var 2) (.cons (.int 4) .nil)))))
 (.cons (.asg (.name 6) (.comp [Y,(Z 2)] ["_law_side","_law_box_here"] (.last (.rng1 (.int 2)) (.name 0) .nil (.ix (.lst (.cons (.int 60) (.cons (.bin .add (.int 1) (.call 18 (.cons (.var 1) (.cons (.int 60) .nil)))) (.cons (.int 1) (.cons (.int 8) .nil))))) (.call 18 (.cons (.var 1) (.cons (.int 4) .nil)))))))
 (.cons (.while (.cmp .gt (.call 22 (.cons (.blt .len (.cons (.ix (.var 4) (.int 3)) .nil)) (.cons (.var 3) (.cons (.blt .max1 (.cons (.var 6) .nil)) .nil)))) (.int 700)) (.cons (.asg (.name 6) (.comp [Y] ["_law_length"] (.last (.seq (.var 6)) (.name 0) .nil (.blt .max2 (.cons (.int 1) (.cons (.bin .fdiv (.var 0) (.int 2)) .nil))))))
 .nil))
 (.cons (.asg (.tup (.cons (.name 7) (.cons (.name 8) .nil))) (.call 24 (.cons (.var 2) (.cons (.var 5) (.cons (.ix (.var 6) (.int 0)) .nil)))))
 (.cons (.asg (.tup (.cons (.name 9) (.cons (.name 10) .nil))) (.call 24 (.cons (.var 2) (.cons (.var 5) (.cons (.ix (.var 6) (.int 1)) .nil)))))
 (.cons (.asg (.name 11) (.call 22 (.cons (.blt .len (.cons (.ix (.var 4) (.int 3)) .nil)) (.cons (.var 3) (.cons (.blt .max2 (.cons (.var 8) (.cons (.var 10) .nil))) .nil)))))
 (.cons (.asg (.name 12) (.call 10 (.cons (.var 4) (.cons (.var 3) (.cons (.var 7) (.cons (.var 9) (.cons (.var 5) .nil)))))))
 (.cons (.ite (.or (.cons (.not (.tru (.isin (.var 12) "tuple"))) (.cons (.not (.tru (.call 23 (.cons (.blt .list (.cons (.var 12) .nil)) (.cons (.lst (.cons (.bin .mul (.var 7) (.var 9)) (.cons (.var 11) .nil))) .nil))))) .nil))) (.cons (.ret (.bl N2))
 .nil) .nil)
 .nil))))))))))))
 (.cons (.ret (.bl F2))
 .nil))
noncomputable def d25:FD:=⟨"law",ai 30,["_law_script","_law_k","_law_box_here","_law_n","_law_scheme","_law_base","_law_lengths","_law_one","_law_first","_law_other","_law_second","_law_times_here","_law_found"],1,b25⟩
noncomputable def tab:List FD:=[d0,d1,d2,d3,d4,d5,d6,d7,d8,d9,d10,d11,d12,d13,d14,d15,d16,d17,d18,d19,d20,d21,d22,d23,d24,d25]
noncomputable def r9:List (Str×D):=[]
noncomputable def lms:List (Str×Xc):=[("row_times",62)]
noncomputable def lmM:List (Xc×Pos×Str):=[(62,⟨42,98,42,137⟩,Mu "row_times.<locals>.<lambda>")]
theorem AV(us:List i0)(h:us.length=5):∃a b c d e,us=[a,b,c,d,e]:=by
 cases us with
 |nil=>cases h
 |cons a us=>obtain⟨b,c,d,e,rfl⟩:=uU us (WG.inj h);exact⟨a,b,c,d,e,rfl⟩
end K50
end
section
namespace K50
theorem EZ:∀d∈tab,uR (tab.map (·.name)) r9 lms d=F2:=by decide +kernel
noncomputable abbrev PA(K:Frag)(x:Str)(f:Xc):Prop:=S9 K Nw x=Z (Z (.ref f))
noncomputable abbrev PL(K:Frag)(f:Xc)(x:Str)(s:Stmt)(oc:i0)(od:Option Xc)(kV dc pm:i0)(an:Option Xc)(cd ct:i0)(sl:Array (Option i0)):Prop:=K.lookup f=Z ⟨oc,od,.func (OF x x (da s) (bv s) (aq s) .none kV dc pm an cd ct),sl⟩
noncomputable abbrev PC(K:Frag)(c:i0)(x:Str):Prop:=Qu K c x=F2
noncomputable abbrev PK(K:Frag)(f:Xc):Prop:=P5 K (.ref f)=F2
theorem all_mk{l:TY}{w:MQ}{K:Frag}{h:Heap}{mg:Str->Option i0}{fa:Xc}(X:K.In h)(G:h.Ns Nw mg)(hfa:mg "law"=Z (.ref fa))(z:∀x∈bltNames,S9 K Nw x=Z Y)(a0:PA K "task_of" f0)(l0:PL K f0 "task_of" (ai 1) oc0 od0 kV0 dc0 pm0 an0 cd0 ct0 sl0)(c0:PC K cd0 "task_of")(k0:PK K f0)(a1:PA K "line_task" f1)(l1:PL K f1 "line_task" (ai 2) oc1 od1 kV1 dc1 pm1 an1 cd1 ct1 sl1)(c1:PC K cd1 "line_task")(k1:PK K f1)(a2:PA K "filled" f2)(l2:PL K f2 "filled" (ai 4) oc2 od2 kV2 dc2 pm2 an2 cd2 ct2 sl2)(c2:PC K cd2 "filled")(k2:PK K f2)(a3:PA K "single_one" f3)(l3:PL K f3 "single_one" (ai 5) oc3 od3 kV3 dc3 pm3 an3 cd3 ct3 sl3)(c3:PC K cd3 "single_one")(k3:PK K f3)(a4:PA K "block_length" f4)(l4:PL K f4 "block_length" (ai 7) oc4 od4 kV4 dc4 pm4 an4 cd4 ct4 sl4)(c4:PC K cd4 "block_length")(k4:PK K f4)(a5:PA K "block_sum" f5)(l5:PL K f5 "block_sum" (ai 8) oc5 od5 kV5 dc5 pm5 an5 cd5 ct5 sl5)(c5:PC K cd5 "block_sum")(k5:PK K f5)(a6:PA K "by_blocks" f6)(l6:PL K f6 "by_blocks" (ai 9) oc6 od6 kV6 dc6 pm6 an6 cd6 ct6 sl6)(c6:PC K cd6 "by_blocks")(k6:PK K f6)(a7:PA K "row_blocks" f7)(l7:PL K f7 "row_blocks" (ai 10) oc7 od7 kV7 dc7 pm7 an7 cd7 ct7 sl7)(c7:PC K cd7 "row_blocks")(k7:PK K f7)(a8:PA K "row_times" f8)(l8:PL K f8 "row_times" (ai 11) oc8 od8 kV8 dc8 pm8 an8 (.ref cl8) ct8 sl8)(c8:PC K (.ref cl8) "row_times")(k8:PK K f8)(a9:PA K "figures_of" f9)(l9:PL K f9 "figures_of" (ai 12) oc9 od9 kV9 dc9 pm9 an9 cd9 ct9 sl9)(c9:PC K cd9 "figures_of")(k9:PK K f9)(a10:PA K "long_product" f10)(l10:PL K f10 "long_product" (ai 13) oc10 od10 kV10 dc10 pm10 an10 cd10 ct10 sl10)(c10:PC K cd10 "long_product")(k10:PK K f10)(a11:PA K "plain" f11)(l11:PL K f11 "plain" (ai 15) oc11 od11 kV11 dc11 pm11 an11 cd11 ct11 sl11)(c11:PC K cd11 "plain")(k11:PK K f11)(a12:PA K "own_product" f12)(l12:PL K f12 "own_product" (ai 16) oc12 od12 kV12 dc12 pm12 an12 cd12 ct12 sl12)(c12:PC K cd12 "own_product")(k12:PK K f12)(a13:PA K "pair_product" f13)(l13:PL K f13 "pair_product" (ai 17) oc13 od13 kV13 dc13 pm13 an13 cd13 ct13 sl13)(c13:PC K cd13 "pair_product")(k13:PK K f13)(a14:PA K "by_pairs" f14)(l14:PL K f14 "by_pairs" (ai 18) oc14 od14 kV14 dc14 pm14 an14 cd14 ct14 sl14)(c14:PC K cd14 "by_pairs")(k14:PK K f14)(a15:PA K "_law_cell_at" f15)(l15:PL K f15 "_law_cell_at" (ai 20) oc15 od15 kV15 dc15 pm15 an15 cd15 ct15 sl15)(c15:PC K cd15 "_law_cell_at")(k15:PK K f15)(a16:PA K "_law_mixed" f16)(l16:PL K f16 "_law_mixed" (ai 21) oc16 od16 kV16 dc16 pm16 an16 cd16 ct16 sl16)(c16:PC K cd16 "_law_mixed")(k16:PK K f16)(a17:PA K "_law_box" f17)(l17:PL K f17 "_law_box" (ai 22) oc17 od17 kV17 dc17 pm17 an17 cd17 ct17 sl17)(c17:PC K cd17 "_law_box")(k17:PK K f17)(a18:PA K "_law_take" f18)(l18:PL K f18 "_law_take" (ai 23) oc18 od18 kV18 dc18 pm18 an18 cd18 ct18 sl18)(c18:PC K cd18 "_law_take")(k18:PK K f18)(a19:PA K "_law_number" f19)(l19:PL K f19 "_law_number" (ai 24) oc19 od19 kV19 dc19 pm19 an19 cd19 ct19 sl19)(c19:PC K cd19 "_law_number")(k19:PK K f19)(a20:PA K "_law_part" f20)(l20:PL K f20 "_law_part" (ai 25) oc20 od20 kV20 dc20 pm20 an20 cd20 ct20 sl20)(c20:PC K cd20 "_law_part")(k20:PK K f20)(a21:PA K "_law_line_scheme" f21)(l21:PL K f21 "_law_line_scheme" (ai 26) oc21 od21 kV21 dc21 pm21 an21 cd21 ct21 sl21)(c21:PC K cd21 "_law_line_scheme")(k21:PK K f21)(a22:PA K "_law_times" f22)(l22:PL K f22 "_law_times" (ai 27) oc22 od22 kV22 dc22 pm22 an22 cd22 ct22 sl22)(c22:PC K cd22 "_law_times")(k22:PK K f22)(a23:PA K "_law_same_row" f23)(l23:PL K f23 "_law_same_row" (ai 28) oc23 od23 kV23 dc23 pm23 an23 cd23 ct23 sl23)(c23:PC K cd23 "_law_same_row")(k23:PK K f23)(a24:PA K "_law_long" f24)(l24:PL K f24 "_law_long" (ai 29) oc24 od24 kV24 dc24 pm24 an24 cd24 ct24 sl24)(c24:PC K cd24 "_law_long")(k24:PK K f24)(a25:PA K "law" f25)(l25:PL K f25 "law" (ai 30) oc25 od25 kV25 dc25 pm25 an25 cd25 ct25 sl25)(c25:PC K cd25 "law")(k25:PK K f25)(hd8:NX K cl8 62=F2)
 : ∃fd:Oe,(∀(s:s9) (v:i0),Uw s fd ⟨[v],[]⟩ [("_law_script",v)])/\∀base:Heap,K.In base->base.Ns Nw mg->fj mg base->FnOk l.prog w K mg base CX0 40 fa fd ["_law_script"] (lSp K (phi tab 40 25)):=by
 have e:=hfa.symm.trans (Mv X G a25)
 cases e
 have O:uS K mg tab r9 lms:=by
  refine⟨λx hx=>PySem.W.mg_none_of X G (z x hx),?_,EZ,?_,by decide,?_⟩
  ·intro i d hd
   match i,hd with
   |0,hd=>cases hd;exact⟨_,_,ah l0 c0 k0,Mv X G a0,a0,(ah l0 c0 k0).binds λ_ _ _ _ _ _ us hl=>by obtain⟨u0,u1,u2,u3,rfl⟩:=uU us hl;rfl⟩
   |1,hd=>cases hd;exact⟨_,_,ah l1 c1 k1,Mv X G a1,a1,(ah l1 c1 k1).binds λ_ _ _ _ _ _ us hl=>by obtain⟨u0,u1,rfl⟩:=bX us hl;rfl⟩
   |2,hd=>cases hd;exact⟨_,_,ah l2 c2 k2,Mv X G a2,a2,(ah l2 c2 k2).binds λ_ _ _ _ _ _ us hl=>by obtain⟨u0,rfl⟩:=iL us hl;rfl⟩
   |3,hd=>cases hd;exact⟨_,_,ah l3 c3 k3,Mv X G a3,a3,(ah l3 c3 k3).binds λ_ _ _ _ _ _ us hl=>by obtain⟨u0,u1,rfl⟩:=bX us hl;rfl⟩
   |4,hd=>cases hd;exact⟨_,_,ah l4 c4 k4,Mv X G a4,a4,(ah l4 c4 k4).binds λ_ _ _ _ _ _ us hl=>by obtain⟨u0,u1,rfl⟩:=bX us hl;rfl⟩
   |5,hd=>cases hd;exact⟨_,_,ah l5 c5 k5,Mv X G a5,a5,(ah l5 c5 k5).binds λ_ _ _ _ _ _ us hl=>by obtain⟨u0,u1,rfl⟩:=bX us hl;rfl⟩
   |6,hd=>cases hd;exact⟨_,_,ah l6 c6 k6,Mv X G a6,a6,(ah l6 c6 k6).binds λ_ _ _ _ _ _ us hl=>by obtain⟨u0,u1,u2,u3,u4,rfl⟩:=AV us hl;rfl⟩
   |7,hd=>cases hd;exact⟨_,_,ah l7 c7 k7,Mv X G a7,a7,(ah l7 c7 k7).binds λ_ _ _ _ _ _ us hl=>by obtain⟨u0,u1,u2,rfl⟩:=kr us hl;rfl⟩
   |8,hd=>cases hd;exact⟨_,_,ah l8 c8 k8,Mv X G a8,a8,(ah l8 c8 k8).binds λ_ _ _ _ _ _ us hl=>by obtain⟨u0,u1,u2,u3,rfl⟩:=uU us hl;rfl⟩
   |9,hd=>cases hd;exact⟨_,_,ah l9 c9 k9,Mv X G a9,a9,(ah l9 c9 k9).binds λ_ _ _ _ _ _ us hl=>by obtain⟨u0,u1,rfl⟩:=bX us hl;rfl⟩
   |10,hd=>cases hd;exact⟨_,_,ah l10 c10 k10,Mv X G a10,a10,(ah l10 c10 k10).binds λ_ _ _ _ _ _ us hl=>by obtain⟨u0,u1,u2,u3,u4,rfl⟩:=AV us hl;rfl⟩
   |11,hd=>cases hd;exact⟨_,_,ah l11 c11 k11,Mv X G a11,a11,(ah l11 c11 k11).binds λ_ _ _ _ _ _ us hl=>by obtain⟨u0,rfl⟩:=iL us hl;rfl⟩
   |12,hd=>cases hd;exact⟨_,_,ah l12 c12 k12,Mv X G a12,a12,(ah l12 c12 k12).binds λ_ _ _ _ _ _ us hl=>by obtain⟨u0,u1,rfl⟩:=bX us hl;rfl⟩
   |13,hd=>cases hd;exact⟨_,_,ah l13 c13 k13,Mv X G a13,a13,(ah l13 c13 k13).binds λ_ _ _ _ _ _ us hl=>by obtain⟨u0,u1,u2,rfl⟩:=kr us hl;rfl⟩
   |14,hd=>cases hd;exact⟨_,_,ah l14 c14 k14,Mv X G a14,a14,(ah l14 c14 k14).binds λ_ _ _ _ _ _ us hl=>by obtain⟨u0,rfl⟩:=iL us hl;rfl⟩
   |15,hd=>cases hd;exact⟨_,_,ah l15 c15 k15,Mv X G a15,a15,(ah l15 c15 k15).binds λ_ _ _ _ _ _ us hl=>by obtain⟨u0,u1,rfl⟩:=bX us hl;rfl⟩
   |16,hd=>cases hd;exact⟨_,_,ah l16 c16 k16,Mv X G a16,a16,(ah l16 c16 k16).binds λ_ _ _ _ _ _ us hl=>by obtain⟨u0,u1,rfl⟩:=bX us hl;rfl⟩
   |17,hd=>cases hd;exact⟨_,_,ah l17 c17 k17,Mv X G a17,a17,(ah l17 c17 k17).binds λ_ _ _ _ _ _ us hl=>by obtain⟨u0,u1,rfl⟩:=bX us hl;rfl⟩
   |18,hd=>cases hd;exact⟨_,_,ah l18 c18 k18,Mv X G a18,a18,(ah l18 c18 k18).binds λ_ _ _ _ _ _ us hl=>by obtain⟨u0,u1,rfl⟩:=bX us hl;rfl⟩
   |19,hd=>cases hd;exact⟨_,_,ah l19 c19 k19,Mv X G a19,a19,(ah l19 c19 k19).binds λ_ _ _ _ _ _ us hl=>by obtain⟨u0,rfl⟩:=iL us hl;rfl⟩
   |20,hd=>cases hd;exact⟨_,_,ah l20 c20 k20,Mv X G a20,a20,(ah l20 c20 k20).binds λ_ _ _ _ _ _ us hl=>by obtain⟨u0,u1,rfl⟩:=bX us hl;rfl⟩
   |21,hd=>cases hd;exact⟨_,_,ah l21 c21 k21,Mv X G a21,a21,(ah l21 c21 k21).binds λ_ _ _ _ _ _ us hl=>by obtain⟨u0,u1,rfl⟩:=bX us hl;rfl⟩
   |22,hd=>cases hd;exact⟨_,_,ah l22 c22 k22,Mv X G a22,a22,(ah l22 c22 k22).binds λ_ _ _ _ _ _ us hl=>by obtain⟨u0,u1,u2,rfl⟩:=kr us hl;rfl⟩
   |23,hd=>cases hd;exact⟨_,_,ah l23 c23 k23,Mv X G a23,a23,(ah l23 c23 k23).binds λ_ _ _ _ _ _ us hl=>by obtain⟨u0,u1,rfl⟩:=bX us hl;rfl⟩
   |24,hd=>cases hd;exact⟨_,_,ah l24 c24 k24,Mv X G a24,a24,(ah l24 c24 k24).binds λ_ _ _ _ _ _ us hl=>by obtain⟨u0,u1,u2,rfl⟩:=kr us hl;rfl⟩
   |25,hd=>cases hd;exact⟨_,_,ah l25 c25 k25,Mv X G a25,a25,(ah l25 c25 k25).binds λ_ _ _ _ _ _ us hl=>by obtain⟨u0,rfl⟩:=iL us hl;rfl⟩
   |i+26,hd=>simp[tab]at hd
  ·intro x i hx;simp only[r9,LI,MM,or_false,RB]at hx
  ·intro i d T0 hd hl f hm;have hi:=EC (Ls:=[8]) (by decide +kernel) hd hl
   simp only[LI,MM,or_false]at hi
   rcases hi with rfl
   ·cases hd;cases hm.symm.trans (Mv X G a8);obtain rfl:62=T0:=by(have z9:lms.lookup d8.name=Z 62:=by decide +kernel);rw[z9]at hl;cases hl;rfl
    exact⟨_,⟨_,_,_,_,_,_,_,_,_,rfl,l8,c8,hd8⟩⟩
 refine⟨OF "law" "law" (da (ai 30)) (bv (ai 30)) (aq (ai 30)) .none kV25 dc25 pm25 an25 cd25 ct25,λs v=>.of_eq rfl,λbase hI _ hB=>?_⟩;exact(EB O hI hB 40).fn 25 d25 _ _ rfl (ah l25 c25 k25) (Mv X G a25)
noncomputable def lmT:List (Xc×Xc):=[(64,62)]
theorem walk {l:TY}{q:Ml}{loose:List Str}{XP:(Str->Option i0)->Heap->Prop}{YP:MQ->Heap->Prop}{d:DefRec}{K:Params->Frag}(hn:l.most=Z 63)(hdf:d.params.defaults=[])(hlaw:∀ns:List Int,ns.length<=63->phi tab 40 25 [.con (ns.map D.int)] (eG lmM) fun d _=>d=.bl F2)(hY:∀(w:MQ) (h:Heap),YP w h->(K w.params).In h/\∀p∈lmT.map (·.2),h.get? p=Z (PySem.W.tabObj #[]))(hts:∀(w:MQ),∀q∈lmT,NX (K w.params) q.1 q.2=F2/\(K w.params).lookup q.2=Y)(F:∀(w:MQ) (mg:Str->Option i0) (fa:Xc) (h:Heap),(K w.params).In h->h.Ns Nw mg->mg d.name=Z (.ref fa)->
   ∃fd:Oe,(∀(s:s9) (u:i0),Uw s fd ⟨[u],[]⟩ [("_law_script",u)])/\∀base:Heap,(K w.params).In base->base.Ns Nw mg->fj mg base->FnOk l.prog w (K w.params) mg base CX0 40 fa fd ["_law_script"] (lSp (K w.params) (phi tab 40 25))):
 PySem.W.WalkO q loose XP YP l.row.toRowW d [] (λf vs=>Wv f vs):=
 L2.walk_ofT (n:=63) (k:=40) (x:="_law_script") (ts:=lmT) (sp:=λw=>lSp (K w.params) (phi tab 40 25)) hn (by decide) hdf ⟨rfl,by decide,by decide⟩ hY hts F (λw H a ns hl hO hS=>Cf lmM (by decide) hO hS (hlaw ns hl))
end K50
end
section
namespace K50
open L2.Srt
variable{n:Nat}
theorem tF(j:1<=n):uW tab n 16:=xE (x:="_law_number_here") (s:=ai 21) rfl j
theorem ck(j:2<=n):kw tab n 18:=λz h1 h2 q=>Ck (s:=ai 23) (fm:=16) rfl (tF ∅) j z h1 h2 q
theorem ve(z:3<=n):qJ tab n 19:=λj q=>xB (s:=ai 24) (ft:=18) rfl (ck ∅) ∅ j q
theorem Ak(B:4<=n):xD tab n 20:=λj z q=>Cl (s:=ai 25) (fn:=19) rfl (ve ∅) ∅ j z q
variable{M:Mem}{Q:QD}
theorem Al{k:Nat}(j:6<=k)(z:2<=n/\n<=5){b:Xc}(B:Box b M)(q:∀ps p M',LS n 29 ps->Bx b M M'->M p=Y->M' p=Z (.lst (ps.map prD))->Q (.tup [.int n,.int n,.int (2*n-1:Nat),.ref p]) M'):phi tab k 21 [.ref b,.int n] M Q:=CS (s:=ai 26) (fbp:=14) (fpl:=11) (flt:=1) (fta:=18) (fpa:=20) (ft:=0) (f1:=3) (fo:=12) (fp:=13) (s1:=ai 15) (s2:=ai 5) (s3:=ai 2) (s4:=ai 1) (s5:=ai 18) (s6:=ai 16) (s7:=ai 17) rfl rfl rfl rfl rfl rfl rfl rfl j (ck ∅) (Ak ∅) z B q
theorem ii{k:Nat}(z:1<=k){many sz:Nat}(hm:many<=1000)(j:2<=n/\n<=1000)(h1:1<=sz)(h2:sz<=64)(q:Q (.int (tms many n 6 sz:Nat)) M):phi tab k 22 [.int many,.int n,.int sz] M Q:=xY (s:=ai 27) (d:=6) rfl z hm j.1 j.2 h1 h2 q
variable{p:Xc}{A:List Int}
theorem Am{k:Nat}(j:1<=k){p':Xc}(ep:M p=Z (.lst (A.map .int)))(ep':M p'=Z (.lst (A.map .int)))(z:A.length<=1000)(q:∀M',Ge M M'->Q (.bl F2) M'):phi tab k 23 [.ref p,.ref p'] M Q:=Ai (s:=ai 28) rfl j ep ep' z q
theorem nP{k:Nat}(G:3<=k){b:Int}(z:2<=b/\b<=1000){L:Nat}(B:1<=L/\L<=60){bx:Xc}(j:Box bx M)(q:∀F M',Nm b F->F.length<=60->Bx bx M M'->Q (.tup [.int (ev b F),.int (F.length:Nat)]) M'):phi tab k 24 [.ref bx,.int b,.int (L:Nat)] M Q:=Aj (s:=ai 29) (fta:=18) rfl ∅ (ck ∅) z B j q
theorem tG(h:Big A):Lim 41 A:=λx hx=>by have:=h x hx;have e:(2:Nat)^41=2199023255552:=rfl;lia
variable{ps:List Pr}{a1 a2:D}
theorem F4{k:Nat}(G:26<=k){sz:Nat}(J:2<=n/\n<=5)(h1:1<=sz)(h2:sz<=64)(j:LS n 29 ps){B:List Int}{pA pB pp:Xc}{z:D}(F:M 62=Z (.tab ⟨42,98,42,137⟩ (Mu "row_times.<locals>.<lambda>")))(ep:M pp=Z (.lst (ps.map prD)))(lA:A.length=sz)(lB:B.length=sz)(bA:Big A)(bB:Big B)(eA:M pA=Z (.lst (A.map .int)))(eB:M pB=Z (.lst (B.map .int)))(q:∀p M',Ge M M'->M p=Y->M' p=Z (.lst ((cv sz A B).map .int))->Q (.tup [.ref p,.int (tms ps.length n 6 sz:Nat)]) M'):
 phi tab k 8 [.tup [z,a1,a2,.ref pp],.int n,.ref pA,.ref pB] M Q:=
 y3 (f:=8) (fbl:=4) (fby:=6) (frb:=7) (fs:=5) (ff:=2) (sbl:=ai 7) (sby:=ai 9) (srb:=ai 10) (ss:=ai 8) (sf:=ai 4) (s:=ai 11) (P:=62) rfl rfl rfl rfl rfl rfl (by decide) (by decide) ∅ (by have:=j.len;lia) j.tn j.pr (d:=6) (m:=41) h1 h2 h2 ∅ (by decide) lA lB (tG bA) (tG bB) F ep eA eB q
theorem An{k:Nat}(fv:30<=k)(j:2<=n/\n<=5)(z:LS n 29 ps){b:Int}(B:1<=b/\b<=1000){F G:List Int}(J:Nm b F)(L:Nm b G)(lF:F.length<=60)(lG:G.length<=60){pp:Xc}{O:D}(U:M 62=Z (.tab ⟨42,98,42,137⟩ (Mu "row_times.<locals>.<lambda>")))(ep:M pp=Z (.lst (ps.map prD)))(q:∀M',Ge M M'->Q (.tup [.int (ev b F*ev b G),.int (tms ps.length n 6 (max F.length G.length):Nat)]) M'):phi tab k 10 [.tup [O,a1,a2,.ref pp],.int n,.int (ev b F),.int (ev b G),.int b] M Q:=CU (s:=ai 13) (sf:=ai 12) (ff:=9) (fr:=8) (tm:=λsz=>tms ps.length n 6 sz) rfl rfl ∅ B J L lF lG (λh1 h2 lA lB bA bB g eA eB Fn=>F4 ∅ j h1 ∅ z (g _ _ U) (g _ _ ep) lA lB bA bB eA eB Fn) q
theorem rf{b:Xc}(j:Box b M)(h:M p=Y):p≠b:=λz=>by obtain⟨_,_,_,e⟩:=j;rw[<-z,h]at e;cases e
theorem rh{a b:Nat}(e:M p=Z (.lst [.int a,.int b]))(q:Q (.int (max a b:Nat)) M):iH [.ref p] M Q:=by
 refine⟨p,[(a:Int),(b:Int)],rfl,e,by simp,λi hi j=>?_⟩
 have h1:=j a (by simp)
 have h2:=j b (by simp)
 have:i=((max a b:Nat):Int):=by
  simp only[LI,MM,or_false]at hi
  rcases hi with rfl|rfl<;>lia
 rw[this];exact q
theorem F5{k:Nat}(O:1<=k){E:bW}{o0 U Fn fv o7 o8 o9 z B F:Option D}{a0:D}{pp:Xc}(ep:M pp=Z (.lst (ps.map prD)))(G:ps.length<=1000)(hn:2<=n/\n<=1000)(q:∀p (l1 l2:Nat) M',Ge M M'->M' p=Z (.lst [.int l1,.int l2])->1<=l1/\l1<=60->1<=l2/\l2<=60->E.nx [o0,U,Fn,Z (.int n),Z (.tup [a0,a1,a2,.ref pp]),fv,Z (.ref p),o7,o8,o9,z,B,F] M'):∀(d l1 l2:Nat) (p:Xc) (M':Mem),Ge M M'->M' p=Z (.lst [.int l1,.int l2])->1<=l1/\l1<=60->1<=l2/\l2<=60->l1<=2^d->l2<=2^d->
 aD (ef (wOp wGt (wAr (phi tab k 22) (av (wAr fw (av (wOp wIx (cS 4) (wC (.int 3))) aX)) (av (cS 3) (av (wAr iH (av (cS 6) aX)) aX)))) (wC (.int 700)))) (wSs (phi tab k) (.cons (.asg (.name 6) (.comp [Y] ["_law_length"] (.last (.seq (.var 6)) (.name 0) .nil (.blt .max2 (.cons (.int 1) (.cons (.bin .fdiv (.var 0) (.int 2)) .nil)))))) .nil)) E (d+1) [o0,U,Fn,Z (.int n),Z (.tup [a0,a1,a2,.ref pp]),fv,Z (.ref p),o7,o8,o9,z,B,F] M':=by
 intro d
 induction d with
 |zero=>
  intro l1 l2 p M' g e h1 h2 j hd2;obtain rfl:l1=1:=by simp at j;lia
  obtain rfl:l2=1:=by simp at hd2;lia
  rw[aD];ac_nf;refine⟨_,rfl,aZ (g _ _ ep) ?_⟩;rw[tv];refine rh e ?_;refine ii O G hn (by decide) (by decide) ?_
  ac_nf;rw[if_neg (by rw[show tms ps.length n 6 (max 1 1)=1 from rfl];simp)]
  exact q p 1 1 M' g e h1 h2
 |succ d ih=>
  intro l1 l2 p M' g e h1 h2 j hd2;rw[aD];ac_nf;refine⟨_,rfl,aZ (g _ _ ep) ?_⟩;rw[tv];refine rh e ?_;refine ii O G hn ∅ ∅ ?_
  ac_nf
  by_cases h:(700:Int)<(tms ps.length n 6 (max l1 l2):Nat)
  ·rw[if_pos (by simpa using h)]
   nofun;refine⟨_,ak e,?_⟩;refine aE (f:=λi:Nat=>.int (i:Nat)) (ys:=[l1,l2]) (I:=λl ρ M2 acc=>(∃o0,ρ=[o0])/\M2=M'/\acc=(l.map λi:Nat=>max 1 (i / 2)).map λi:Nat=>.int (i:Nat)) rfl ⟨⟨_,rfl⟩,rfl,rfl⟩ (λ_ _ _ _ h=>by rw[h.2.1];exact ak e) ?_ ?_
   ·rintro l i r ρ M2 acc el ⟨⟨o0,rfl⟩,rfl,rfl⟩;refine⟨_,rfl,λN' J=>?_⟩;have L:=aJ el;ac_nf;refine⟨by decide,by decide,by rw[tv,tv,I7];simp at L;lia,J _ _ _ ⟨⟨_,rfl⟩,rfl,?_⟩⟩
    rw[Mo,Mo];congr 1;simp only[LX,Pp];congr 2
    split<;>lia
   ·rintro ρ M2 acc ⟨_,rfl,rfl⟩ p' hp';refine ih (max 1 (l1 / 2)) (max 1 (l2 / 2)) p' _ (g.trans (.new hp')) ab ∅ ∅ ?_ ?_
    ·rw[VB]at j;have:=Vc (n:=d);exact WI.mpr ⟨this,∅⟩
    ·rw[VB]at hd2;have:=Vc (n:=d);exact WI.mpr ⟨this,∅⟩
  ·rw[if_neg (by simpa using h)]
   exact q p l1 l2 M' g e h1 h2
theorem law_holds(ns:List Int)(hl:ns.length<=63):phi tab 40 25 [.con (ns.map D.int)] (eG lmM) λd _=>d=.bl F2:=by
 refine az ∅ rfl rfl (ρ:=[Z _,Y,Y,Y,Y,Y,Y,Y,Y,Y,Y,Y,Y]) rfl ?_
 unfold d25 L2.Mi.K50.b25;nofun;rw[tv];refine⟨by split<;>lia,by split<;>lia,?_⟩
 have JA:eG lmM 62=Z (.tab ⟨42,98,42,137⟩ (Mu "row_times.<locals>.<lambda>")):=rfl;refine bM (I:=λl ρ M'=>(∃o1 o2 o3 o4 o5 o6 o7 o8 o9 J L U,ρ=[Z (.con (ns.map D.int)),o1,o2,o3,o4,o5,o6,o7,o8,o9,J,L,U])/\M' 62=Z (.tab ⟨42,98,42,137⟩ (Mu "row_times.<locals>.<lambda>"))) aY ⟨⟨_,_,_,_,_,_,_,_,_,_,_,_,rfl⟩,JA⟩ (λ_ _ _ hI=>trivial) ?_ ?_
 ·rintro l k r ρ M0 e ⟨⟨o1,o2,o3,o4,o5,o6,o7,o8,o9,J,L,U,rfl⟩,j⟩;refine⟨_,rfl,λF hF=>?_⟩;nofun;refine EH (s:=ai 22) (fc:=15) (fm:=16) (sc:=ai 20) rfl rfl (tF ∅) ∅ ∅ λb x y Jn=>?_
  have Fn:(62:Xc)≠b:=λz=>by rw[z,Jn]at j;cases j
  have j:=(Ge.new (o:=.lst [.int x,.int y,.int 0]) Jn) _ _ j;have hb:Box b (ag M0 b (.lst [.int x,.int y,.int 0])):=⟨_,_,_,ab⟩;generalize ag M0 b (.lst [.int x,.int y,.int 0])=M1 at j hb⊢;nofun;refine ck ∅ hb (by decide) (by decide) λv M2 v0 v1 x2=>?_
  have j:=x2.keep _ _ Fn j;obtain⟨n,hn,en⟩:∃n:Nat,(2<=n/\n<=5)/\(2:Int)+v=n:=⟨(2+v).toNat,∅,∅⟩
  ac_nf;rw[en];nofun;refine Al ∅ hn x2.box λps pp M3 hS x3 n3 e3=>?_
  have j:=x3.keep _ _ Fn j;have Jm:=rf x2.box n3;have JG:=hS.len;have Jo:=x3.box;clear x2 x3 hb n3;have keep:∀{a:Xc} {o:O} {M':Mem},Bx b M3 M'->a≠b->M3 a=Z o->M' a=Z o:=λx h e=>x.keep _ _ h e;refine bT (λρ M'=>∃bs:Int,ρ=[Z (.con (ns.map D.int)),Z (.int (k:Nat)),Z (.ref b),Z (.int n),Z (.tup [.int n,.int n,.int (2*n-1:Nat),.ref pp]),Z (.int bs),o6,o7,o8,o9,J,L,U]/\2<=bs/\bs<=1000/\Bx b M3 M') (λR hR=>?_) ?_
  ·ac_nf;refine ck ∅ Jo (by decide) (by decide) λu Ma u0 u1 xa=>?_
   ac_nf;refine⟨by rw[I7];decide,λp hp=>?_⟩
   have fv:=rf xa.box hp;have xa':=xa.ge (.new (o:=.lst [.int 2,.int 10,.int 1000,.int (2+u)]) hp);have ea:=ab (M:=Ma) (a:=p) (o:=.lst [.int 2,.int 10,.int 1000,.int (2+u)]);generalize ag Ma p (.lst [.int 2,.int 10,.int 1000,.int (2+u)])=Mb at xa' ea⊢;refine ck ∅ xa'.box (by decide) (by decide) λw Mc w0 w1 xc=>?_
   have ec:=xc.keep _ _ fv ea;have xc:=xa'.trans xc;have hj:w=0∨w=1∨w=2∨w=3:=∅
   rcases hj with rfl|rfl|rfl|rfl
   ·exact aI ec (d:=.int 2) rfl (hR _ _ ⟨_,rfl,∅,∅,xc⟩)
   ·exact aI ec (d:=.int 10) rfl (hR _ _ ⟨_,rfl,∅,∅,xc⟩)
   ·exact aI ec (d:=.int 1000) rfl (hR _ _ ⟨_,rfl,∅,∅,xc⟩)
   ·exact aI ec (d:=.int (2+u)) rfl (hR _ _ ⟨_,rfl,∅,∅,xc⟩)
  rintro ρ M4 ⟨bs,rfl,Jp,Jq,x4⟩;refine bT (λρ M'=>∃(pl:Xc) (l1 l2:Nat),ρ=[Z (.con (ns.map D.int)),Z (.int (k:Nat)),Z (.ref b),Z (.int n),Z (.tup [.int n,.int n,.int (2*n-1:Nat),.ref pp]),Z (.int bs),Z (.ref pl),o7,o8,o9,J,L,U]/\M' pl=Z (.lst [.int l1,.int l2])/\(1<=l1/\l1<=60)/\(1<=l2/\l2<=60)/\Bx b M3 M') (λR hR=>?_) ?_
  ·ac_nf;refine⟨by decide,by decide,?_⟩
   refine aE (f:=λi:Nat=>.int (i:Nat)) (ys:=D0 (Int.toNat 2)) (I:=λl ρ M' acc=>(∃o0,ρ=[o0,Z (.ref b)])/\Bx b M3 M'/\∃ls:List Nat,acc=ls.map (λi:Nat=>.int (i:Nat))/\ls.length=l.length/\∀i∈ls,1<=i/\i<=60) aY ⟨⟨_,rfl⟩,x4,[],rfl,rfl,by simp⟩ (λ_ _ _ _ _=>trivial) ?_ ?_
   ·rintro lq i r' ρ M5 acc e ⟨⟨o0,rfl⟩,x5,ls,rfl,hl,G⟩;refine⟨_,rfl,fun N' JB=>?_⟩;have JC:=aJ e;simp only[Mx]at JC;have key:∀(z:Int) (M':Mem),1<=z->z<=60->Bx b M3 M'->(ls.map fun i:Nat=>D.int (i:Nat)).length<LK/\N' [Z (.int (i:Nat)),Z (.ref b)] M' ((ls.map fun i:Nat=>D.int (i:Nat))++[.int z]):=fun z M' z1 z2 x=>by
     obtain⟨m,rfl⟩:=N9 (show 0<=z by lia)
     refine⟨by rw[tv,I7];lia,JB _ _ _ ⟨⟨_,rfl⟩,x,ls++[m],by simp,by simp[hl],λy hy=>?_⟩⟩
     rcases LV.mp hy with h|h
     ·exact G y h
     ·rw[OD]at h;lia
    ac_nf;refine ck ∅ x5.box (by decide) (by decide) λu Ma u0 u1 xa=>?_
    have xa:=x5.trans xa;ac_nf;refine⟨by rw[I7];decide,λp hp=>?_⟩
    have fv:=rf xa.box hp;have xa':=xa.ge (.new (o:=.lst [.int 60,.int (1+u),.int 1,.int 8]) hp);have ea:=ab (M:=Ma) (a:=p) (o:=.lst [.int 60,.int (1+u),.int 1,.int 8]);generalize ag Ma p (.lst [.int 60,.int (1+u),.int 1,.int 8])=Mb at xa' ea⊢;refine ck ∅ xa'.box (by decide) (by decide) λw Mc w0 w1 xc=>?_
    have ec:=xc.keep _ _ fv ea;have xc:=xa'.trans xc;have hj:w=0∨w=1∨w=2∨w=3:=∅
    rcases hj with rfl|rfl|rfl|rfl
    ·exact aI ec (d:=.int 60) rfl (key _ _ ∅ ∅ xc)
    ·exact aI ec (d:=.int (1+u)) rfl (key _ _ ∅ ∅ xc)
    ·exact aI ec (d:=.int 1) rfl (key _ _ ∅ ∅ xc)
    ·exact aI ec (d:=.int 8) rfl (key _ _ ∅ ∅ xc)
   ·rintro ρ M5 acc ⟨_,x5,ls,rfl,hl,G⟩ p hp;obtain⟨l1,l2,rfl⟩:∃a b,ls=[a,b]:=by
     have h2:ls.length=2:=hl
     match ls,h2 with
     |[a,b],_=>exact⟨a,b,rfl⟩
    exact hR _ _ ⟨p,l1,l2,rfl,ab,G l1 (by simp),G l2 (by simp),x5.ge (.new hp)⟩
  clear x4;rintro ρ M4 ⟨Jr,a1,a2,rfl,Js,Jt,Ju,x4⟩;have e4:=keep x4 Jm e3;have j:=keep x4 Fn j;have Jv:=x4.box;clear x4 keep;refine bT (λρ M'=>∃(pl:Xc) (l1 l2:Nat),ρ=[Z (.con (ns.map D.int)),Z (.int (k:Nat)),Z (.ref b),Z (.int n),Z (.tup [.int n,.int n,.int (2*n-1:Nat),.ref pp]),Z (.int bs),Z (.ref pl),o7,o8,o9,J,L,U]/\M' pl=Z (.lst [.int l1,.int l2])/\(1<=l1/\l1<=60)/\(1<=l2/\l2<=60)/\Ge M4 M') (λR hR=>?_) ?_
  ·ac_nf;exact⟨_,F5 ∅ e4 ∅ ∅ (λp l1 l2 M' g e h1 h2=>hR _ _ ⟨p,l1,l2,rfl,e,h1,h2,g⟩) 6 a1 a2 Jr M4 .refl Js Jt Ju ∅ ∅⟩
  clear Js Jt Ju a1 a2 Jr;rintro ρ M5 ⟨pl,l1,l2,rfl,el,h1,h2,g5⟩;have G:=(Bx.of Jv g5).box;have e5:=g5 _ _ e4;have j:=g5 _ _ j;have Jw:pl≠b:=λz=>by obtain⟨_,_,_,e⟩:=G;rw[<-z,el]at e;cases e
  clear g5 Jv e4 Jo e3;nofun;refine aI el (d:=.int l1) rfl ?_;refine nP ∅ ⟨Jp,Jq⟩ h1 G λA M6 nA lA x6=>?_
  refine⟨_,rfl,?_⟩;have Jx:=x6.keep _ _ Jw el;have e6:=x6.keep _ _ Jm e5;have j:=x6.keep _ _ Fn j;have Jy:=x6.box;clear x6 e5 el G;nofun;refine aI Jx (d:=.int l2) rfl ?_;refine nP ∅ ⟨Jp,Jq⟩ h2 Jy λB M7 nB lB x7=>?_
  refine⟨_,rfl,?_⟩;have e7:=x7.keep _ _ Jm e6;have j:=x7.keep _ _ Fn j;clear x7 e6 Jx Jy;have pA:1<=A.length:=by obtain⟨x,R,e,_⟩:=nA.ex;rw[e];simp
  have JD:(if(A.length:Int)<B.length then(B.length:Int)else A.length)=((max A.length B.length:Nat):Int):=by split<;>lia
  have Jz:1<=max A.length B.length/\max A.length B.length<=64:=⟨∅,∅⟩
  nofun;refine⟨_,rfl,aZ e7 ?_⟩;rw[tv];ac_nf;rw[JD];refine ii ∅ ∅ ∅ Jz.1 Jz.2 ?_
  nofun;refine An ∅ hn hS ∅ nA nB lA lB j e7 λM8 g8=>?_
  nofun;refine⟨"tuple",rfl,F2,rfl,?_⟩;rw[if_neg (by decide)]
  refine⟨_,_,rfl,rfl,λq1 JE=>?_⟩;have g1:=Ge.new (o:=.lst ([ev bs A*ev bs B,((tms ps.length n 6 (max A.length B.length):Nat):Int)].map .int)) JE;refine⟨.inr (.inr ⟨tz ∅ nA.dg ∅,tz ∅ nB.dg ∅⟩),by rw[I7];decide,λq2 JF=>?_⟩
  have g2:=Ge.new (o:=.lst ([ev bs A*ev bs B,((tms ps.length n 6 (max A.length B.length):Nat):Int)].map .int)) JF;refine Am ∅ (A:=[ev bs A*ev bs B,((tms ps.length n 6 (max A.length B.length):Nat):Int)]) (g2 _ _ ab) ab (by simp) λM9 g9=>?_
  refine⟨F2,rfl,?_⟩;rw[if_neg (by decide)]
  exact hF _ _ ⟨⟨_,_,_,_,_,_,_,_,_,_,_,_,rfl⟩,g9 _ _ (g2 _ _ (g1 _ _ (g8 _ _ j)))⟩
 ·rintro ρ M8 ⟨⟨o1,o2,o3,o4,o5,o6,o7,o8,o9,J,L,U,rfl⟩,j⟩;dsimp only;nofun
end K50
end
end
end Mi
end L2
end
namespace PySem.W.Fast
theorem tw3720455132846037137:True:=trivial
theorem tw4650045537156482606:True:=trivial
theorem tw6972631739466458514:True:=trivial
theorem tw11604740764728539089:True:=trivial
theorem tw399477917498685054:True:=trivial
theorem tw5163944114161985740:True:=trivial
theorem tw14660612409851422005:True:=trivial
theorem tw3670315837073221057:True:=trivial
theorem tw12928505104837164740:True:=trivial
theorem tw3804115065510947675:True:=trivial
theorem tw6122186093879521183:True:=trivial
theorem tw10643338819891064009:True:=trivial
theorem tw9257039107454347039:True:=trivial
theorem tw8449846585256570129:True:=trivial
theorem tw16027458886120367380:True:=trivial
theorem tw9115912502530330854:True:=trivial
theorem tw9594593682798162908:True:=trivial
theorem tw1378345234980725892:True:=trivial
theorem tw12904694103451222336:True:=trivial
theorem tw5176127307817701273:True:=trivial
theorem tw12703203153731403602:True:=trivial
theorem tw14721329544042077564:True:=trivial
theorem tw4399944762099729195:True:=trivial
theorem tw618546818272573463:True:=trivial
theorem tw1848247769183228096:True:=trivial
theorem tw8369786429737049116:True:=trivial
theorem tw15786272934734020277:True:=trivial
theorem tw6794573832321094214:True:=trivial
theorem tw7839054176678140328:True:=trivial
theorem tw7177960711930413236:True:=trivial
theorem tw3474733660504616335:True:=trivial
theorem tw1544597756517251626:True:=trivial
theorem tw14134622906297396121:True:=trivial
theorem tw5769449015331480530:True:=trivial
theorem tw4390240921982563580:True:=trivial
theorem tw16950999385287746535:True:=trivial
theorem tw14265455231050533845:True:=trivial
theorem tw7103717319276663524:True:=trivial
theorem tw9723997073724145756:True:=trivial
theorem tw3325822312940732284:True:=trivial
theorem tw460107892942725562:True:=trivial
theorem tw16617495722806005672:True:=trivial
theorem tw3264285075493768676:True:=trivial
theorem tw2267384708339906730:True:=trivial
theorem tw17029150974242818784:True:=trivial
theorem tw10963012131995716237:True:=trivial
theorem tw16850650482072698000:True:=trivial
theorem tw4494421423214088021:True:=trivial
theorem tw8204459890072865799:True:=trivial
theorem tw9059617522768323896:True:=trivial
theorem tw2177201708199072245:True:=trivial
theorem tw13588276297765611924:True:=trivial
theorem tw17013925916738052257:True:=trivial
theorem tw5127771632766570063:True:=trivial
theorem tw5519535583384611647:True:=trivial
theorem tw6489857288739171281:True:=trivial
theorem tw3286147190679607140:True:=trivial
theorem tw4792380585786312317:True:=trivial
theorem tw17877003681953856462:True:=trivial
theorem tw8976836356060452681:True:=trivial
theorem tw6648975949020565535:True:=trivial
theorem tw6122325721173280778:True:=trivial
theorem tw5503578943686482564:True:=trivial
theorem tw5885387546131034723:True:=trivial
theorem tw5006017555487859626:True:=trivial
theorem tw10962230536002544374:True:=trivial
end PySem.W.Fast
open PySem.W in
set_option maxRecDepth 100000 in
set_option maxHeartbeats 0 in
theorem PySem.Challenge.cw_fewtimes_k50_long_numbers_holds : PySem.Challenge.rw_fewtimes_k50_long_numbers.Holds := by
 w_on;o_law;k_head;(case hw=>w_witness2)
 k_fill
 refine L2.Mi.K50.walk (l:=PySem.Challenge.rw_fewtimes_k50_long_numbers) rfl rfl L2.Mi.K50.law_holds (fun w h Y=>⟨PySem.W.km_in_of Y,PySem.W.km_tabs_of Y⟩) ?T ?F
 case T =>
  intro w q hq;simp only [L2.Mi.K50.lmT,List.mem_cons,List.not_mem_nil,or_false] at hq
  rcases hq with rfl <;> (refine ⟨L2.Mi.hd_in (by (show _=_;k_is)) rfl,?_⟩;rfl)
 case F =>
  intro w mg fa h KX G hmg;refine' L2.Mi.K50.all_mk KX G hmg ?z ?_ ?_ ?_ ?_ ?_ ?_ ?_ ?_ ?_ ?_ ?_ ?_ ?_ ?_ ?_ ?_ ?_ ?_ ?_ ?_ ?_ ?_ ?_ ?_ ?_ ?_ ?_ ?_ ?_ ?_ ?_ ?_ ?_ ?_ ?_ ?_ ?_ ?_ ?_ ?_ ?_ ?_ ?_ ?_ ?_ ?_ ?_ ?_ ?_ ?_ ?_ ?_ ?_ ?_ ?_ ?_ ?_ ?_ ?_ ?_ ?_ ?_ ?_ ?_ ?_ ?_ ?_ ?_ ?_ ?_ ?_ ?_ ?_ ?_ ?_ ?_ ?_ ?_ ?_ ?_ ?_ ?_ ?_ ?_ ?_ ?_ ?_ ?_ ?_ ?_ ?_ ?_ ?_ ?_ ?_ ?_ ?_ ?_ ?_ ?_ ?_ ?_ ?_ ?_ ?_
  case z =>
   intro x hx;simp only [L2.Mi.bltNames,List.mem_cons,List.not_mem_nil,or_false] at hx
   rcases hx with rfl | rfl | rfl | rfl | rfl | rfl | rfl | rfl | rfl | rfl | rfl | rfl | rfl | rfl | rfl | rfl | rfl | rfl | rfl | rfl <;> k_is
  all_goals try (show _=_;first | k_is | exact L2.Mi.hd_in (by (show _=_;k_is)) rfl)
