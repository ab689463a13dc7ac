import PyProof.Rows.All
import Wide.All
import OpenK.AllK
import Wide.FinOn
import Lean
import PyProof.EqAt
import PyProof.EqKinds
import PyProof.TupleCall
import PyProof.ZipIter
import PyProof.EnumMake
import PyProof.EnumFor
import PyProof.CollectIter
import PyProof.TupleKey
import PyProof.DictRoadsH
import PyProof.P3Eq
import PyProof.Rows.SeqMore
import PyProof.ConsumeWalk
import PyProof.Rows.SortShellK
import PyProof.DictItems
import PyProof.DictWalks
import PyProof.AttrMissHeap
import PyProof.DictIter
import PyProof.MaxThree
import PyProof.SeqI3
import PyProof.DictTruth
import PyProof.Rows.TupDisplay
import PyProof.ListCopy
import PyProof.NeKinds
import PyProof.RaisesDict
import KE.KDictOf
import PyProof.Rows.CallKwBuiltin
import PyProof.DelItemList
import PySem.Challenge.RW_fewtimes_k66_whole_long_numbers_by_any_s
set_option Elab.async false
set_option linter.all false
set_option compiler.extract_closed false
set_option genSizeOf false
set_option bootstrap.genMatcherCode false
set_option maxRecDepth 100000
set_option maxHeartbeats 4000000
open PySem.W (Frag)
open PySem renaming wpAny_bind->gV,Value->h8,Shared->r0,wpAny_pure->tv,sizeLine_eq->A0,sizeLine->KG,wpAny->KN,wpAny_setField_rec->KS,starEach->KU,Program->L4,wpAny_callSpecial?_slot->L6,wpAny_field->Lc,wpAny_call_entry->Le,model->Lk,World->Lq,Around->Lv,mem_of_lookup->LB,wpAny_holding->LH,wpAny_seqItems->LJ,wpAny_newObj_type->LN,wpAny_Call_Name_kw->LO,Comprehension->LV,DictEntry->LW,wpAny_mono->Md,Paired->Me,mainGlobals->Mf,Builtin->Mh,assignEach->Mj,PyData->Mq,wpAny_rule->Mw,wpAny_pyIter_tuple->My,wpAny_attempt->MB,sysModules->MK,rawInt->MQ,binaryOp->MR,pyNext->MZ,FuncData->N5,compareOp->Na,cellsFrom->Nf,wpAny_isInstance->Ng,codeAny_mono->Nh,wpAny_onRaise->Np,wpAny_of_eq->Nq,isSubtype_type->Nt,foldedSetIterable->Nx,wpAny_pyIter_list->NA,inplaceOp->NW,NameKind->O0,firstArgMember->O8,codeAny->Ob,builtinLookup_eq_fast->Oc,wpAny_passesOwn->Og,codeAny_builtin->Oi,cLine->Ol,wpAny_letGo->Oo,wpAny_standAt->Ot,swappedStores->Ou,IsPair->Oy,wpAny_typeOf->OH,wpAny_loadPart'->OS,wpAny_ite_false->OT,Arguments->OW,backTo->OX,wpAny_truthy_bool->P4,Operator->Pa,IsZip->Pf,wpAny_newTuple->Pg,isSubtype_stop->Ph,swapsWith->Pk,swapsWithSole->PF,behindInMarks->PH,Reads->PM,typeLookup_type->PQ,tupleKind_room_in1->PU,sliceBounds->PY,wpAny_ite_true->Qb,call_meets->Qn,wpAny_pyIter_zip->Qs,entryFor_of_tree->Qt,wpAny_newList->QA,wpAny_updateSeq_pair->QF,codeAny_call_builtin->QH,letOwnedTupleGo->QM,Model->QU,bootBuiltins->QY,Keyword->QZ,tupleKind->R6,wpAny_newFunctionEnv_cells->R9,wpAny_binaryOp_repeat_ref->Rk,wpAny_letOwnedTupleGo_zip->Rl,standAt->Rt,getItem->Ru,wpAny_pyIter_slot->Ry,assignInOrder->RB,wpAny_getItem_list_slice->RC,attributeBase->RE,wpAny_comprehension_free->RF,wpAny_handled->RG,noFill_tuple_add->RW,checkBuiltinCall->S2,builtinsNs->Si,wpAny_pyNext_list_item->Sk,wpAny_call->Sl,IsPart->Sm,seqIndex_neg->Sn,wpAny_getItem_list_neg->Sr,typeIs_int->Su,argsOk->Sx,IsEnum->Sy,wpAny_execs_nil->SG,pushCells_keeps->SI,wpAny_specialOf->SM,wpAny_pyNext_list_end->SO,codeAny_call_function->SQ,wpAny_loadName_local->SW,pyIter->SX,bindArgs->SY,seqIndex_of->T3,keywordEach->T5,newFunctionEnv->T6,wpAny_throw->T8,ZipApart->T9,ReadsAll->Ta,setItem->Tp,BindsTo->Tq,callerA->Tr,valueAt->Ts,wpAny_loadName_cell->Tu,seq_tuple_add->TH,evalPart_none->TJ,plainId_quiet->TL,mroOf_keyiter->TM,foldedForSure->TU,Result->U3,typeLookup->U7,newExc->Ud,concat_meets->Uo,wpAny_sequenceKey->Uq,newTuple->Uw,callType_new->Ux,wpAny_pyIter_enum->Uy,entryFor->Uz,wpAny_Dict_empty->UP,pushCells->UR,seqItems?->US,IsEnumOut->UT,notIterableAtAll->V2,fillsInplaceSlot->V4,unpackItems->Vc,atKey->Ve,richCompare->Vg,wpAny_Name->Vx,bindName->Vy,wpAny_load->Vz,bindL->VA,bindC->VB,backToKw->VD,call->VE,raiseNew->VG
open PySem.Heap renaming get?_push_of_some->hQ,get?_push_size->A2,lt_size->B1,size_push->LI,get?_update_ne->LK,SameBut->Mg,IsTuple->Pm,get?_update_self->Qh,get?_push_cases->QG,IsList->Rx,get?_update_other->Ss,ExtBut->Vf
open List renaming length_map->m1,range->q7,getElem?_eq_getElem->z0,replicate->z4,length_append->B0,getElem?_append_right->D0,mem_cons->D1,mem_map->D2,getD_eq_getElem?_getD->KH,map_cons->KI,size_toArray->KJ,getElem?_map->KL,mem_cons_of_mem->KP,getElem?_eq_some_iff->KQ,getElem?_append_left->KR,mem_cons_self->KW,mem_of_getElem?->KZ,map_append->L3,mem_map_of_mem->L5,map_congr_left->L8,mem_range->L9,length_cons->La,not_mem_nil->Lb,length_range->Ld,getElem?_range->Lh,mem_append_right->Lj,length_take->Ll,mem_append->Lo,append_assoc->Lx,length_replicate->Ly,getElem?_eq_none->LA,map_map->LC,mem_append_left->LD,nodup_iff_pairwise_ne->LQ,pairwise_append->LX,pairwise_map->LY,any_eq_true->Mk,nodup_cons->Mo,replicate_succ->Ms,length_singleton->Mt,append_nil->Mz,find?_cons->MA,mem_flatMap->MJ,ext_getElem?->MM,flatMap_cons->MN,take_append_drop->MP,length_nil->MV,length_drop->N6,any_cons->N8,length->Nb,getElem?_take_of_lt->Ni,all_cons->Nk,flatten_cons->Nz,length_eq_zero_iff->NB,filter_cons_of_neg->ND,filter_cons_of_pos->NF,mem_filter->NG,of_mem_zip->NH,forIn_cons->NI,range_succ->NP,flatMap_append->NQ,getElem?_set_self->NR,lookup_cons->NX,mem_singleton->Oa,drop_eq_getElem_cons->Of,sum_append->Oj,map_nil->Om,mem_iff_getElem->Oq,sum_cons->OA,getElem?_cons_succ->OC,all_eq_true->OD,eq_nil_of_length_eq_zero->OE,take_of_length_le->OK,find?_cons_of_neg->ON,getElem?_drop->OO,filter_append->OQ,length_filter_le->OZ,reverse_cons->P5,nodup_append->P6,getElem?_set_ne->P7,lookup->Pc,forIn_nil->Pe,zipWith->Pn,mem_reverse->Pp,cons_append->Pt,getLast?_eq_getElem?->Px,length_reverse->Pz,zip_cons_cons->PV,getLast?_cons_cons->Q0,reverse_perm->Q8,length_eq_one_iff->Qc,find?_cons_of_pos->Qe,foldl_append->Qf,getElem?_zipWith->Qj,zipIdx_cons->Qq,getElem_mem->Qx,reverse_reverse->QK,nil_append->QN,zipIdx_nil->QQ,dropLast_concat_getLast->QS,filterMap_cons->QT,length_pos_iff->QW,map_set->R5,mapM_cons->Rh,find?_eq_none->Rj,mem_of_find?_eq_some->Ro,getLast?_map->RA,eq_of_mem_replicate->RT,getElem?_replicate->RV,filter_cons->RY,getElem?_cons_zero->Sb,zipWith_cons_cons->SE,length_set->SH,length_zip->SK,getElem?_reverse->SR,pairwise_reverse->SS,pairwise_flatMap->SV,getElem?_mapIdx->Tb,drop_zero->Tc,mem_of_mem_take->Ti,mem_of_mem_drop->Tj,length_zipWith->Tx,map_eq_nil_iff->TB,reverse_append->TF,map_take->TX,mem_filterMap->U2,foldl->U9,pairwise_cons->Ug,set_cons_zero->Uj,set_cons_succ->Uk,take_add_one->UC,getElem?_set->UM,drop_length->UW,perm_middle->UY,map_snd_zip->V0,map_flatMap->V7,nodup_range->V8,map_reverse->Va,flatMap_def->Vb,map_id->Vh,foldl_cons->Vn,find?_some->Vs
open Bool renaming and_eq_true->p0,false_ne_true->B2,not_eq_true'->LG,false_eq_true->Mx,not_eq_true->Qp,false_or->Qz,and_eq_true_iff->QI,or_eq_true->QR
open Int renaming toNat_natCast->J4,eq_ofNat_of_zero_le->Lp,natCast_mul->Mp,mul_nonneg->Nv,natCast_add->NO,toNat_of_nonneg->OB,emod_lt_of_pos->OP,mul_comm->Pu,emod_nonneg->PR,mul_add->PZ,natCast_ediv->Qy,mul_le_mul_of_nonneg_left->QL,add_mul->Rz,natCast_emod->Se,ediv_eq_zero_of_lt->SD,pow_succ->SF,neg_mul->To,emod_eq_of_lt->UL,ofNat_lt->UN
open Nat renaming le_refl->KO,ne_of_lt->Lg,lt_of_lt_of_le->Li,mul_le_mul->LF,ne_of_gt->LL,le_trans->LR,lt_irrefl->LZ,mul_le_mul_right->Mm,succ_mul->MU,min_eq_left->MW,zero_le->N7,add_mul->NV,le_of_lt->OF,mul_comm->OI,div_lt_of_lt_mul->Pj,mul_assoc->RU,succ_le_succ->S9,div_add_mod->SN,mul_add->Tg,mul_one->Th,add_assoc->TV,lt_of_le_of_lt->Ul,add_comm->Ur,sub_self->UD,lt_succ_self->UX,le_max_right->V9,two_pow_pos->Vt,le_max_left->Vu,not_lt->VF,succ->VP,mod_lt->VQ
open PySem.W renaming mg_of->KY,codeHdIn->MD,fnOf->Nj,keepIn->NZ,cellsFrom_some->OG,codeIn->Pb,nsIn->R1,methodObj->Rq,OpenLaw->SJ,codeHd_of_K->Tw,callWith_K->U4,codeRec_of->U5,FnAt->Uv
open PySem.Str renaming ofString->Lf
open PyProof.Rows renaming Keyed->Lm,callWith_type1->Ln,wpS_bind->LM,arrOf->LP,slot_tuple_getitem->Nc,SortSt->Nu,get?_update_seq->NN,kindOf->NS,pendingOf->NY,listUpdate_at->Oz,wpS_forRange->Pq,failedOf->PN,envOfC->Ql,callWith_builtin1->Qm,SortKind->QJ,mem_zip_self->R4,assignInOrder_cons->R8,AllBare->Rr,seqSlot_of->S8,subscriptTail_builtinR->So,entry_tuple_getitem->Tv,subscriptTail->TK,boot_range->U1,args_tuple_getitem->U6,seqObj->Uh,assignInOrder_nil->Um,wpS_get->UB,listItems_at->UE,rangeInts->UU,entry_list_iadd'->V1,keyKind'_eq->Vi,seqEpoch_at->Vj,IntsAre->Vv,Subscript_->VC,wpS_modify->VH
open PySem.NameKind renaming free->Lr,cell->Nl
open PySem.Value renaming ref->Lu,type->Lw,none->MY,bool->Vw,int->VR,str->VS
open Array renaming getElem?_toList->LU,getElem?_eq_getElem->Mn,length_toList->Mr,getElem?_eq_none->OM,toList_inj->Qv,map->Qw,toList->Sj,append_assoc->U0,all_eq_true->UG,filterMap->Vr
open Option renaming some->Ml,map_some->Oh,isSome_iff_exists->Ov,bind_some->Po,getD_none->RX,join_some->Sd,map_eq_some_iff->Sv,isSome_some->Ua,isSome_map->Uu,bind_none->V5,join_none->V6
open PySem.PyData renaming eqv->Mu,canLayAll0->Mv,depthAll->NL,depth->OL,canLay0->Q9,eqvAll->QB
open PySem.SeqAt renaming readOf->MX,readOf_eq->NM,eqAt_reads->UZ
open PySem.Calls renaming spliced_cons->N3,spliced_nil->Ny,callWith_builtin->Q4,evalArgs_plain->QE,Name_function_global->R7
open PySem.Obj renaming mapSeq->N4,data_mapFields->Uc
open PySem.Builtin.Dict_items renaming pairFromOwner->N9,ownedTupleIsFree->NU,isOneOf->O9
open PySem.Shared renaming heap->Nr,TypeIs->RH
open PySem.Builtin.Range renaming rangeSize->Nw,rangeFitsLong->R3
open PySem.F renaming slot_zip_next->NJ,slot_tuple_iterator_next->O1,slot_enumerate_next->OY,args_tuple_add_2->PJ,entry_tuple_add->PX,slot_tuple_add->Q3,args_zip_next_1->Q5,slot_dict_get->Qi,entry_zip_next->Qr,slot_int_rmul->QO,args_tuple_iterator_next_1->QP,plain_extend_loop->QX,entry_tuple_iterator_next->R0,slot_list_insert->RJ,args_dict_get_3->RZ,args_enumerate_next_1->S4,plainAttrs_list->Sa,entry_dict_get->Sw,entry_enumerate_next->Sz,slot_dict_items_iter->SA,entry_proto_collect->SU,entry_extend_loop->Tz,args_int_rmul_2->Us,slot_dict_items->UI,entry_int_rmul->UO,slot_dict_iter->V3,fills_int_mul->Vo,entry_zip_new->Vp,slot_tuple_lt->Vq
open PySem.Builtin.List renaming listLengthHint->NT,listTooLong->Ox,listFitsIndex->Ri
open List.Perm renaming append_left->Od,append_right->OJ
open PySem.Builtin.Slice renaming slicePlaces->Oe,sliceAdjust->Pw,sliceApplied->Ra
open PySem.Builtin.Tuple renaming tupleExact->Ow,tupleCompareSizes->Qg,tupleItemsOf->Rb,tupleIsExact->Rc,tupleTooMany->Rg,tupleHashOf->Rm
open ForInStep renaming yield->OR
open List.cons renaming injEq->OU
open PySem.Data renaming seq->OV,fields->Vd
open PySem.Builtin.Int renaming intBits->Py
open PySem.Paired renaming length->PD
open PySem.Heap.IsTuple renaming push->Q7
open PyProof.Rows.IsTup renaming new->Qk
open And renaming intro->Qo
open PyProof.Rows.SortSt renaming mk'->Qu
open Prod.mk renaming injEq->QC
open PySem.Heap.SameBut renaming update->QV
open PySem.Code renaming quiet_builtin->Rf,builtin->UH
open Classical renaming byContradiction->Rp
open PySem.Env renaming blockKind->RN,kindOf->Ui
open Function renaming comp->RQ
open PySem.Heap.IsList renaming push->S0
open Sum renaming inl->Sf,inr->Sg
open PySem.Around renaming frames_deeper->T2,under_plain->Ue
open PySem.Expr renaming Subscript->Td,Attribute->Te,Constant->TN,ListComp->TQ,UnaryOp->UJ,Compare->UK,BoolOp->Vk,BinOp->VI,IfExp->VJ,Tuple->VL,Slice->VM,Name->VT,List->VU,Call->VV,Dict->VW
open PySem.Stmt renaming AugAssign->Tf,Continue->TR,Assign->Vl,Return->Vm,While->VN,Break->VO,Expr->VX,Pass->VY
open Iff renaming rfl->Tt
open PySem.SeqAt.EqAt renaming int_str->TY,str_int->TZ
open PySem.Heap.IsSliceOf renaming new->U8
open True renaming intro->Ub
open Prod renaming ext->Up
open List.Pairwise renaming nil->Ut
open Option.some renaming injEq->UA
open LawfulMonad renaming pure_bind->UQ
open Option renaming some->Z,none->Y
open Bool renaming true->F2,false->Wj
open PySem renaming Addr->Wk
section
theorem Wl{a b c:Nat}(h:b<=c)(k:a<=b):a<=c:=Nat.le_trans k h
theorem Wm{a b c:Nat}(h:b<=c)(k:a+1<=b):a<=c-1:=Nat.le_sub_of_add_le (Nat.le_trans k h)
theorem Wn{a b:Nat}(h:Nat.ble (a+1) b=true):a<b:=Nat.le_of_ble_eq_true h
local macro_rules|`(∅)=>`(by first|with_reducible assumption|with_reducible exact Nat.le_of_ble_eq_true rfl|with_reducible exact Wn rfl|exact Wl (by with_reducible assumption) (by with_reducible exact Nat.le_of_ble_eq_true rfl)|exact Wm (by with_reducible assumption) (by with_reducible exact Nat.le_of_ble_eq_true rfl)|lia)
namespace L2
open PySem PySem.Spec PyProof.Rows
section
noncomputable abbrev Key:=Sum Int Str
noncomputable def io:Key->h8->Bool
 |.inl k,v=>Value.isInt k v
 |.inr x,v=>Value.isStrOf x v
noncomputable def GW(w:Lq):Key->Int
 |.inl k=>hashInt k
 |.inr x=>hashStr w x
theorem aV:∀{k:Key} {v:h8},io k v=F2->(∃i t,k=Sf i/\v=VR i t)∨(∃x t,k=Sg x/\v=VS x t)
 |.inl i,v,h=>by obtain⟨t,e⟩:=Value.isInt_shape (k:=i) (v:=v) h;exact .inl ⟨i,t,rfl,e⟩
 |.inr x,v,h=>by obtain⟨t,e⟩:=Value.isStrOf_shape (x:=x) (v:=v) h;exact .inr ⟨x,t,rfl,e⟩
theorem vx(i:Int)(t:Tok):io (.inl i) (.int i t)=F2:=by simp[io,Value.isInt]
theorem vy(x:Str)(t:Tok):io (.inr x) (.str x t)=F2:=by simp[io,Value.isStrOf]
theorem Dm(a b:Int):decide ((Sf a:Key)=Sf b)=(a==b):=by
 by_cases e:a=b
 ·subst e;simp
 ·have h:¬(Sf a:Key)=Sf b:=λq=>e (Sf.inj q);rw[decide_eq_false h];exact(beq_eq_false_iff_ne.mpr e).symm
theorem Dn(a b:Str):decide ((Sg a:Key)=Sg b)=decide (a=b):=by
 by_cases e:a=b
 ·subst e;simp
 ·have h:¬(Sg a:Key)=Sg b:=λq=>e (Sg.inj q);rw[decide_eq_false h,decide_eq_false e]
theorem Do(a:Int)(b:Str):decide ((Sf a:Key)=Sg b)=Wj:=decide_eq_false (λq=>nomatch q)
theorem Dp(a:Str)(b:Int):decide ((Sg a:Key)=Sf b)=Wj:=decide_eq_false (λq=>nomatch q)
noncomputable def aQ(prog:L4)(w:Lq):PySem.KeyKind prog w Key where
 is:=io
 hash:=GW w
 inj:=λv a b ha hb=>by
  rcases aV ha with⟨i,t,rfl,rfl⟩|⟨x,t,rfl,rfl⟩
  ·rcases aV hb with⟨j,u,rfl,e⟩|⟨y,u,rfl,e⟩
   ·injection e with e1 _;rw[e1]
   ·exact nomatch e
  ·rcases aV hb with⟨j,u,rfl,e⟩|⟨y,u,rfl,e⟩
   ·exact nomatch e
   ·injection e with e1 _;rw[e1]
 byValue:=λk v h=>by rcases aV h with⟨i,t,rfl,rfl⟩|⟨x,t,rfl,rfl⟩<;>rfl
 pyHash:=λhv h=>by
  rcases aV hv with⟨i,t,rfl,rfl⟩|⟨x,t,rfl,rfl⟩
  ·exact wpAny_pyHash_int h
  ·exact wpAny_pyHash_str h
 eqBool:=λhu hv h=>by
  rcases aV hu with⟨i,t,rfl,rfl⟩|⟨x,t,rfl,rfl⟩
  ·rcases aV hv with⟨j,u,rfl,rfl⟩|⟨y,u,rfl,rfl⟩
   ·rw[Dm]at h;exact wpAny_eqBool_int h
   ·rw[Do]at h;exact TY i t y u _ _ _ _ h
  ·rcases aV hv with⟨j,u,rfl,rfl⟩|⟨y,u,rfl,rfl⟩
   ·rw[Dp]at h;exact TZ x t j u _ _ _ _ h
   ·rw[Dn]at h;exact wpAny_eqBool_str h
 «strs»:=λk x t v h=>by
  rcases aV h with⟨i,u,rfl,e⟩|⟨y,u,rfl,e⟩
  ·exact nomatch e
  ·injection e with e1 _
   subst e1
   cases v<;>rfl
theorem rC(prog:L4)(w:Lq)(i:Int)(t:Tok):(aQ prog w).is (.inl i) (.int i t)=F2:=vx i t
theorem rD(prog:L4)(w:Lq)(x:Str)(t:Tok):(aQ prog w).is (.inr x) (.str x t)=F2:=vy x t
end
variable{us:List h8}{a b:Wk}{P:L4}{w:Lq}{h:Heap}
section
inductive V where
 |non|bl (b:Bool)|int (i:Int)|str (x:Str)|byt (b:Array UInt8)|flt (b:UInt64)|ref (a:Wk)|ty (n:String)
 deriving DecidableEq
noncomputable def RelV:V->h8->Prop
 |.non,u=>u=MY
 |.bl b,u=>u=Vw b
 |.int i,u=>∃t,u=VR i t
 |.str x,u=>∃t,u=VS x t
 |.byt b,u=>∃t,u=Value.bytes b t
 |.flt b,u=>∃t,u=Value.float b t
 |.ref a,u=>u=Lu a
 |.ty n,u=>u=Lw n
noncomputable abbrev Vals:List V->List h8->Prop:=Me RelV
theorem Vals.length{xs:List V}(r:Vals xs us):xs.length=us.length:=PD r
theorem Vals.get:∀{xs:List V} {us:List h8} {i:Nat} {x:V},Vals xs us->xs[i]?=Z x->∃u,us[i]?=Z u/\RelV x u
 |_,_,_,_,.nil,e=>by simp at e
 |_,_,0,_,.cons r _,e=>by simp at e;subst e;exact⟨_,rfl,r⟩
 |_,_,i+1,x,.cons _ t,e=>by
  obtain⟨u,h1,h2⟩:=Vals.get (i:=i) (x:=x) t (by simpa using e)
  exact⟨u,by simpa using h1,h2⟩
theorem Vals.set{x:V}{u:h8}(r:RelV x u):∀{xs:List V} {us:List h8} (i:Nat),Vals xs us->Vals (xs.set i x) (us.set i u)
 |_,_,_,.nil=>.nil
 |_,_,0,.cons _ t=>.cons r t
 |_,_,i+1,.cons q t=>.cons q (Vals.set r i t)
theorem Vals.append:∀{xs ys:List V} {us ws:List h8},Vals xs us->Vals ys ws->Vals (xs++ys) (us++ws)
 |_,_,_,_,.nil,s=>s
 |_,_,_,_,.cons r t,s=>.cons r (Vals.append t s)
theorem Vals.take:∀{xs:List V} {us:List h8} (n:Nat),Vals xs us->Vals (xs.take n) (us.take n)
 |_,_,0,_=>.nil
 |_,_,_+1,.nil=>.nil
 |_,_,n+1,.cons r t=>.cons r (Vals.take n t)
theorem Vals.drop:∀{xs:List V} {us:List h8} (n:Nat),Vals xs us->Vals (xs.drop n) (us.drop n)
 |_,_,0,r=>r
 |_,_,_+1,.nil=>.nil
 |_,_,n+1,.cons _ t=>Vals.drop n t
noncomputable def RelO:Option V->Option h8->Prop
 |some v,Z u=>RelV v u
 |none,Y=>True
 |_,_=>False
noncomputable def KV{κ:Type}:List (κ×V)->List (κ×h8)->Prop:=Me λ(p:κ×V) (q:κ×h8)=>p.1=q.1/\RelV p.2 q.2
noncomputable def kV:Key->V
 |.inl i=>.int i
 |.inr x=>.str x
inductive HO where
 |lst (xs:List V)
 |tup (xs:List V)
 |dK (kvs:List (Key×V))|dT (kvs:List (List Key×V))
 |set (S:Int->Bool) (n:Nat)
 |ins (C dx:Wk) (fs:List (Str×V))
 |own (x:Wk)
 |xd (fs:List (Str×V))
 |met (f x:Wk)
 |rng (lo hi:Int)
 |frz (o:Obj) (u:HO)
 |tbl (ps:Array h8)
 |ext (φ:Heap->Prop)
noncomputable abbrev Hp:=Wk->Option HO
noncomputable def upd(H:Hp)(a:Wk)(o:HO):Hp:=λb=>if b=a then Z o else H b
theorem aD{H:Hp}{o:HO}:upd H a o a=Z o:=by unfold upd;rw[if_pos rfl]
theorem am{H:Hp}{o:HO}(h:b≠a):upd H a o b=H b:=by unfold upd;rw[if_neg h]
theorem Fx{H:Hp}{o u:HO}(h:H a=Z o)(h':H b=Z u)(d:o≠u):a≠b:=by intro e;subst e;rw[h]at h';exact d (Ml.inj h')
theorem b8{H:Hp}{o:HO}(h:H a=Z o)(h':H b=Y):a≠b:=by intro e;subst e;rw[h]at h';cases h'
section
variable(P:L4)(w:Lq)
noncomputable def ObjOk(H:Hp)(h:Heap)(a:Wk):HO->Prop
 |.lst xs=>xs.length<=KG/\∃(its:List h8) (n:Nat),Vals xs its/\h.get? a=Z {cls:=.type "list",data:=.seq its.toArray n}
 |.tup xs=>xs.length<=KG/\∃its:List h8,Vals xs its/\IsTup h a its.toArray
 |.dK kvs=>kvs.length<=KG/\(a==MK)=Wj/\∃vs,KV kvs vs/\h.DictOf (aQ P w) a vs
 |.dT kvs=>kvs.length<=KG/\(a==MK)=Wj/\∃xs:List (List Key×Wk×h8),
  Me (λ(p:List Key×V) (q:List Key×Wk×h8)=>p.1=q.1/\H q.2.1=Z (.tup (p.1.map kV))/\RelV p.2 q.2.2) kvs xs /\
  ∃o es ep,h.get? a=Z o/\o.ExactDict/\o.data=.dict es ep/\es.toList=xs.map (entryOfKey (R6 (aQ P w)))/\(xs.map (·.1)).Nodup
 |.set S n=>h.SetOf (intKind P w) a S n
 |.ins C dx fs=>H dx=Z (.own a)/\fs.length<=1000/\dx≠a/\h.get? a=Z (PySem.W.instObj C dx) /\
  ∃mA,h.Ns1 dx mA/\(∀f,RelO (fs.lookup f) (mA f))/\PySem.Within mA (fs.map (·.1))
 |.own _=>∃o,h.get? a=Z o
 |.xd fs=>∃mA,h.Ns1 a mA/\∀f,RelO (fs.lookup f) (mA f)
 |.rng lo hi=>∃t u v,h.get? a=Z {cls:=.type "range",data:=.fields #[.int lo t,.int hi u,.int 1 v]}
 |.frz o u=>h.get? a=Z o/\ObjOk H h a u
 |.tbl ps=>h.get? a=Z {cls:=.none,data:=.fields ps}
 |.met f x=>h.get? a=Z (Rq (.ref f) (.ref x))
 |.ext φ=>φ h/\(∃o,h.get? a=Z o)/\∀h1 h2:Heap,φ h1->(∀o,h1.get? a=Z o->h2.get? a=Z o)->φ h2
def HOk(H:Hp)(h:Heap):Prop:=∀a o,H a=Z o->ObjOk P w H h a o
end
section
variable{P:L4}{w:Lq}{H H':Hp}{h h':Heap}{a:Wk}{o:HO}
theorem ObjOk.lt(x:ObjOk P w H h a o):a<h.objs.size:=by
 cases o with
 |lst xs=>obtain⟨_,_,_,_,e⟩:=x;exact B1 e
 |tup xs=>obtain⟨_,_,_,p⟩:=x;exact p.lt
 |dK kvs=>obtain⟨_,_,_,_,o,_,_,e,_⟩:=x;exact B1 e
 |dT kvs=>obtain⟨_,_,_,_,o,_,_,e,_⟩:=x;exact B1 e
 |set S n=>obtain⟨o,_,_,_,e,_⟩:=x;exact B1 e
 |ins C dx fs=>obtain⟨_,_,_,e,_⟩:=x;exact B1 e
 |own y=>obtain⟨_,e⟩:=x;exact B1 e
 |xd fs=>obtain⟨_,⟨_,_,_,e,_⟩,_⟩:=x;exact B1 e
 |rng lo hi=>obtain⟨_,_,_,e⟩:=x;exact B1 e
 |frz ob u=>obtain⟨e,_⟩:=x;exact B1 e
 |tbl ps=>exact B1 (show h.get? a=Z _ from x)
 |met f y=>exact B1 (show h.get? a=Z _ from x)
 |ext φ=>obtain⟨_,⟨_,e⟩,_⟩:=x;exact B1 e
theorem W3{α β:Type}{F G:α->β->Prop}:∀{l₁:List α} {l₂:List β},Me F l₁ l₂->(∀a b,F a b->G a b)->Me G l₁ l₂
 |_,_,.nil,_=>.nil
 |_,_,.cons r t,f=>.cons (f _ _ r) (W3 t f)
theorem ObjOk.stay(x:ObjOk P w H h a o)(k:∀b u,(b=a∨H b=Z (.own a))->h.get? b=Z u->h'.get? b=Z u)(ho:∀b,H b=Z (.own a)->H' b=Z (.own a))(j:∀b xs,H b=Z (.tup xs)->H' b=Z (.tup xs)):ObjOk P w H' h' a o:=by
 induction o with
 |lst xs=>obtain⟨z,its,n,r,e⟩:=x;exact⟨z,its,n,r,k _ _ (.inl rfl) e⟩
 |tup xs=>obtain⟨z,its,r,ob,e,c⟩:=x;exact⟨z,its,r,ob,k _ _ (.inl rfl) e,c⟩
 |dK kvs=>obtain⟨z,y,vs,r,ob,es,ep,e,c⟩:=x;exact⟨z,y,vs,r,ob,es,ep,k _ _ (.inl rfl) e,c⟩
 |dT kvs=>obtain⟨z,y,xs,r,ob,es,ep,e,c⟩:=x;exact⟨z,y,xs,W3 r λp q z=>⟨z.1,j _ _ z.2.1,z.2.2⟩,ob,es,ep,k _ _ (.inl rfl) e,c⟩
 |set S n=>obtain⟨ob,es,ep,t,e,c⟩:=x;exact⟨ob,es,ep,t,k _ _ (.inl rfl) e,c⟩
 |ins C dx fs=>obtain⟨d,z,ne,e,mA,⟨od,es,ep,e2,c⟩,r⟩:=x;exact⟨ho _ d,z,ne,k _ _ (.inl rfl) e,mA,⟨od,es,ep,k _ _ (.inr d) e2,c⟩,r⟩
 |own y=>obtain⟨ob,e⟩:=x;exact⟨ob,k _ _ (.inl rfl) e⟩
 |xd fs=>obtain⟨mA,⟨od,es,ep,e,c⟩,r⟩:=x;exact⟨mA,⟨od,es,ep,k _ _ (.inl rfl) e,c⟩,r⟩
 |rng lo hi=>obtain⟨t,u,v,e⟩:=x;exact⟨t,u,v,k _ _ (.inl rfl) e⟩
 |frz ob u ih=>obtain⟨e,q⟩:=x;exact⟨k _ _ (.inl rfl) e,ih q⟩
 |tbl ps=>have e:h.get? a=Z {cls:=.none,data:=.fields ps}:=x;show h'.get? a=Z {cls:=.none,data:=.fields ps};exact k a _ (.inl rfl) e
 |met f y=>have e:h.get? a=Z (Rq (.ref f) (.ref y)):=x;show h'.get? a=Z (Rq (.ref f) (.ref y));exact k a _ (.inl rfl) e
 |ext φ=>obtain⟨p,⟨o,e⟩,st⟩:=x;exact⟨st _ _ p λo q=>k _ _ (.inl rfl) q,⟨o,k _ _ (.inl rfl) e⟩,st⟩
theorem HOk.lt(x:HOk P w H h)(e:H a=Z o):a<h.objs.size:=(x a o e).lt
theorem HOk.fresh(x:HOk P w H h)(e:h.objs.size<=a):H a=Y:=by
 cases q:H a with
 |none=>rfl
 |some u=>exact absurd (Li (x.lt q) e) (LZ _)
theorem HOk.kept(x:HOk P w H h)(k:∀b u,h.get? b=Z u->h'.get? b=Z u):HOk P w H h':=λa o e=>(x a o e).stay (λb u _ q=>k b u q) (λ_ q=>q) λ_ _ q=>q
theorem HOk.laid(x:HOk P w H h)(k:∀b u,h.get? b=Z u->h'.get? b=Z u)(z:h.objs.size<=a)(new:ObjOk P w (upd H a o) h' a o):HOk P w (upd H a o) h':=λb u e=>by
 have j:=x.fresh z
 by_cases hb:b=a
 ·subst hb;rw[aD]at e;cases e;exact new
 ·rw[am hb]at e;exact(x b u e).stay (λc v _ q=>k c v q) (λc q=>by rw[am (b8 q j)];exact q) λc xs q=>by rw[am (b8 q j)];exact q
end
def Rd(H:Hp)(a:Wk)(u:HO):Prop:=H a=Z u∨∃o,H a=Z (.frz o u)
theorem Rd.of{H:Hp}{u:HO}(h:H a=Z u):Rd H a u:=.inl h
theorem Rd.ok{H:Hp}{u:HO}(r:Rd H a u)(x:HOk P w H h):ObjOk P w H h a u:=by
 rcases r with r|⟨o,r⟩
 ·exact x a u r
 ·obtain⟨_,q⟩:=x a _ r;exact q
noncomputable def Mut:Option HO->Prop
 |some (.lst _)=>True
 |some (.dK _)=>True
 |some (.dT _)=>True
 |some (.set _ _)=>True
 |some (.ins _ _ _)=>True
 |some (.ext _)=>True
 |_=>False
section
variable{P:L4}{w:Lq}{H:Hp}{h h':Heap}{x e:Wk}{o':HO}
theorem HOk.write(ok:HOk P w H h)(mu:Mut (H x))(he:e=x∨H e=Z (.own x))(k:∀b u,b≠e->h.get? b=Z u->h'.get? b=Z u)(F:∃u,h'.get? e=Z u)(new:ObjOk P w (upd H x o') h' x o'):HOk P w (upd H x o') h':=λb u q=>by
 have nown:∀c y,H c=Z (.own y)->c≠x:=λc y r z=>by subst z;rw[r]at mu;exact mu
 have ntup:∀c xs,H c=Z (.tup xs)->c≠x:=λc xs r z=>by subst z;rw[r]at mu;exact mu
 by_cases hb:b=x
 ·subst hb;rw[aD]at q;cases q;exact new
 ·rw[am hb]at q
  by_cases j:b=e
  ·have q':H b=Z (.own x):=by
    rcases he with z|z
    ·exact absurd (j.trans z) hb
    ·rw[j];exact z
   rw[q]at q';cases q';obtain⟨v,G⟩:=F;exact⟨v,by rw[j];exact G⟩
  ·refine(ok b u q).stay (λc v B r=>k c v ?_ r) (λc r=>by rw[am (nown c b r)];exact r) λc xs r=>by rw[am (ntup c xs r)];exact r
   rcases B with rfl|B
   ·exact j
   ·rintro rfl
    rcases he with z|z
    ·exact nown c b B z
    ·rw[B]at z;cases z;exact hb rfl
end
structure Un(fs ex:List Wk)(H H':Hp)(h h':Heap):Prop where
 keep:∀b o,h.get? b=Z o->H b=Y->b∉fs->b∉ex->h'.get? b=Z o
 slot:∀b o,h.get? b=Z o->H b=Y->b∈fs->b∉ex->∃sl,h'.get? b=Z {o with slots:=sl}
 free:∀b o,h.get? b=Z o->H b=Y->b∉ex->H' b=Y
 there:∀b o,h.get? b=Z o->b∉ex->∃o',h'.get? b=Z o'
 tups:∀b xs,H b=Z (.tup xs)->H' b=Z (.tup xs)
 frzs:∀b o u,H b=Z (.frz o u)->H' b=Z (.frz o u)
 tbls:∀b ps,H b=Z (.tbl ps)->∃more,H' b=Z (.tbl (ps++more))
section
variable{fs fs' ex ex':List Wk}{H H1 H2:Hp}{h h1 h2 h':Heap}{a x e:Wk}{o:HO}
theorem Un.any(u:Un fs ex H H1 h h1){ob:Obj}(q:h.get? b=Z ob)(n:H b=Y)(hx:b∉ex):∃sl,h1.get? b=Z {ob with slots:=sl}:=by
 by_cases j:b∈fs
 ·exact u.slot b ob q n j hx
 ·exact⟨ob.slots,u.keep b ob q n j hx⟩
theorem Un.trans(a:Un fs ex H H1 h h1)(b:Un fs ex H1 H2 h1 h2):Un fs ex H H2 h h2 where
 keep:=λc ob q n j hx=>b.keep c ob (a.keep c ob q n j hx) (a.free c ob q n hx) j hx
 slot:=λc ob q n j hx=>by obtain⟨sl,e1⟩:=a.slot c ob q n j hx;obtain⟨sl',e2⟩:=b.slot c _ e1 (a.free c ob q n hx) j hx;exact⟨sl',e2⟩
 free:=λc ob q n hx=>by obtain⟨o',e1⟩:=a.there c ob q hx;exact b.free c o' e1 (a.free c ob q n hx) hx
 there:=λc ob q hx=>by obtain⟨o',e1⟩:=a.there c ob q hx;exact b.there c o' e1 hx
 tups:=λc xs q=>b.tups c xs (a.tups c xs q)
 frzs:=λc ob xs q=>b.frzs c ob xs (a.frzs c ob xs q)
 tbls:=λc ps q=>by obtain⟨z,e1⟩:=a.tbls c ps q;obtain⟨B,e2⟩:=b.tbls c _ e1;exact⟨z++B,by rw[e2,U0]⟩
theorem Un.kept(k:∀b u,h.get? b=Z u->h'.get? b=Z u):Un fs ex H H h h':=⟨λb ob q _ _ _=>k b ob q,λb ob q _ _ _=>⟨ob.slots,k b ob q⟩,λ_ _ _ n _=>n,λb ob q _=>⟨ob,k b ob q⟩,λ_ _ q=>q,λ_ _ _ q=>q,λ_ ps q=>⟨#[],by rw[q];simp⟩⟩
theorem Un.refl:Un fs ex H H h h:=Un.kept λ_ _ q=>q
theorem Un.laid(k:∀b u,h.get? b=Z u->h'.get? b=Z u)(z:h.objs.size<=a)(j:H a=Y):Un fs ex H (upd H a o) h h' where
 keep:=λb u q _ _ _=>k b u q
 slot:=λb u q _ _ _=>⟨u.slots,k b u q⟩
 free:=λb u q n _=>by rw[am (Lg (Li (B1 q) z))];exact n
 there:=λb u q _=>⟨u,k b u q⟩
 tups:=λb xs q=>by rw[am (b8 q j)];exact q
 frzs:=λb u xs q=>by rw[am (b8 q j)];exact q
 tbls:=λb ps q=>⟨#[],by rw[am (b8 q j),q];simp⟩
theorem Un.write(mu:Mut (H x))(he:e=x∨H e=Z (.own x))(k:∀b u,b≠e->h.get? b=Z u->h'.get? b=Z u)(B:∃u,h'.get? e=Z u):Un fs ex H (upd H x o) h h':=by
 have hx:∀b,H b=Y->b≠x:=λb n z=>by subst z;rw[n]at mu;exact mu
 have F:∀b,H b=Y->b≠e:=λb n z=>by
  subst z
  rcases he with r|r
  ·exact hx b n r
  ·rw[n]at r;cases r
 have hm:∀b u,H b=Z u->¬Mut (Z u)->b≠x:=λb u q nm z=>by subst z;rw[q]at mu;exact nm mu
 refine⟨λb u q n _ _=>k b u (F b n) q,λb u q n _ _=>⟨u.slots,k b u (F b n) q⟩,λb u q n _=>by rw[am (hx b n)];exact n,λb u q _=>?_,
  λb xs q=>by rw[am (hm b _ q λz=>z)];exact q,λb u xs q=>by rw[am (hm b _ q λz=>z)];exact q,λb ps q=>⟨#[],by rw[am (hm b _ q λz=>z),q];simp⟩⟩
 by_cases j:b=e
 ·subst j;exact B
 ·exact⟨u,k b u j q⟩
end
noncomputable def trk(h:Heap)(H:Hp):List Wk:=(q7 h.objs.size).filter λa=>(H a).isSome
noncomputable def fK(h:Heap)(H:Hp):Heap:=PySem.W.hideAll h (trk h H)
theorem vz(h:Heap)(H:Hp):(fK h H).objs.size=h.objs.size:=PySem.W.hideAll_size _ _
theorem j9{H:Hp}{o:Obj}(e:h.get? b=Z o)(n:H b=Y):(fK h H).get? b=Z o:=
 PySem.W.hideAll_get _ e λhm=>by have q:(H b).isSome=F2:=(NG.mp hm).2;rw[n]at q;simp at q
theorem Be{H:Hp}{o:Obj}(e:(fK h H).get? b=Z o):h.get? b=Z o/\H b=Y:=by
 have e':h.get? b=Z o:=PySem.W.of_hideAll (trk h H) e;refine⟨e',?_⟩
 cases q:H b with
 |none=>rfl
 |some x=>
  have hm:b∈trk h H:=NG.mpr ⟨L9.mpr (B1 e'),by simp[q]⟩
  have z:(fK h H).get? b=Y:=PySem.W.hideAll_none (trk h H) hm;rw[z]at e;cases e
noncomputable def Bf(g h:Heap)(L:Wk):List (Wk×Obj):=(q7 h.objs.size).filterMap λa=>if a=L∨(g.get? a).isSome=F2 then Y else(h.get? a).map λo=>(a,o)
noncomputable def rest(g h:Heap)(L d:Wk):List (Wk×Obj):=(Bf g h L).filter λp=>decide (p.1≠d)
end
variable{H:Hp}{o:HO}{u:h8}{t' i:Nat}{ch:List Wk}{x:Str}{e:Expr}{N:List Str}{M:QU}{A:Lv}{v:V}{s:r0}
section
structure Mod(K:Frag)(mg:Str->Option h8)(base:Heap):Prop where
 kin:K.In base
 glob:base.Ns Mf mg
 blt:∃mb,base.Ns Si mb/\∀x:Str,x≠"__name__"->mb x=QY x
 nolimit:base.NoLimit
structure Cx where
 prog:L4
 w:Lq
 K:Frag
 mg:Str->Option h8
 base:Heap
 A:Lv
 N:List Str
 s₀:r0
 H₀:Hp
 env:Env
 outer:List Env
 stack:List Env
 ex:List Wk
 fn:Str->Bool
 calm:Bool
 pn:List (Wk×Obj)
 xe:h8->r0->Prop
noncomputable def frs(l:List Env):List Wk:=l.filterMap (·.frame)
noncomputable abbrev Cx.fs(X:Cx):List Wk:=frs X.outer
def Vis(sc:Scope)(x:Str):Prop:=sc.names.lookup x=Z .local∨sc.names.lookup x=Z .cell∨sc.names.lookup x=Z .free
def Loc(sc:Scope)(x:Str):Prop:=sc.names.lookup x=Z .local∨sc.names.lookup x=Z .cell
def GX(env:Env)(h:Heap)(m:Str->Option h8)(x:Str)(u:h8):Prop:=(env.kindOf x=Z .local/\m x=Z u)∨((env.kindOf x=Z .cell∨env.kindOf x=Z .free)/\∃c,env.cells.lookup x=Z c/\h.IsCell c (Z u))
structure Cx.Ok(X:Cx):Prop where
 mod:Mod X.K X.mg X.base
 kind:X.env.scope.kind=.function
 glob:X.env.globals=Mf
 blt:X.env.builtins=Si
 above:X.s₀.heap.objs.size<=X.env.locals
 inj:∀x y c,X.env.cells.lookup x=Z c->X.env.cells.lookup y=Z c->x=y
 has:∀x,(X.env.kindOf x=Z .cell∨X.env.kindOf x=Z .free)->∃c,X.env.cells.lookup x=Z c
 cab:∀x c,X.fn x=F2->X.env.cells.lookup x=Z c->X.s₀.heap.objs.size<=c
 hd:X.calm=F2->X.A.handled=Y
 frames:X.A.frames=Z X.stack
 stk:X.stack=X.outer∨(X.stack=X.env::X.outer/\X.env.frame=Z X.env.locals)
 exf:∀b∈X.ex,b≠X.env.locals/\∀x c,X.env.cells.lookup x=Z c->c≠b
 bs:∀b o,X.base.get? b=Z o->X.s₀.heap.get? b=Z o/\X.H₀ b=Y
 bsz:X.base.objs.size<=X.s₀.heap.objs.size
 noex:∀b o,X.base.get? b=Z o->b∉X.ex
 exfs:∀b∈X.ex,b∉X.fs
 funs:X.s₀.heap.FunFrames X.base X.outer
 frf:∀b∈X.fs,X.H₀ b=Y
structure Inv(X:Cx)(pins:List (Wk×Obj))(σ:List (Option V))(H:Hp)(s:r0):Prop where
 ok:X.Ok
 os:s.os=X.s₀.os
 bare:Rr s.gens
 base:Un X.fs X.ex X.H₀ H X.s₀.heap s.heap
 loc:∃m,s.heap.Ns X.env.locals m/\∀(i:Nat) (x:Str) (v:V),X.N[i]?=Z x->σ[i]?=Z (Z v)->Vis X.env.scope x->∃u,RelV v u/\GX X.env s.heap m x u
 cell:∀x c,X.env.cells.lookup x=Z c->∃v,s.heap.IsCell c v
 free:H X.env.locals=Y
 freeC:∀x c,X.env.cells.lookup x=Z c->H c=Y
 pin:∀p∈X.pn++pins,s.heap.get? p.1=Z p.2/\H p.1=Y/\p.1≠X.env.locals/\p.1∉X.fs/\∀v,p.2.data≠.cell v
 hok:HOk X.prog X.w H s.heap
 len:σ.length=X.N.length
section
variable{X:Cx}{pins:List (Wk×Obj)}{σ:List (Option V)}{H H':Hp}{s:r0}{h':Heap}
theorem Cx.Ok.nofr(ok:X.Ok){o:Obj}(e:X.base.get? b=Z o):b∉X.fs:=λj=>by have:=(ok.funs.mem j).1;rw[e]at this;cases this
theorem Inv.bs(I:Inv X pins σ H s):∀b o,X.base.get? b=Z o->s.heap.get? b=Z o/\H b=Y:=λb o e=>⟨I.base.keep b o (I.ok.bs b o e).1 (I.ok.bs b o e).2 (I.ok.nofr e) (I.ok.noex b o e),I.base.free b o (I.ok.bs b o e).1 (I.ok.bs b o e).2 (I.ok.noex b o e)⟩
theorem Inv.bk(I:Inv X pins σ H s):∀b o,X.base.get? b=Z o->s.heap.get? b=Z o:=λb o e=>(I.bs b o e).1
theorem Inv.mod(I:Inv X pins σ H s):Mod X.K X.mg X.base:=I.ok.mod
theorem Inv.kIn(I:Inv X pins σ H s):X.K.In s.heap:=I.ok.mod.kin.keeps I.bk
theorem Inv.fr(I:Inv X pins σ H s):∃m,Fr X.base X.env.locals s.heap m:=
 let⟨m,j,_⟩:=I.loc
 ⟨m,j,I.bk,LR I.ok.bsz I.ok.above⟩
theorem Inv.lt(I:Inv X pins σ H s):X.env.locals<s.heap.objs.size:=let⟨_,j,_⟩:=I.loc;j.lt
theorem Inv.sz(I:Inv X pins σ H s):X.s₀.heap.objs.size<=s.heap.objs.size:=LR I.ok.above (OF I.lt)
theorem Inv.nofs(I:Inv X pins σ H s)(h:s.heap.objs.size<=a):a∉X.fs:=λj=>by obtain⟨_,o,ho,_⟩:=I.ok.funs.mem j;exact absurd (Li (B1 ho) (LR I.sz h)) (LZ _)
theorem Inv.cne(I:Inv X pins σ H s):∀x c,X.env.cells.lookup x=Z c->c≠X.env.locals:=λx c e z=>by obtain⟨v,o,ho,hd⟩:=I.cell x c e;obtain⟨m,⟨o',es,ep,j,B,_⟩,_⟩:=I.loc;rw[z,j]at ho;cases ho;rw[B]at hd;cases hd
theorem Inv.funs(I:Inv X pins σ H s):s.heap.FunFrames X.base X.outer:=by
 have all:∀(l:List Env),(∀b∈frs l,b∈X.fs)->X.s₀.heap.FunFrames X.base l->s.heap.FunFrames X.base l:=by
  intro l
  induction l with
  |nil=>intro _ _;trivial
  |cons env r ih=>
   intro hs F;obtain⟨G,⟨L,o,hf,J,ho,hd⟩,O⟩:=F;have j:L∈X.fs:=hs L (by unfold frs;rw[QT,hf];exact KW)
   obtain⟨sl,e⟩:=I.base.slot L o ho (I.ok.frf L j) j λz=>I.ok.exfs L z j;exact⟨G,⟨L,_,hf,J,e,hd⟩,ih (λb B=>hs b (by unfold frs;rw[QT,hf];exact KP _ B)) O⟩
 exact all X.outer (λ_ B=>B) I.ok.funs
theorem Inv.stack(I:Inv X pins σ H s):s.heap.FunFrames X.base X.stack:=by
 rcases I.ok.stk with e|⟨e,hf⟩
 ·rw[e];exact I.funs
 ·rw[e];obtain⟨m,j,_⟩:=I.loc;refine .cons (by rw[I.ok.kind];decide) hf j ?_ I.funs
  exact Heap.get?_none_of_le (LR I.ok.bsz I.ok.above)
theorem Inv.stkSub(I:Inv X pins σ H s):∀b∈frs X.stack,b∈X.env.locals::X.fs:=λb j=>by
 rcases I.ok.stk with e|⟨e,hf⟩
 ·rw[e]at j;exact KP _ j
 ·rw[e]at j;unfold frs at j;rw[QT,hf]at j;exact j
theorem Inv.stkFree(I:Inv X pins σ H s):∀b∈frs X.stack,H b=Y:=λb j=>by
 rcases D1.mp (I.stkSub b j)with e|j
 ·rw[e];exact I.free
 ·obtain⟨_,o,ho,_⟩:=I.ok.funs.mem j;exact I.base.free b o ho (I.ok.frf b j) λz=>I.ok.exfs b z j
theorem Inv.step{g':Array GenState}{d':Drawn}(I:Inv X pins σ H s)(j:∀b∈ch,(b∈X.ex∨X.s₀.heap.objs.size<=b)/\b≠X.env.locals/\(∀x c,X.env.cells.lookup x=Z c->c≠b)/\∀p∈X.pn++pins,p.1≠b)(keep:∀b o,b≠X.env.locals->b∉X.fs->b∉ch->s.heap.get? b=Z o->H b=Y->h'.get? b=Z o)(slot:∀b o,b≠X.env.locals->b∈X.fs->b∉ch->s.heap.get? b=Z o->H b=Y->∃sl,h'.get? b=Z {o with slots:=sl})(free:∀b o,b∉ch->s.heap.get? b=Z o->H b=Y->H' b=Y)(there:∀b o,b∉ch->s.heap.get? b=Z o->∃o',h'.get? b=Z o')(tups:∀b xs,H b=Z (.tup xs)->H' b=Z (.tup xs))(frzs:∀b o u,H b=Z (.frz o u)->H' b=Z (.frz o u))(tbls:∀b ps,H b=Z (.tbl ps)->∃more,H' b=Z (.tbl (ps++more)))(ns:∀m,s.heap.Ns X.env.locals m->h'.Ns X.env.locals m)(hok:HOk X.prog X.w H' h')(J:Rr g'):
 Inv X pins σ H' {s with heap:=h',gens:=g',drawn:=d',toks:=t'}:=by
 have neL:∀b o,X.s₀.heap.get? b=Z o->b≠X.env.locals:=λb o e=>Lg (Li (B1 e) I.ok.above);have neC:∀b o,X.s₀.heap.get? b=Z o->b∉X.ex->b∉ch:=λb o e hx B=>by
  rcases(j b B).1 with z|z
  ·exact hx z
  ·exact absurd (Li (B1 e) z) (LZ _)
 have cellK:∀x c,X.env.cells.lookup x=Z c->∀v,s.heap.IsCell c v->h'.IsCell c v:=λx c e v ⟨o,ho,hd⟩=>by
  have nch:c∉ch:=λz=>(j c z).2.2.1 x c e rfl
  by_cases F:c∈X.fs
  ·obtain⟨sl,q⟩:=slot c o (I.cne x c e) F nch ho (I.freeC x c e);exact⟨_,q,hd⟩
  ·exact⟨o,keep c o (I.cne x c e) F nch ho (I.freeC x c e),hd⟩
 refine⟨I.ok,I.os,J,⟨λb o e n B hx=>?_,λb o e n B hx=>?_,λb o e n hx=>?_,λb o e hx=>?_,λb xs e=>tups b xs (I.base.tups b xs e),λb o xs e=>frzs b o xs (I.base.frzs b o xs e),λb ps e=>?_⟩,?_,λx c e=>?_,?_,λx c e=>?_,λp G=>?_,hok,I.len⟩
 ·exact keep b o (neL b o e) B (neC b o e hx) (I.base.keep b o e n B hx) (I.base.free b o e n hx)
 ·obtain⟨sl,e1⟩:=I.base.slot b o e n B hx;obtain⟨sl',e2⟩:=slot b _ (neL b o e) B (neC b o e hx) e1 (I.base.free b o e n hx);exact⟨sl',e2⟩
 ·obtain⟨o',e1⟩:=I.base.there b o e hx;exact free b o' (neC b o e hx) e1 (I.base.free b o e n hx)
 ·obtain⟨o',e1⟩:=I.base.there b o e hx;exact there b o' (neC b o e hx) e1
 ·obtain⟨L,e1⟩:=I.base.tbls b ps e;obtain⟨O,e2⟩:=tbls b _ e1;exact⟨L++O,by rw[e2,U0]⟩
 ·obtain⟨m,U,Fn⟩:=I.loc;refine⟨m,ns m U,λi x v e1 e2 fv=>?_⟩;obtain⟨u,r,l⟩:=Fn i x v e1 e2 fv;refine⟨u,r,?_⟩
  rcases l with l|⟨k,c,e,z⟩
  ·exact .inl l
  ·exact .inr ⟨k,c,e,cellK x c e _ z⟩
 ·obtain⟨v,z⟩:=I.cell x c e;exact⟨v,cellK x c e v z⟩
 ·obtain⟨m,⟨o,_,_,ho,_⟩,_⟩:=I.loc;exact free _ o (λz=>(j _ z).2.1 rfl) ho I.free
 ·obtain⟨v,o,ho,hd⟩:=I.cell x c e;exact free c o (λz=>(j c z).2.2.1 x c e rfl) ho (I.freeC x c e)
 ·obtain⟨e,n,ne,nf,d⟩:=I.pin p G;have nch:p.1∉ch:=λz=>(j p.1 z).2.2.2 p G rfl;exact⟨keep p.1 p.2 ne nf nch e n,free p.1 p.2 nch e n,ne,nf,d⟩
theorem Inv.un(I:Inv X pins σ H s)(u:Un X.fs [] H H' s.heap h')(hok:HOk X.prog X.w H' h'):Inv X pins σ H' {s with heap:=h',toks:=t'}:=by
 obtain⟨m,⟨o,es,ep,ho,r⟩,_⟩:=id I.loc;obtain⟨sl,F⟩:=u.any ho I.free (by simp)
 exact I.step (g':=s.gens) (d':=s.drawn) (ch:=[]) (λ_ z=>nomatch z) (λb o _ B _ e n=>u.keep b o e n B (by simp)) (λb o _ B _ e n=>u.slot b o e n B (by simp)) (λb o _ e n=>u.free b o e n (by simp)) (λb o _ e=>u.there b o e (by simp)) u.tups u.frzs u.tbls (λm' hm=>by obtain⟨o',es',ep',j,r'⟩:=hm;rw[ho]at j;cases j;exact⟨_,es',ep',F,r'⟩) hok I.bare
theorem Inv.call{g':Array GenState}{d':Drawn}(I:Inv X pins σ H s)(u:Un (frs X.stack) ch H H' s.heap h')(hok:HOk X.prog X.w H' h')(J:Rr g')(B:∀b∈ch,(b∈X.ex∨X.s₀.heap.objs.size<=b)/\b≠X.env.locals/\(∀x c,X.env.cells.lookup x=Z c->c≠b)/\∀p∈X.pn++pins,p.1≠b):
 Inv X pins σ H' {s with heap:=h',gens:=g',drawn:=d',toks:=t'}:=by
 obtain⟨m,⟨o,es,ep,ho,r⟩,_⟩:=id I.loc;obtain⟨sl,G⟩:=u.any ho I.free λz=>(B _ z).2.1 rfl;exact I.step (ch:=ch) B (λb o G L j e n=>u.keep b o e n (λz=>(D1.mp (I.stkSub b z)).elim G L) j) (λb o _ _ j e n=>u.any e n j) (λb o j e n=>u.free b o e n j) (λb o j e=>u.there b o e j) u.tups u.frzs u.tbls (λm' hm=>by obtain⟨o',es',ep',F,r'⟩:=hm;rw[ho]at F;cases F;exact⟨_,es',ep',G,r'⟩) hok J
theorem Inv.turned{it:Wk}(I:Inv X pins σ H s)(k:∀b o,b≠it->s.heap.get? b=Z o->h'.get? b=Z o)(F:H it=Y)(B:it≠X.env.locals)(h1:it∈X.ex∨X.s₀.heap.objs.size<=it)(h2:∀x c,X.env.cells.lookup x=Z c->c≠it)(G:∀p∈X.pn++pins,p.1≠it):Inv X pins σ H {s with heap:=h',toks:=t'}:=by
 have nit:∀b u,H b=Z u->b≠it:=λb u e z=>by rw[z,F]at e;cases e
 refine I.step (g':=s.gens) (d':=s.drawn) (ch:=[it]) (λb J=>?_) (λb o _ _ j e _=>k b o (λz=>j (by simp[z])) e) (λb o _ _ j e _=>⟨o.slots,k b o (λz=>j (by simp[z])) e⟩) (λ_ _ _ _ n=>n)
  (λb o j e=>⟨o,k b o (λz=>j (by simp[z])) e⟩) (λ_ _ e=>e) (λ_ _ _ e=>e) (λb ps e=>⟨#[],by rw[e];simp⟩) (λm hm=>?_) (λb u e=>?_) I.bare
 ·have e:b=it:=by simpa using J
  subst e;exact⟨h1,B,h2,G⟩
 ·obtain⟨o,es,ep,ho,r⟩:=hm;exact⟨o,es,ep,k _ o (Ne.symm B) ho,r⟩
 ·refine(I.hok b u e).stay (λc v j q=>k c v ?_ q) (λ_ q=>q) λ_ _ q=>q
  rcases j with z|z
  ·rw[z];exact nit b u e
  ·exact nit c _ z
theorem Inv.tok(I:Inv X pins σ H s)(t:Nat):Inv X pins σ H {s with toks:=t}:=I.un (h':=s.heap) (t':=t) Un.refl I.hok
theorem Inv.kept(I:Inv X pins σ H s)(k:∀b u,s.heap.get? b=Z u->h'.get? b=Z u):Inv X pins σ H {s with heap:=h',toks:=t'}:=I.un (Un.kept k) (I.hok.kept k)
theorem Inv.laid(I:Inv X pins σ H s)(k:∀b u,s.heap.get? b=Z u->h'.get? b=Z u)(j:s.heap.objs.size<=a)(new:ObjOk X.prog X.w (upd H a o) h' a o):Inv X pins σ (upd H a o) {s with heap:=h',toks:=t'}:=I.un (Un.laid k j (I.hok.fresh j)) (I.hok.laid k j new)
theorem Inv.write{x e:Wk}(I:Inv X pins σ H s)(mu:Mut (H x))(he:e=x∨H e=Z (.own x))(k:∀b u,b≠e->s.heap.get? b=Z u->h'.get? b=Z u)(j:∃u,h'.get? e=Z u)(new:ObjOk X.prog X.w (upd H x o) h' x o):Inv X pins σ (upd H x o) {s with heap:=h',toks:=t'}:=I.un (Un.write mu he k j) (I.hok.write mu he k j new)
theorem Inv.pins_of{pins':List (Wk×Obj)}(I:Inv X pins σ H s)(h:∀p∈pins',s.heap.get? p.1=Z p.2/\H p.1=Y/\p.1≠X.env.locals/\p.1∉X.fs/\∀v,p.2.data≠.cell v):Inv X pins' σ H s:=⟨I.ok,I.os,I.bare,I.base,I.loc,I.cell,I.free,I.freeC,λp j=>(Lo.mp j).elim (λz=>I.pin p (LD _ z)) (h p),I.hok,I.len⟩
theorem oV(z:N.Nodup){j:Nat}(a:N[i]?=Z x)(b:N[j]?=Z x):i=j:=by obtain⟨h1,e1⟩:=KQ.mp a;obtain⟨h2,e2⟩:=KQ.mp b;exact(List.getElem_inj z).mp (e1.trans e2.symm)
theorem vA{E:h8->r0->Prop}{Q:Unit->r0->Prop}(I:Inv X pins σ H s)(hN:X.N.Nodup)(hi:X.N[i]?=Z x)(hx:Loc X.env.scope x)(r:RelV v u)(h:∀s',Inv X pins (σ.set i (Z v)) H s'->(∃a,Mg a s.heap s'.heap/\(a=X.env.locals∨X.env.cells.lookup x=Z a))->Q () s')(hf:X.fn x=F2∨X.env.scope.names.lookup x=Z .local:=by first|exact .inl rfl|exact .inr rfl|assumption):KN M A (storeName X.env x u) Q E s:=by
 obtain⟨m,hn,hl⟩:=id I.loc;have U:(X.env.scope.kind==.class || (X.env.scope.kind==.module&&X.env.locals != X.env.globals))=Wj:=by rw[I.ok.kind];rfl
 have Fn:i<σ.length:=by rw[I.len];exact(KQ.mp hi).1
 have cne:=I.cne;have tracked:∀{a:Wk} {h':Heap},(∃o,s.heap.get? a=Z o/\H a=Y)->Mg a s.heap h'->HOk X.prog X.w H h':=λ{a h'} ha hs b ob e=>by
  obtain⟨_,_,F⟩:=ha;refine(I.hok b ob e).stay (λc w' B q=>(hs.2 c ?_).trans q) (λ_ q=>q) λ_ _ q=>q;rintro rfl
  rcases B with rfl|B
  ·rw[F]at e;cases e
  ·rw[F]at B;cases B
 rcases hx with G|G
 ·refine wpAny_storeName_local G hn (λh' JM hs=>?_) U;obtain⟨oL,_,_,JN,_⟩:=id hn;refine h _ ⟨I.ok,I.os,I.bare,⟨λb o e n J hx=>?_,λb o e n J hx=>?_,I.base.free,λb o e hx=>?_,I.base.tups,I.base.frzs,I.base.tbls⟩,⟨_,JM,λj y v' e1 e2 e3=>?_⟩,λy c e=>?_,I.free,I.freeC,λp hp=>?_,tracked ⟨oL,JN,I.free⟩ hs,by simpa using I.len⟩ ⟨_,hs,.inl rfl⟩
  ·exact(hs.2 b (Lg (Li (B1 e) I.ok.above))).trans (I.base.keep b o e n J hx)
  ·obtain⟨sl,e1⟩:=I.base.slot b o e n J hx;exact⟨sl,(hs.2 b (Lg (Li (B1 e) I.ok.above))).trans e1⟩
  ·obtain⟨o',e1⟩:=I.base.there b o e hx;exact⟨o',(hs.2 b (Lg (Li (B1 e) I.ok.above))).trans e1⟩
  ·by_cases L:j=i
   ·subst L;rw[hi]at e1;cases e1;rw[NR Fn]at e2
    cases e2
    exact⟨u,r,.inl ⟨G,by simp⟩⟩
   ·rw[P7 (Ne.symm L)]at e2;obtain⟨u',r',q⟩:=hl j y v' e1 e2 e3;refine⟨u',r',?_⟩
    rcases q with⟨k,e⟩|⟨k,c,e,z⟩
    ·refine .inl ⟨k,?_⟩;have:y≠x:=λe=>L (oV hN e1 (e▸hi));simp[this,e]
    ·exact .inr ⟨k,c,e,z.sameBut hs (cne y c e)⟩
  ·obtain⟨w',z⟩:=I.cell y c e;exact⟨w',z.sameBut hs (cne y c e)⟩
  ·obtain⟨e,n,ne,nf,d⟩:=I.pin p hp;exact⟨(hs.2 p.1 ne).trans e,n,ne,nf,d⟩
 ·have O:X.fn x=F2:=by
   rcases hf with z|z
   ·exact z
   ·rw[z]at G;cases G
  obtain⟨c,B⟩:=I.ok.has x (.inl G);obtain⟨w',z⟩:=I.cell x c B;refine wpAny_storeName_cell I.ok.kind G B z (λh' fv hs=>?_);obtain⟨oc,JJ,JK⟩:=id z;refine h {s with heap:=h'} ⟨I.ok,I.os,I.bare,⟨λb o e n J hx=>?_,λb o e n J hx=>?_,I.base.free,λb o e hx=>?_,I.base.tups,I.base.frzs,I.base.tbls⟩,⟨m,hn.sameBut hs (Ne.symm (cne x c B)),λj y v' e1 e2 e3=>?_⟩,λy c' e=>?_,I.free,I.freeC,λp hp=>?_,tracked ⟨oc,JJ,I.freeC x c B⟩ hs,by simpa using I.len⟩ ⟨c,hs,.inr B⟩
  ·exact(hs.2 b (Lg (Li (B1 e) (I.ok.cab x c O B)))).trans (I.base.keep b o e n J hx)
  ·obtain⟨sl,e1⟩:=I.base.slot b o e n J hx;exact⟨sl,(hs.2 b (Lg (Li (B1 e) (I.ok.cab x c O B)))).trans e1⟩
  ·obtain⟨o',e1⟩:=I.base.there b o e hx;exact⟨o',(hs.2 b (Lg (Li (B1 e) (I.ok.cab x c O B)))).trans e1⟩
  ·by_cases L:j=i
   ·subst L;rw[hi]at e1;cases e1;rw[NR Fn]at e2
    cases e2
    exact⟨u,r,.inr ⟨.inl G,c,B,fv⟩⟩
   ·rw[P7 (Ne.symm L)]at e2;obtain⟨u',r',q⟩:=hl j y v' e1 e2 e3;refine⟨u',r',?_⟩
    rcases q with q|⟨k,c',e,z'⟩
    ·exact .inl q
    ·refine .inr ⟨k,c',e,z'.sameBut hs ?_⟩;rintro rfl;exact L (oV hN e1 (I.ok.inj _ _ _ e B▸hi))
  ·by_cases JL:c'=c
   ·subst JL;exact⟨_,fv⟩
   ·obtain⟨w2,z2⟩:=I.cell y c' e;exact⟨w2,z2.sameBut hs JL⟩
  ·obtain⟨e,n,ne,nf,d⟩:=I.pin p hp;refine⟨(hs.2 p.1 ?_).trans e,n,ne,nf,d⟩;intro q;rw[q,JJ]at e;have q':oc=p.2:=Ml.inj e;exact d w' (by rw[<-q'];exact JK)
theorem fL{E:h8->r0->Prop}{Q:Unit->r0->Prop}(I:Inv X pins σ H s)(j:X.N.Nodup)(hi:X.N[i]?=Z x)(hx:Loc X.env.scope x)(r:RelV v u)(h:∀s',Inv X pins (σ.set i (Z v)) H s'->Q () s')(hf:X.fn x=F2∨X.env.scope.names.lookup x=Z .local:=by first|exact .inl rfl|exact .inr rfl|assumption):KN M A (storeName X.env x u) Q E s:=vA I j hi hx r (λs' I' _=>h s' I') hf
theorem Inv.call'{s':r0}(I:Inv X pins σ H s)(ho:s'.os=s.os)(u:Un (frs X.stack) ch H H' s.heap s'.heap)(hok:HOk X.prog X.w H' s'.heap)(z:Rr s'.gens)(j:∀b∈ch,(b∈X.ex∨X.s₀.heap.objs.size<=b)/\b≠X.env.locals/\(∀x c,X.env.cells.lookup x=Z c->c≠b)/\∀p∈X.pn++pins,p.1≠b):Inv X pins σ H' s':=by obtain⟨h',g',d',t',o'⟩:=s';have e:o'=s.os:=ho;subst e;exact I.call (g':=g') (t':=t') (d':=d') u hok z j
end
noncomputable abbrev XK:=h8->Option Wk->Hp->Prop
noncomputable abbrev St:=List (Option V)
noncomputable abbrev VK:=V->Hp->Prop
noncomputable abbrev TE:=St->Hp->VK->Prop
noncomputable abbrev TT:=St->Hp->(Bool->Hp->Prop)->Prop
noncomputable abbrev TA:=St->Hp->(List V->Hp->Prop)->Prop
structure bK where
 nx:St->Hp->Prop
 rt:VK
 bk:St->Hp->Prop:=λ_ _=>False
 ct:St->Hp->Prop:=λ_ _=>False
noncomputable abbrev TS:=bK->St->Hp->Prop
def EP(X:Cx)(pins:List (Wk×Obj))(σ:St)(Q:VK)(u:h8)(s':r0):Prop:=∃v H',Inv X pins σ H' s'/\RelV v u/\Q v H'
def TP(X:Cx)(pins:List (Wk×Obj))(σ:St)(Q:Bool->Hp->Prop)(b:Bool)(s':r0):Prop:=∃H',Inv X pins σ H' s'/\Q b H'
def AP(X:Cx)(pins:List (Wk×Obj))(σ:St)(Q:List V->Hp->Prop)(us:List h8)(s':r0):Prop:=∃vs H',Inv X pins σ H' s'/\Vals vs us/\Q vs H'
def SP(X:Cx)(pins:List (Wk×Obj))(D:bK)(f:Flow)(s':r0):Prop:=
 match f with
 |.next=>∃σ' H',Inv X pins σ' H' s'/\D.nx σ' H'
 |.brk=>∃σ' H',Inv X pins σ' H' s'/\D.bk σ' H'
 |.cont=>∃σ' H',Inv X pins σ' H' s'/\D.ct σ' H'
 |.ret u=>∃v σ' H',Inv X pins σ' H' s'/\RelV v u/\D.rt v H'
def PE(X:Cx)(e:Expr)(t:TE):Prop:=∀(pins:List (Wk×Obj)) (s:r0) (σ:St) (H:Hp) (Q:VK),Inv X pins σ H s->t σ H Q->KN (model X.prog X.w) X.A (eval e X.env) (EP X pins σ Q) X.xe s
def PT(X:Cx)(e:Expr)(t:TT):Prop:=∀(pins:List (Wk×Obj)) (s:r0) (σ:St) (H:Hp) (Q:Bool->Hp->Prop),Inv X pins σ H s->t σ H Q->KN (model X.prog X.w) X.A (isTrue e X.env (eval e X.env)) (TP X pins σ Q) X.xe s
def PW(X:Cx)(e:Expr)(t:TT):Prop:=∀(whole:Sem h8) (pins:List (Wk×Obj)) (s:r0) (σ:St) (H:Hp) (Q:Bool->Hp->Prop),Inv X pins σ H s->t σ H Q->KN (model X.prog X.w) X.A (isTrue e X.env whole) (TP X pins σ Q) X.xe s
theorem PW.pt{X:Cx}{t:TT}(h:PW X e t):PT X e t:=h _
def PA(X:Cx)(es:List Expr)(t:TA):Prop:=∀(pos:Pos) (pins:List (Wk×Obj)) (s:r0) (σ:St) (H:Hp) (Q:List V->Hp->Prop),Inv X pins σ H s->t σ H Q->KN (model X.prog X.w) X.A (spliced (OX pos (KU es X.env))) (AP X pins σ Q) X.xe s
def PS(X:Cx)(st:Stmt)(t:TS):Prop:=∀(pins:List (Wk×Obj)) (s:r0) (σ:St) (H:Hp) (D:bK),Inv X pins σ H s->t D σ H->KN (model X.prog X.w) X.A (exec st X.env) (SP X pins D) X.xe s
def PSs(X:Cx)(st:List Stmt)(t:TS):Prop:=∀(pins:List (Wk×Obj)) (s:r0) (σ:St) (H:Hp) (D:bK),Inv X pins σ H s->t D σ H->KN (model X.prog X.w) X.A (execs st X.env) (SP X pins D) X.xe s
theorem thn{α:Type}{t:Sem α}{Q Q':α->r0->Prop}{E:h8->r0->Prop}(h:KN M A t Q E s)(j:∀a s,Q a s->Q' a s):KN M A t Q' E s:=Md h j λ_ _ x=>x
end
variable{X:Cx}{pos:Pos}{pins:List (Wk×Obj)}{σ:St}{c:Expr}
section
section
variable{X:Cx}
noncomputable def Dq(i:Nat):TE:=λσ H Q=>∃v,σ[i]?=Z (Z v)/\Q v H
noncomputable def tC(v:V):TE:=λ_ H Q=>Q v H
theorem oW(G:X.N[i]?=Z x)(J:Vis X.env.scope x)(hd:(x==("__debug__":Str))=Wj:=by decide)(B:(x==("__classdict__":Str))=Wj:=by decide):PE X (.Name x pos) (Dq i):=by
 intro pins s σ H Q I h;obtain⟨v,e,h⟩:=h;obtain⟨m,L,O⟩:=I.loc;obtain⟨u,r,l⟩:=O i x v G e J;have fin:EP X pins σ Q u s:=⟨v,H,I,r,h⟩
 rcases l with⟨z,hm⟩|⟨z,c,F,j⟩
 ·exact Vx (SW I.ok.kind z L hm fin) hd
 ·rcases z with z|z
  ·exact Vx (Tu I.ok.kind z F j fin) hd
  ·exact Vx (wpAny_loadName_free I.ok.kind z F j fin B) hd
theorem Ds{i j pos}:PE X (.Constant (.int i) j pos) (tC (.int i)):=λ_ _ _ H _ I h=>wpAny_Constant_int ⟨.int i,H,I.tok _,⟨_,rfl⟩,h⟩
theorem Fy{b j pos}:PE X (.Constant (.bool b) j pos) (tC (.bl b)):=λ_ _ _ H _ I h=>Constant_bool ⟨.bl b,H,I,rfl,h⟩
theorem Dt{j pos}:PE X (.Constant .none j pos) (tC .non):=λ_ _ _ H _ I h=>Constant_none ⟨.non,H,I,rfl,h⟩
def Gl(X:Cx)(x:Str):Prop:=X.env.kindOf x=Z .globalImplicit
theorem kX{E Q:h8->r0->Prop}(I:Inv X pins σ H s)(j:Gl X x)(hm:X.mg x=Z u)(h:Q u s)(hd:(x==("__debug__":Str))=Wj:=by decide):KN (model X.prog X.w) X.A (eval (.Name x pos) X.env) Q E s:=R7 I.ok.kind j (Calls.loadGlobal_global (by rw[I.ok.glob];exact I.mod.glob.keeps I.bk) hm h) hd
theorem bL{E Q:h8->r0->Prop}(I:Inv X pins σ H s)(j:Gl X x)(hm:X.mg x=Y)(z:QY x=Z u)(h:Q u s)(B:x≠"__name__":=by decide)(hd:(x==("__debug__":Str))=Wj:=by decide):KN (model X.prog X.w) X.A (eval (.Name x pos) X.env) Q E s:=by obtain⟨mb,h1,h2⟩:=I.mod.blt;exact R7 I.ok.kind j (Calls.loadGlobal_builtin (by rw[I.ok.glob];exact I.mod.glob.keeps I.bk) hm (by rw[I.ok.blt];exact h1.keeps I.bk) ((h2 x B).trans z) h) hd
variable{a b:Expr}{ta tb:TE}{pos:Pos}
variable{tA tB':TT}{rest:List Expr}
noncomputable def GY(t u:TT):TT:=λσ H Q=>t σ H λc H1=>if c=F2 then u σ H1 Q else Q Wj H1
noncomputable def tOr(t u:TT):TT:=λσ H Q=>t σ H λc H1=>if c=F2 then Q F2 H1 else u σ H1 Q
noncomputable def GZ(t:TT):TT:=λσ H Q=>t σ H λc H1=>Q (!c) H1
theorem Bg(j:PT X a tA):PW X (.BoolOp .And [a] pos) tA:=by
 intro wh pins s σ H Q I h;refine isTrue_and (thn (j pins s σ H Q I h) λc s1 e=>?_)
 cases c with
 |true=>exact isTrue_and_nil e
 |false=>exact e
theorem Du(j:PT X a tA):PW X (.BoolOp .Or [a] pos) tA:=by
 intro wh pins s σ H Q I h;refine isTrue_or (thn (j pins s σ H Q I h) λc s1 e=>?_)
 cases c with
 |false=>exact isTrue_or_nil e
 |true=>exact e
theorem Dv(B:PT X a tA)(F:PW X (.BoolOp .And (b::rest) pos) tB'):PW X (.BoolOp .And (a::b::rest) pos) (GY tA tB'):=by
 intro wh pins s σ H Q I h;refine isTrue_and (thn (B pins s σ H _ I h) λc s1 G=>?_);obtain⟨H1,j,z⟩:=G
 cases c with
 |true=>exact F wh pins s1 σ H1 Q j z
 |false=>exact⟨H1,j,z⟩
theorem Fz(B:PT X a tA)(F:PW X (.BoolOp .Or (b::rest) pos) tB'):PW X (.BoolOp .Or (a::b::rest) pos) (tOr tA tB'):=by
 intro wh pins s σ H Q I h;refine isTrue_or (thn (B pins s σ H _ I h) λc s1 G=>?_);obtain⟨H1,j,z⟩:=G
 cases c with
 |true=>exact⟨H1,j,z⟩
 |false=>exact F wh pins s1 σ H1 Q j z
theorem Dw(j:PT X a tA):PT X (.UnaryOp .Not a pos) (GZ tA):=by intro pins s σ H Q I h;exact isTrue_not (j pins s σ H (λc H1=>Q (!c) H1) I h)
noncomputable def FA(ta tb:TE):TE:=λσ H Q=>ta σ H λx H1=>∃c,x=.bl c/\if c=F2 then tb σ H1 Q else Q (.bl Wj) H1
noncomputable def H0(ta tb:TE):TE:=λσ H Q=>ta σ H λx H1=>∃c,x=.bl c/\if c=F2 then Q (.bl F2) H1 else tb σ H1 Q
noncomputable def FB(ta:TE):TE:=λσ H Q=>ta σ H λx H1=>∃c,x=.bl c/\Q (.bl (!c)) H1
theorem Dx{op}{t:TE}(h:PE X a t):PE X (.BoolOp op [a] pos) t:=λpins s σ H Q I hw=>BoolOp_one (h pins s σ H Q I hw)
theorem Dy(B:PE X a ta)(F:PE X (.BoolOp .And (b::rest) pos) tb):PE X (.BoolOp .And (a::b::rest) pos) (FA ta tb):=by
 intro pins s σ H Q I h;refine BoolOp_and (thn (B pins s σ H _ I h) λv s1 G=>?_);obtain⟨x,H1,z,J,j⟩:=G;obtain⟨c,rfl,j⟩:=j
 cases J
 refine P4 ?_
 cases c with
 |true=>exact F pins s1 σ H1 Q z j
 |false=>exact⟨.bl Wj,H1,z,rfl,j⟩
theorem FC(B:PE X a ta)(F:PE X (.BoolOp .Or (b::rest) pos) tb):PE X (.BoolOp .Or (a::b::rest) pos) (H0 ta tb):=by
 intro pins s σ H Q I h;refine BoolOp_or (thn (B pins s σ H _ I h) λv s1 G=>?_);obtain⟨x,H1,z,J,j⟩:=G;obtain⟨c,rfl,j⟩:=j
 cases J
 refine P4 ?_
 cases c with
 |false=>exact F pins s1 σ H1 Q z j
 |true=>exact⟨.bl F2,H1,z,rfl,j⟩
theorem Dz(z:PE X a ta):PE X (.UnaryOp .Not a pos) (FB ta):=by
 intro pins s σ H Q I h;refine UnaryOp_ (thn (z pins s σ H _ I h) λv s1 B=>?_);obtain⟨x,H1,F,G,j⟩:=B;obtain⟨c,rfl,j⟩:=j
 cases G
 exact not_of (P4 ⟨.bl (!c),H1,F,rfl,j⟩)
noncomputable def tIf(t:TT)(ta tb:TE):TE:=λσ H Q=>t σ H λc H1=>if c=F2 then ta σ H1 Q else tb σ H1 Q
theorem yh(B:PT X c tA)(F:PE X a ta)(G:PE X b tb):PE X (.IfExp c a b pos) (tIf tA ta tb):=by
 intro pins s σ H Q I h;refine wpAny_IfExp (thn (B pins s σ H _ I h) λd s1 J=>?_);obtain⟨H1,j,z⟩:=J
 cases d with
 |true=>exact F pins s1 σ H1 Q j z
 |false=>exact G pins s1 σ H1 Q j z
end
end
variable{K:Frag}{tg:Expr}{te:TE}{ta:TA}{op:Pa}{body:List Stmt}
section
def SqL(K:Frag)(H:Hp)(a:Wk)(xs:List V):Prop:=
 Rd H a (.lst xs) ∨
  ∃(o:Obj) (its:Array h8) (n:Nat),K.lookup a=Z o/\o.cls=.type "list"/\o.dict=Y/\o.data=.seq its n/\its.size<=KG/\Vals xs its.toList
def SqT(K:Frag)(H:Hp)(a:Wk)(xs:List V):Prop:=
 Rd H a (.tup xs) ∨
  ∃(o:Obj) (its:Array h8) (n:Nat),K.lookup a=Z o/\o.cls=.type "tuple"/\o.data=.seq its n/\its.size<=KG/\Vals xs its.toList
noncomputable def H8:h8->Option V
 |.none=>Z .non
 |.bool b=>Z (.bl b)
 |.int i _=>Z (.int i)
 |.str x _=>Z (.str x)
 |.bytes b _=>Z (.byt b)
 |.float b _=>Z (.flt b)
 |.ref a=>Z (.ref a)
 |.type n=>Z (.ty n)
 |_=>Y
theorem RelV.abs{x:V}(r:RelV x u):H8 u=Z x:=by
 cases x with
 |non=>cases r;rfl
 |bl _=>cases r;rfl
 |int _=>obtain⟨t,rfl⟩:=r;rfl
 |str _=>obtain⟨t,rfl⟩:=r;rfl
 |byt _=>obtain⟨t,rfl⟩:=r;rfl
 |flt _=>obtain⟨t,rfl⟩:=r;rfl
 |ref _=>cases r;rfl
 |ty _=>cases r;rfl
theorem RelV.inj{x y:V}(r:RelV x u)(q:RelV y u):x=y:=Ml.inj (r.abs.symm.trans q.abs)
theorem Vals.inj:∀{xs ys:List V} {us:List h8},Vals xs us->Vals ys us->xs=ys
 |_,_,_,.nil,.nil=>rfl
 |_,_,_,.cons r t,.cons r' t'=>by rw[r.inj r',Vals.inj t t']
section
variable{X:Cx}{pins:List (Wk×Obj)}{σ:St}{H:Hp}{s:r0}{a:Wk}{xs ys:List V}
theorem SqL.of(h:H a=Z (.lst xs)):SqL K H a xs:=.inl (.inl h)
theorem SqT.of(h:H a=Z (.tup xs)):SqT K H a xs:=.inl (.inl h)
theorem Inv.list(I:Inv X pins σ H s)(h:SqL X.K H a xs):∃its:List h8,Vals xs its/\PlainL s.heap a its.toArray/\xs.length<=KG:=by
 rcases h with h|⟨o,its,n,j,B,hd,hs,F,r⟩
 ·obtain⟨z,its,n,r,e⟩:=h.ok I.hok;exact⟨its,r,⟨_,n,e,rfl,rfl,rfl⟩,z⟩
 ·refine⟨its.toList,r,⟨o,n,I.kIn a o j,B,hd,by simpa using hs⟩,?_⟩
  have e:=r.length;simp only[Mr]at e;lia
theorem Inv.tuple(I:Inv X pins σ H s)(h:SqT X.K H a xs):∃its:List h8,Vals xs its/\IsTup s.heap a its.toArray/\xs.length<=KG:=by
 rcases h with h|⟨o,its,n,j,B,hs,F,r⟩
 ·obtain⟨z,its,r,p⟩:=h.ok I.hok;exact⟨its,r,p,z⟩
 ·refine⟨its.toList,r,⟨o,I.kIn a o j,B,n,by simpa using hs⟩,?_⟩
  have e:=r.length;simp only[Mr]at e;lia
theorem Inv.list_inj(I:Inv X pins σ H s)(h:SqL X.K H a xs)(h':SqL X.K H a ys):xs=ys:=by
 obtain⟨its,r,⟨o,n,e,_,_,d⟩,_⟩:=I.list h;obtain⟨its',r',⟨o',n',e',_,_,d'⟩,_⟩:=I.list h';rw[e]at e';cases e';rw[d]at d'
 injection d' with d1 _
 have:its=its':=by simpa using congrArg Sj d1
 subst this;exact r.inj r'
theorem Inv.tuple_inj(I:Inv X pins σ H s)(h:SqT X.K H a xs)(h':SqT X.K H a ys):xs=ys:=by
 obtain⟨its,r,⟨o,e,_,n,d⟩,_⟩:=I.tuple h;obtain⟨its',r',⟨o',e',_,n',d'⟩,_⟩:=I.tuple h';rw[e]at e';cases e';rw[d]at d'
 injection d' with d1 _
 have:its=its':=by simpa using congrArg Sj d1
 subst this;exact r.inj r'
end
noncomputable abbrev Cx.wish(X:Cx)(E:h8->r0->Prop):Cx:={X with xe:=E}
noncomputable abbrev Cx.nox(X:Cx):Cx:=X.wish λ_ _=>False
theorem Cx.Ok.wish(ok:X.Ok)(E:h8->r0->Prop):(X.wish E).Ok:=⟨ok.mod,ok.kind,ok.glob,ok.blt,ok.above,ok.inj,ok.has,ok.cab,ok.hd,ok.frames,ok.stk,ok.exf,ok.bs,ok.bsz,ok.noex,ok.exfs,ok.funs,ok.frf⟩
theorem Cx.Ok.unwish{E:h8->r0->Prop}(ok:(X.wish E).Ok):X.Ok:=⟨ok.mod,ok.kind,ok.glob,ok.blt,ok.above,ok.inj,ok.has,ok.cab,ok.hd,ok.frames,ok.stk,ok.exf,ok.bs,ok.bsz,ok.noex,ok.exfs,ok.funs,ok.frf⟩
section
variable{X:Cx}{pins:List (Wk×Obj)}{σ:St}{H:Hp}{s:r0}{E:h8->r0->Prop}
theorem Inv.wish(I:Inv X pins σ H s)(E:h8->r0->Prop):Inv (X.wish E) pins σ H s:=⟨I.ok.wish E,I.os,I.bare,I.base,I.loc,I.cell,I.free,I.freeC,I.pin,I.hok,I.len⟩
theorem Inv.unwish(I:Inv (X.wish E) pins σ H s):Inv X pins σ H s:=⟨I.ok.unwish,I.os,I.bare,I.base,I.loc,I.cell,I.free,I.freeC,I.pin,I.hok,I.len⟩
theorem SP.unwish{D:bK}{f:Flow}{s':r0}(h:SP (X.wish E) pins D f s'):SP X pins D f s':=by
 cases f with
 |next=>obtain⟨σ',H',I,q⟩:=h;exact⟨σ',H',I.unwish,q⟩
 |brk=>obtain⟨σ',H',I,q⟩:=h;exact⟨σ',H',I.unwish,q⟩
 |cont=>obtain⟨σ',H',I,q⟩:=h;exact⟨σ',H',I.unwish,q⟩
 |ret u=>obtain⟨v,σ',H',I,r,q⟩:=h;exact⟨v,σ',H',I.unwish,r,q⟩
theorem PSs.nox{st:List Stmt}{t:TS}(h:PSs X.nox st t):PSs X st t:=λpins s σ H D I hw=>Md (h pins s σ H D (I.wish _) hw) (λ_ _ q=>q.unwish) λ_ _ z=>False.elim z
end
section
variable{X:Cx}{st:Stmt}{rest:List Stmt}{t u:TS}{e:Expr}{te:TE}{pos:Pos}
noncomputable def tN:TS:=λD σ H=>D.nx σ H
noncomputable def DA(t u:TS):TS:=λD σ H=>t {D with nx:=u D} σ H
theorem Bh:PSs X [] tN:=λ_ _ σ H _ I h=>SG ⟨σ,H,I,h⟩
theorem yi(h1:PS X st t)(h2:PSs X rest u):PSs X (st::rest) (DA t u):=by
 intro pins s σ H D I h;refine wpAny_execs_cons (thn (h1 pins s σ H {D with nx:=u D} I h) λf s1 q=>?_)
 cases f with
 |next=>obtain⟨σ',H',I',q⟩:=q;exact h2 pins s1 σ' H' D I' q
 |ret v=>exact q
 |brk=>exact q
 |cont=>exact q
noncomputable def vB:TS:=λD σ H=>D.bk σ H
noncomputable def AB:TS:=λD σ H=>D.ct σ H
theorem Bi:PS X (.Pass pos) tN:=λ_ _ σ H _ I h=>wpAny_Pass ⟨σ,H,I,h⟩
theorem yj:PS X (.Break pos) vB:=λ_ _ σ H _ I h=>wpAny_Break ⟨σ,H,I,h⟩
theorem rE:PS X (.Continue pos) AB:=λ_ _ σ H _ I h=>wpAny_Continue ⟨σ,H,I,h⟩
theorem Inv.quiet(I:Inv X pins σ H s):interactive X.env=Wj:=by simp[interactive,I.ok.kind]
noncomputable def AC(te:TE):TS:=λD σ H=>te σ H λ_ H1=>D.nx σ H1
theorem Bj(he:PE X e te)(hs:Pk e Y pos.line X.env=pure Wj:=by rfl):PS X (.Expr e pos) (AC te):=by intro pins s σ H D I h;exact wpAny_Expr_any (thn (he pins s σ H _ I h) λv s1 j=>(by obtain⟨x,H1,z,F,B⟩:=j;exact⟨σ,H1,z,B⟩)) I.quiet hs
noncomputable def DB(te:TE):TS:=λD σ H=>te σ H D.rt
theorem DC(he:PE X e te):PS X (.Return (Z e) pos) (DB te):=by intro pins s σ H D I h;exact wpAny_Return_some (thn (he pins s σ H _ I h) λv s1 j=>(by obtain⟨x,H1,z,B,F⟩:=j;exact⟨x,σ,H1,z,B,F⟩))
noncomputable def DD(c:TT)(t u:TS):TS:=λD σ H=>c σ H λb H1=>if b=F2 then t D σ H1 else u D σ H1
theorem FE{a b:List Stmt}{tc:TT}(B:PT X c tc)(F:PSs X a t)(G:PSs X b u):PS X (.If c a b pos) (DD tc t u):=by
 intro pins s σ H D I h;refine wpAny_If (thn (B pins s σ H _ I h) λd s1 J=>?_);obtain⟨H1,j,z⟩:=J
 cases d with
 |true=>exact F pins s1 σ H1 D j z
 |false=>exact G pins s1 σ H1 D j z
end
noncomputable abbrev TG:=V->St->Hp->(St->Hp->Prop)->Prop
noncomputable abbrev TGs:=List V->St->Hp->(St->Hp->Prop)->Prop
def PG(X:Cx)(target:Expr)(t:TG):Prop:=
 ∀(pins:List (Wk×Obj)) (s:r0) (σ:St) (H:Hp) (v:V) (u:h8) (Q:St->Hp->Prop),Inv X pins σ H s->RelV v u->t v σ H Q->
  KN (model X.prog X.w) X.A (assign target X.env u) (λ_ s'=>∃σ' H',Inv X pins σ' H' s'/\Q σ' H') X.xe s
def PGs(X:Cx)(ts:List Expr)(t:TGs):Prop:=
 ∀(pins:List (Wk×Obj)) (s:r0) (σ:St) (H:Hp) (vs:List V) (us:List h8) (Q:St->Hp->Prop),Inv X pins σ H s->Vals vs us->t vs σ H Q->
  KN (model X.prog X.w) X.A (RB ((Mj ts X.env).map (·.2)) us) (λ_ s'=>∃σ' H',Inv X pins σ' H' s'/\Q σ' H') X.xe s
noncomputable abbrev kY:=V->V->V->Hp->(Hp->Prop)->Prop
def PSet(X:Cx)(t:kY):Prop:=
 ∀(pins:List (Wk×Obj)) (s:r0) (σ:St) (H:Hp) (o i v:V) (ov iv u:h8) (Q:Hp->Prop),Inv X pins σ H s->RelV o ov->RelV i iv->RelV v u->t o i v H Q->
  KN (model X.prog X.w) X.A (Tp ov iv u) (λ_ s'=>∃H',Inv X pins σ H' s'/\Q H') X.xe s
noncomputable abbrev TIp:=V->V->Hp->VK->Prop
def PIp(X:Cx)(op:Pa)(t:TIp):Prop:=
 ∀(pins:List (Wk×Obj)) (s:r0) (σ:St) (H:Hp) (x y:V) (v u:h8) (Q:VK),Inv X pins σ H s->RelV x v->RelV y u->t x y H Q->
  KN (model X.prog X.w) X.A (NW op v u) (EP X pins σ Q) X.xe s
section
variable{X:Cx}{pos:Pos}
noncomputable def jy(i:Nat):TG:=λv σ H Q=>Q (σ.set i (Z v)) H
theorem rQ(j:X.N.Nodup)(hi:X.N[i]?=Z x)(hx:Loc X.env.scope x)(hf:X.fn x=F2∨X.env.scope.names.lookup x=Z .local:=by first|exact .inl rfl|exact .inr rfl|assumption):PG X (.Name x pos) (jy i):=by intro pins s σ H v u Q I r h;exact wpAny_assign_Name (fL I j hi hx r (λs' I'=>⟨_,H,I',h⟩) hf)
noncomputable def H9:TGs:=λvs σ H Q=>vs=[]/\Q σ H
noncomputable def FF(t:TG)(u:TGs):TGs:=λvs σ H Q=>∃v r,vs=v::r/\t v σ H λσ' H'=>u r σ' H' Q
theorem Bk:PGs X [] H9:=by
 intro pins s σ H vs us Q I r h;obtain⟨e,h⟩:=h;subst e
 cases r
 exact Um ⟨σ,H,I,h⟩
theorem yk{es:List Expr}{t:TG}{u:TGs}(h1:PG X e t)(h2:PGs X es u)(hs:(Mj (e::es) X.env).map (·.2)=assign e X.env::(Mj es X.env).map (·.2):=by rfl):PGs X (e::es) (FF t u):=by
 intro pins s σ H vs us Q I r h;obtain⟨v,vr,e1,h⟩:=h;subst e1
 cases r with
 |cons r rr=>rw[hs];refine R8 (thn (h1 pins s σ H _ _ _ I r h) λ_ s1 j=>?_);obtain⟨σ1,H1,z,B⟩:=j;exact h2 pins s1 σ1 H1 _ _ Q z rr B
noncomputable def Ha(K:Frag)(n:Nat)(t:TGs):TG:=λv σ H Q=>∃a xs,v=.ref a/\SqT K H a xs/\xs.length=n/\t xs σ H Q
theorem DE{es:List Expr}{k:Nat}{t:TGs}{n:Nat}(z:X.calm=F2)(h:PGs X es t)(B:(Mj es X.env).length=n:=by rfl)(j:(Mj es X.env).findIdx? (·.1)=Y:=by rfl):PG X (.Tuple es k pos) (Ha X.K n t):=by
 intro pins s σ H v u Q I r hw;obtain⟨a,xs,e1,F,G,hw⟩:=hw;subst e1
 cases r
 obtain⟨its,rv,J,O⟩:=I.tuple F;refine assign_Tuple_tuple (I.ok.hd z) J (by simp[B,<-G,rv.length]) j λh' hx=>?_
 have L:Inv X pins σ H {s with heap:=h'}:=I.kept (t':=s.toks) λb o e=>hx b o (Lg (B1 e)) e
 exact h pins _ σ H xs _ Q L (by simpa using rv) hw
noncomputable def Hb(to ti:TE)(t:kY):TG:=λv σ H Q=>to σ H λo H1=>ti σ H1 λi H2=>t o i v H2 λH3=>Q σ H3
theorem DG {o i:Expr}{to ti:TE}{t:kY}(ho:PE X o to)(hi:PE X i ti)(hs:PSet X t)(z:∀v,assign (.Subscript o i pos) X.env v=(do
   let ov <-holding [v] (eval o X.env)
   let iv <-holding [v,ov] (eval i X.env)
   Rt pos
   holding [v,ov,iv] (Tp ov iv v)
   release [v,ov,iv] []):=by intro _;rfl):PG X (.Subscript o i pos) (Hb to ti t):=by
 intro pins s σ H v u Q I r h;rw[z];refine gV (LH (thn (ho pins s σ H _ I h) λov s1 j=>?_));obtain⟨x,H1,B,F,G⟩:=j;refine gV (LH (thn (hi pins s1 σ H1 _ B G) λiv s2 j=>?_));obtain⟨y,H2,J,L,O⟩:=j;refine gV (Ot (gV (LH (thn (hs pins s2 σ H2 x y v ov iv u _ J F L r O) λ_ s3 j=>?_))));obtain⟨U,Fn,fv⟩:=j;exact wpAny_release ⟨σ,U,Fn,fv⟩
noncomputable def oX(te:TE)(g:TG):TS:=λD σ H=>te σ H λx H1=>g x σ H1 D.nx
theorem oY{g:TG}(he:PE X e te)(j:PG X tg g)(hs:PF [tg] e pos.line X.env=pure Wj:=by rfl)(hw:Ou [tg] e X.env=pure Y:=by rfl)(h1:(Mj [tg] X.env).map (·.2)=[assign tg X.env]:=by rfl):PS X (.Assign [tg] e pos) (oX te g):=by intro pins s σ H D I h;refine wpAny_Assign_stores (thn (he pins s σ H _ I h) λv s1 g9=>?_) hs hw;obtain⟨x,H1,z,B,F⟩:=g9;rw[h1];exact thn (j pins s1 σ H1 x v _ z B F) λ_ s2 q=>q
noncomputable def DH(i j:Nat)(ta:TA):TS:=λD σ H=>ta σ H λvs H1=>∃v w,vs=[v,w]/\D.nx ((σ.set i (Z v)).set j (Z w)) H1
theorem DI{j:Nat}{y:Str}{a b:Expr}{px py pt:Pos}{kt B z}(Fn:X.calm=F2)(L:X.N.Nodup)(hi:X.N[i]?=Z x)(fv:X.N[j]?=Z y)(F:i≠j)(hx:X.env.scope.names.lookup x=Z .local)(O:X.env.scope.names.lookup y=Z .local)(ha:PA X [a,b] ta)(hw:Ou [.Tuple [.Name x px,.Name y py] kt pt] (.Tuple [a,b] B z) X.env=pure (Z [x,y]))(hs:PF [.Tuple [.Name x px,.Name y py] kt pt] (.Tuple [a,b] B z) pos.line X.env=pure Wj:=by rfl):
 PS X (.Assign [.Tuple [.Name x px,.Name y py] kt pt] (.Tuple [a,b] B z) pos) (DH i j ta):=by
 intro pins s σ H D I h;rw[exec_Assign_arm];refine gV (Ot ?_);rw[hs];refine gV (tv ?_);rw[if_neg (by decide)]
 refine gV (Tuple_ (thn (ha _ pins s σ H _ I h) λus s1 g9=>?_));obtain⟨vs,H1,I1,r1,G⟩:=g9;obtain⟨v,w,e1,G⟩:=G;subst e1;obtain⟨u1,u2,rfl,rv,rw'⟩:∃u1 u2,us=[u1,u2]/\RelV v u1/\RelV w u2:=by
  cases r1 with
  |cons p q=>
   cases q with
   |cons p' q'=>
    cases q'
    exact⟨_,_,rfl,p,p'⟩
 refine LN ?_ (by show 2<=KG;decide)
 have I2:Inv X pins σ H1 {s1 with heap:=s1.heap.push {cls:=.type "tuple",data:=.seq [u1,u2].toArray}}:=I1.kept (t':=s1.toks) λb o e=>hQ _ e
 rw[hw];refine gV (tv ?_);show KN (model X.prog X.w) X.A (do rule "assign.swapped-stores";let items <-Vc (.ref s1.heap.objs.size) 2 Y;RB [λv=>Vy X.env y v,λv=>Vy X.env x v] items.reverse;pure Flow.next) _ _ _
 refine gV (Mw (gV (unpackItems_tuple (items:=#[u1,u2]) (I.ok.hd Fn) (Qk s1.heap _) λh' J=>?_)));have I3:=I2.kept (h':=h') (t':=s1.toks) λb o e=>J b o (Lg (B1 e)) e;show KN _ _ (RB [λv=>Vy X.env y v,λv=>Vy X.env x v] [u2,u1]>>=λ_=>pure Flow.next) _ _ _;refine gV (R8 (wpAny_bindName (fL I3 L fv (.inl O) rw' (λs2 I4=>?_) (.inr O))));refine R8 (wpAny_bindName (fL I4 L hi (.inl hx) rv (λs3 U=>Um (tv ?_)) (.inr hx)));rw[List.set_comm _ _ (Ne.symm F)]at U;exact⟨_,H1,U,G⟩
noncomputable def Hc(i:Nat)(te:TE)(ti:TIp):TS:=λD σ H=>∃x,σ[i]?=Z (Z x)/\te σ H λy H1=>ti x y H1 λz H2=>D.nx (σ.set i (Z z)) H2
theorem DJ{ti:TIp}{pos':Pos}(G:X.N.Nodup)(hi:X.N[i]?=Z x)(hx:Loc X.env.scope x)(he:PE X e te)(ho:PIp X op ti)(hf:X.fn x=F2∨X.env.scope.names.lookup x=Z .local:=by first|exact .inl rfl|exact .inr rfl|assumption):
 PS X (.AugAssign (.Name x pos') op e pos) (Hc i te ti):=by
 intro pins s σ H D I h;obtain⟨v,e1,h⟩:=h;obtain⟨m,J,L⟩:=I.loc;have vis:Vis X.env.scope x:=by rcases hx with k|k;exact .inl k;exact .inr (.inl k)
 obtain⟨u,r,l⟩:=L i x v hi e1 vis;refine wpAny_AugAssign_Name ?_;have go:KN (model X.prog X.w) X.A (eval e X.env) (λw s₂=>KN (model X.prog X.w) X.A (NW op u w) (λr s₃=>KN (model X.prog X.w) X.A (storeName X.env x r) (λ_=>SP X pins D .next) X.xe s₃) X.xe s₂) X.xe s:=by refine thn (he pins s σ H _ I h) λw s1 F=>?_;obtain⟨y,H1,O,U,Fn⟩:=F;refine thn (ho pins s1 σ H1 v y u w _ O r U Fn) λz s2 F=>?_;obtain⟨zv,H2,fv,r2,q2⟩:=F;exact fL fv G hi hx r2 (λs3 I3=>⟨_,H2,I3,q2⟩) hf
 rcases l with⟨j,hm⟩|⟨j,c,hc,B⟩
 ·exact SW I.ok.kind j J hm go
 ·rcases j with j|j
  ·exact Tu I.ok.kind j hc B go
  ·rcases hx with k|k
   ·have:X.env.scope.names.lookup x=Z .free:=j;rw[k]at this;cases this
   ·have:X.env.scope.names.lookup x=Z .free:=j;rw[k]at this;cases this
noncomputable def FG(to ti te:TE)(tget:V->V->Hp->VK->Prop)(tip:TIp)(tset:kY):TS:=λD σ H=>to σ H λo H1=>ti σ H1 λi H2=>tget o i H2 λx H3=>te σ H3 λy H4=>tip x y H4 λz H5=>tset o i z H5 λH6=>D.nx σ H6
def DK(X:Cx)(t:V->V->Hp->VK->Prop):Prop:=
 ∀(pins:List (Wk×Obj)) (s:r0) (σ:St) (H:Hp) (o i:V) (ov iv:h8) (Q:VK),Inv X pins σ H s->RelV o ov->RelV i iv->t o i H Q->
  KN (model X.prog X.w) X.A (Ru ov iv) (EP X pins σ Q) X.xe s
theorem Bl{o i:Expr}{to ti:TE}{tget:V->V->Hp->VK->Prop}{tip:TIp}{tset:kY}{tpos:Pos}(ho:PE X o to)(hi:PE X i ti)(J:DK X tget)(he:PE X e te)(L:PIp X op tip)(hs:PSet X tset)(O:∀ov iv new,augStore i ov iv new=(do holding [new,ov,iv] (Tp ov iv new);release [new,ov,iv] [];pure .next):=by intros;rfl):PS X (.AugAssign (.Subscript o i tpos) op e pos) (FG to ti te tget tip tset):=by intro pins s σ H D I h;refine wpAny_AugAssign_SubscriptAny (thn (ho pins s σ H _ I h) λov s1 g9=>?_) O;obtain⟨z,H1,U,B,Fn⟩:=g9;refine thn (hi pins s1 σ H1 _ U Fn) λiv s2 j=>?_;obtain⟨F,H2,fv,G,q2⟩:=j;refine thn (J pins s2 σ H2 z F ov iv _ fv B G q2) λold s3 j=>?_;obtain⟨x3,H3,I3,r3,q3⟩:=j;refine thn (he pins s3 σ H3 _ I3 q3) λv s4 j=>?_;obtain⟨x4,H4,I4,r4,q4⟩:=j;refine thn (L pins s4 σ H4 x3 x4 old v _ I4 r3 r4 q4) λnew s5 j=>?_;obtain⟨x5,H5,I5,r5,q5⟩:=j;exact thn (hs pins s5 σ H5 z F x5 ov iv new _ I5 B G r5 q5) λ_ s6 j=>(by obtain⟨H6,I6,q6⟩:=j;exact⟨σ,H6,I6,q6⟩)
end
section
variable{X:Cx}{pos:Pos}
noncomputable def vC(c:TT)(tb:TS):TS:=λD σ H=>∃W:Nat->St->Hp->Prop,(∃m,W m σ H)/\∀m σ H,W m σ H->
 c σ H λb H1=>if b=F2 then ∃N:St->Hp->Prop,(∀σ' H',N σ' H'->∃m',m'<m/\W m' σ' H')/\tb {D with nx:=N,ct:=N,bk:=D.nx} σ H1 else D.nx σ H1
theorem ym{tc:TT}{tb:TS}(L:PassesOwn (model X.prog X.w) X.A X.env X.xe)(Fn:PT X c tc)(fv:PSs X body tb):PS X (.While c body [] pos) (vC tc tb):=by
 intro pins s σ H D I h;obtain⟨W,⟨m0,w0⟩,turn⟩:=h;refine wpAny_While (codeAny_whileLoop (λn s'=>∃σ' H',Inv X pins σ' H' s'/\W n σ' H') ?_ m0 ⟨σ,H,I,w0⟩);rintro n s1 ⟨σ1,H1,I1,w1⟩;refine Og L (thn (Fn pins s1 σ1 H1 _ I1 (turn n σ1 H1 w1)) λb s2 g9=>?_);obtain⟨H2,O,z⟩:=g9
 cases b with
 |true=>
  obtain⟨N,U,z⟩:=z;rw[if_pos rfl];refine Og L (thn (fv pins s2 σ1 H2 _ O z) λf s3 B=>?_)
  cases f with
  |next=>obtain⟨σ3,j,F,G⟩:=B;obtain⟨m',hm,J⟩:=U σ3 j G;exact⟨m',hm,σ3,j,F,J⟩
  |cont=>obtain⟨σ3,j,F,G⟩:=B;obtain⟨m',hm,J⟩:=U σ3 j G;exact⟨m',hm,σ3,j,F,J⟩
  |brk=>exact B
  |ret v=>exact B
 |false=>rw[if_neg B2];exact SG ⟨σ1,H2,O,z⟩
end
structure It where
 go:Nat->Hp->Prop
 yld:Nat->Hp->V->Hp->Prop
 stop:Nat->Hp->Prop
def cM(X:Cx)(pins:List (Wk×Obj))(H:Hp)(b:Wk):Prop:=H b=Y/\b≠X.env.locals/\b∉X.fs/\(b∈X.ex∨X.s₀.heap.objs.size<=b)/\(∀x c,X.env.cells.lookup x=Z c->c≠b)/\∀p∈X.pn++pins,p.1≠b
theorem Inv.fpOk{H':Hp}(I:Inv X pins σ H s)(j:s.heap.objs.size<=b)(B:H' b=Y):cM X pins H' b:=by
 refine⟨B,LL (Li I.lt j),I.nofs j,.inr (LR I.sz j),λx c e z=>?_,λp F z=>?_⟩
 ·obtain⟨v,q⟩:=I.cell x c e;exact absurd (Li q.lt (by rw[z];exact j)) (LZ _)
 ·exact absurd (Li (B1 (I.pin p F).1) (by rw[z];exact j)) (LZ _)
structure fM(P:L4)(w:Lq)(K:Frag)(tg:Expr)(J:It)(fp:List Wk)(it:Wk)(tn:Nat->Heap->Prop):Prop where
 mem:it∈fp
 obj:∀i h,tn i h->∀b∈fp,∃o,h.get? b=Z o/\∀v,o.data≠.cell v
 keep:∀i h h',tn i h->(∀b∈fp,∀o,h.get? b=Z o->h'.get? b=Z o)->tn i h'
 item:∀(X:Cx),X.prog=P->X.w=w->X.K=K->X.calm=F2->∀(i:Nat) (pins:List (Wk×Obj)) (s:r0) (σ:St) (H:Hp) (E:h8->r0->Prop),Inv X pins σ H s->(∀b∈fp,cM X pins H b)->tn i s.heap->J.go i H->
  KN (model P w) X.A (MZ (.ref it)) (λr s1=>∃u,r=Z u /\
   KN (model P w) X.A (QM tg (.ref it) u) (λ_ s2=>∃x H',Inv X pins σ H' s2/\RelV x u/\J.yld i H x H'/\tn (i+1) s2.heap/\∀b∈fp,H' b=Y) E s1) E s
 done:∀(X:Cx),X.prog=P->X.w=w->X.K=K->X.calm=F2->∀(i:Nat) (pins:List (Wk×Obj)) (s:r0) (σ:St) (H:Hp) (E:h8->r0->Prop),Inv X pins σ H s->(∀b∈fp,cM X pins H b)->tn i s.heap->J.stop i H->
  KN (model P w) X.A (MZ (.ref it)) (λr s1=>r=Y/\Inv X pins σ H s1) E s
 self:∀(A:Lv) (i:Nat) (s:r0) (Q:h8->r0->Prop) (E:h8->r0->Prop),tn i s.heap->Q (.ref it) s->KN (model P w) A (SX (.ref it)) Q E s
noncomputable abbrev TI:=St->Hp->(It->Hp->Prop)->Prop
def PIE(X:Cx)(pins:List (Wk×Obj))(σ:St)(tg:Expr)(R:It->Hp->Prop)(itv:h8)(s2:r0):Prop:=∃(it:Wk) (fp:List Wk) (tn:Nat->Heap->Prop) (J:It) (H':Hp),itv=.ref it/\Inv X pins σ H' s2/\fM X.prog X.w X.K tg J fp it tn/\tn 0 s2.heap/\(∀b∈fp,cM X pins H' b)/\R J H'
def PI(X:Cx)(tg iter:Expr)(wi:TI):Prop:=
 ∀(pins:List (Wk×Obj)) (s:r0) (σ:St) (H:Hp) (R:It->Hp->Prop),Inv X pins σ H s->wi σ H R->
  KN (model X.prog X.w) X.A (eval iter X.env) (λv s1=>KN (model X.prog X.w) X.A (SX v) (PIE X pins σ tg R) X.xe s1) X.xe s
theorem nV{E:h8->r0->Prop}{it:Wk}{o:Obj}{n:String}{vs:Array h8}{Q:Unit->r0->Prop}(ho:s.heap.get? it=Z o)(z:o.cls=.type n)(hd:o.data=.fields vs)(B:["enumerate","zip","dict_itemiterator","dict_reverseitemiterator","odict_iterator","itertools.zip_longest","itertools.pairwise"].contains n=Wj)(j:Q () s):KN M A (QM tg (.ref it) u) Q E s:=by
 unfold QM
 cases tg<;>first
  |exact tv j
  | (cases u<;>first
      |exact tv j
      | (refine gV (Vz ho ?_)
         rw[z,hd];show KN M A (if(["enumerate","zip","dict_itemiterator","dict_reverseitemiterator","odict_iterator","itertools.zip_longest","itertools.pairwise"].contains n&&vs[0]?==Z (MQ _))=F2 then _ else _) Q E s
         rw[if_neg (by intro h;rw[B,Bool.false_and]at h;cases h)]
         exact tv j))
noncomputable def Itl(K:Frag)(a:Wk):It:=⟨λi H=>∃xs x,SqL K H a xs/\xs[i]?=Z x,λi H x H'=>H'=H/\∀xs,SqL K H a xs->xs[i]?=Z x,λi H=>∃xs,SqL K H a xs/\xs.length<=i⟩
noncomputable def Itt(K:Frag)(a:Wk):It:=⟨λi H=>∃xs x,SqT K H a xs/\xs[i]?=Z x,λi H x H'=>H'=H/\∀xs,SqT K H a xs->xs[i]?=Z x,λi H=>∃xs,SqT K H a xs/\xs.length<=i⟩
noncomputable def Itr(lo:Int)(n:Nat):It:=⟨λi _=>i<n,λi H x H'=>H'=H/\x=.int (lo+i),λi _=>n<=i⟩
theorem vD(a it:Wk):fM P w K tg (Itl K a) [it] it (λi h=>h.IsListIter it a i) where
 mem:=by simp
 obj:=λi h st b j=>by
  have e:b=it:=by simpa using j
  subst e;obtain⟨o,e,c,d⟩:=st;exact⟨o,e,λv z=>by rw[d]at z;cases z⟩
 keep:=λi h h' st k=>st.at λo e=>k it (by simp) o e
 item:=by
  intro X F hw G O i pins s σ H E I hf st hg;subst F hw G;obtain⟨xs,x,B,hx⟩:=hg;obtain⟨its,rv,p,U⟩:=I.list B;obtain⟨u,Fn,ru⟩:=rv.get hx;obtain⟨f0,f1,f2,J,f4,L⟩:=hf it (by simp)
  refine Sk st p.isList (x:=u) (by simpa using Fn) λh' st' sb=>?_
  have fv:Inv X pins σ H {s with heap:=h'}:=I.turned (t':=s.toks) (λb o j e=>(sb.2 b j).trans e) f0 f1 J f4 L
  obtain⟨o,e,c,d⟩:=id st';exact⟨u,rfl,nV (s:={s with heap:=h'}) e c d (by decide) ⟨x,H,fv,ru,⟨rfl,λys hy=>by rw[I.list_inj hy B];exact hx⟩,st',λb j=>(hf b j).1⟩⟩
 done:=by
  intro X F hw G O i pins s σ H E I hf st hg;subst F hw G;obtain⟨xs,B,hx⟩:=hg;obtain⟨its,rv,p,U⟩:=I.list B;obtain⟨f0,f1,f2,J,f4,L⟩:=hf it (by simp)
  have hl:=rv.length;exact SO (I.ok.hd O) st p.isList (by simp;lia) λh' eb=>⟨rfl,I.turned (t':=s.toks) (λb o j e=>eb b o j e) f0 f1 J f4 L⟩
 self:=λ_ _ _ _ _ st h=>wpAny_pyIter_listiter st h
theorem tO(a it:Wk):fM P w K tg (Itt K a) [it] it (λi h=>h.IsTupleIter it a i) where
 mem:=by simp
 obj:=λi h st b j=>by
  have e:b=it:=by simpa using j
  subst e;obtain⟨o,e,c,d⟩:=st;exact⟨o,e,λv z=>by rw[d]at z;cases z⟩
 keep:=λi h h' st k=>st.at λo e=>k it (by simp) o e
 item:=by
  intro X F hw G O i pins s σ H E I hf st hg;subst F hw G;obtain⟨xs,x,B,hx⟩:=hg;obtain⟨its,rv,p,U⟩:=I.tuple B;obtain⟨u,Fn,ru⟩:=rv.get hx;obtain⟨f0,f1,f2,J,f4,L⟩:=hf it (by simp)
  refine wpAny_pyNext_tuple_item st (show s.heap.IsTuple a its.toArray from p) (x:=u) (by simpa using Fn) λh' st' sb=>?_
  have fv:Inv X pins σ H {s with heap:=h'}:=I.turned (t':=s.toks) (λb o j e=>(sb.2 b j).trans e) f0 f1 J f4 L
  obtain⟨o,e,c,d⟩:=id st';exact⟨u,rfl,nV (s:={s with heap:=h'}) e c d (by decide) ⟨x,H,fv,ru,⟨rfl,λys hy=>by rw[I.tuple_inj hy B];exact hx⟩,st',λb j=>(hf b j).1⟩⟩
 done:=by
  intro X F hw G O i pins s σ H E I hf st hg;subst F hw G;obtain⟨xs,B,hx⟩:=hg;obtain⟨its,rv,p,U⟩:=I.tuple B;obtain⟨f0,f1,f2,J,f4,L⟩:=hf it (by simp)
  have hl:=rv.length;exact wpAny_pyNext_tuple_end (I.ok.hd O) st (show s.heap.IsTuple a its.toArray from p) (by simp;lia) λh' eb=>⟨rfl,I.turned (t':=s.toks) (λb o j e=>eb b o j e) f0 f1 J f4 L⟩
 self:=λ_ _ _ _ _ st h=>wpAny_pyIter_tupleiter st h
theorem tP(it:Wk)(lo:Int)(n:Nat):fM P w K tg (Itr lo n) [it] it (λi h=>IsRangeIter h it (lo+(i:Nat)*1) ((n:Int)-(i:Nat)) 1) where
 mem:=by simp
 obj:=λi h st b j=>by
  have e:b=it:=by simpa using j
  subst e;exact⟨_,st,λv z=>by
   have z':Vd _=Data.cell v:=z
   cases z'⟩
 keep:=λi h h' st k=>k it (by simp) _ st
 item:=by
  intro X B hw F G i pins s σ H E I hf st hg;subst B hw F;obtain⟨f0,f1,f2,J,f4,L⟩:=hf it (by simp)
  have W:=Walks.range (prog:=X.prog) (w:=X.w) (I.ok.hd G) it lo 1 n;refine W.item i s _ _ hg st λv h' tk O st' kk=>?_;obtain⟨t,rfl⟩:=O;have U:Inv X pins σ H {s with heap:=h',toks:=tk}:=I.turned (λb o j e=>kk b o (by simpa using j) e) f0 f1 J f4 L
  refine⟨_,rfl,nV (s:={s with heap:=h',toks:=tk}) (n:="range_iterator") st' rfl rfl (by decide) ⟨.int (lo+i),H,U,⟨t,?_⟩,⟨rfl,rfl⟩,st',λb j=>(hf b j).1⟩⟩
  rw[Int.mul_one]
 done:=by
  intro X B hw F G i pins s σ H E I hf st hg;subst B hw F;obtain⟨f0,f1,f2,J,f4,L⟩:=hf it (by simp)
  exact wpAny_pyNext_range_end (I.ok.hd G) st (by have:n<=i:=hg;lia) λh' eb=>⟨rfl,I.turned (t':=s.toks) (λb o j e=>eb b o j e) f0 f1 J f4 L⟩
 self:=λ_ _ _ _ _ st h=>wpAny_pyIter_rangeiter st h
end
variable{fp:List Wk}
section
section
variable{X:Cx}{tg:Expr}
theorem oZ{R:It->Hp->Prop}{E:h8->r0->Prop}{lo hi:Int}{t u v:Tok}{tk:Nat}(I:Inv X pins σ H s)(h1:-(2^62)<=lo)(h2:lo<2^62)(z:-(2^62)<=hi)(B:hi<2^62)(q:R (Itr lo (hi-lo).toNat) H):KN (model X.prog X.w) X.A (SX (.ref s.heap.objs.size)) (PIE X pins σ tg R) E {s with heap:=s.heap.push {cls:=.type "range",data:=.fields #[.int lo t,.int hi u,.int 1 v]},toks:=tk}:=by
 refine wpAny_pyIter_range (IsRange.new ..) (small_one h1 h2 z B) ?_;have j:Inv X pins σ H {s with heap:=s.heap.push {cls:=.type "range",data:=.fields #[.int lo t,.int hi u,.int 1 v]},toks:=tk}:=I.kept λb o e=>hQ _ e
 refine⟨(s.heap.push {cls:=.type "range",data:=.fields #[.int lo t,.int hi u,.int 1 v]}).objs.size,[(s.heap.push {cls:=.type "range",data:=.fields #[.int lo t,.int hi u,.int 1 v]}).objs.size],_,_,H,rfl,
  j.kept (t':=tk) λb o e=>hQ _ e,tP _ lo (hi-lo).toNat,?_,λb F=>?_,q⟩
 ·have e1:lo+((0:Nat):Int)*1=lo:=by simp
  have e2:(((hi-lo).toNat:Nat):Int)-((0:Nat):Int)=Nw lo hi 1:=by rw[rangeSize_one];split<;>lia
  show IsRangeIter _ _ (lo+((0:Nat):Int)*1) ((((hi-lo).toNat:Nat):Int)-((0:Nat):Int)) 1;rw[e1,e2];exact A2 _ rfl
 ·have e:b=(s.heap.push {cls:=.type "range",data:=.fields #[.int lo t,.int hi u,.int 1 v]}).objs.size:=by simpa using F
  subst e;exact j.fpOk (KO _) (j.hok.fresh (KO _))
noncomputable def FH(ta:TA):TI:=λσ H R=>ta σ H λvs H1=>∃j:Int,vs=[.int j] /\ -(2^62)<=j/\j<2^62/\R (Itr 0 j.toNat) H1
noncomputable def FI(ta:TA):TI:=λσ H R=>ta σ H λvs H1=>∃i j:Int,vs=[.int i,.int j]/\(-(2^62)<=i/\i<2^62 /\ -(2^62)<=j/\j<2^62)/\R (Itr i (j-i).toNat) H1
theorem vE{a:Expr}{p:Pos}(B:Gl X "range")(hm:X.mg "range"=Y)(F:PA X [a] ta)(hs:KU [a] X.env=[(Wj,eval a X.env)]:=by rfl):PI X tg (.Call (.Name "range" p) [a] [] pos) (FH ta):=by
 intro pins s σ H R I h;refine Call_ (bL I B hm U1 (Ln (thn (F pos pins s σ H _ I h) λus s1 g9=>?_) hs rfl));obtain⟨vs,H1,G,J,z⟩:=g9;obtain⟨j,e,z,L,q⟩:=z;subst e
 cases J with
 |cons r rr=>
  cases rr
  obtain⟨t,rfl⟩:=r;exact call_range_1 (oZ G ∅ ∅ z L (by simpa using q))
theorem vF{a b:Expr}{p:Pos}(F:Gl X "range")(hm:X.mg "range"=Y)(G:PA X [a,b] ta)(hs:KU [a,b] X.env=[(Wj,eval a X.env),(Wj,eval b X.env)]:=by rfl)(z:KU [b] X.env=[(Wj,eval b X.env)]:=by rfl):
 PI X tg (.Call (.Name "range" p) [a,b] [] pos) (FI ta):=by
 intro pins s σ H R I h;refine Call_ (bL I F hm U1 (Ln (thn (G pos pins s σ H _ I h) λus s1 g9=>?_) (by rw[hs,z]) (by rw[z];rfl)));obtain⟨vs,H1,J,L,B⟩:=g9
 obtain⟨i,j,e,⟨B,O,U,Fn⟩,q⟩:=B;subst e
 cases L with
 |cons r rr=>
  cases rr with
  |cons r' rr=>
   cases rr
   obtain⟨t,rfl⟩:=r;obtain⟨t',rfl⟩:=r';exact call_range_2 (oZ J B O U Fn q)
noncomputable def DL(wi:TI)(g:TG)(tb:TS):TS:=λD σ H=>wi σ H λJ H1=>∃W:Nat->Nat->St->Hp->Prop,(∃m,W 0 m σ H1)/\∀i m σ H,W i m σ H->
 (J.stop i H/\D.nx σ H)∨(J.go i H/\∃N:St->Hp->Prop,(∀σ' H',N σ' H'->∃m',m'<m/\W (i+1) m' σ' H')/\∀x H',J.yld i H x H'->g x σ H' λσ2 H2=>tb {D with nx:=N,ct:=N,bk:=D.nx} σ2 H2)
noncomputable def jz(fp:List Wk)(h:Heap):List (Wk×Obj):=fp.filterMap λb=>(h.get? b).map λo=>(b,o)
theorem dG{o:Obj}(j:b∈fp)(e:h.get? b=Z o):(b,o)∈jz fp h:=U2.mpr ⟨b,j,by rw[e];rfl⟩
theorem vG{p:Wk×Obj}(j:p∈jz fp h):p.1∈fp/\h.get? p.1=Z p.2:=by
 obtain⟨b,z,e⟩:=U2.mp j
 cases q:h.get? b with
 |none=>rw[q]at e;cases e
 |some o=>rw[q]at e;have e':(b,o)=p:=Ml.inj e;subst e';exact⟨z,q⟩
theorem Inv.pinned(I:Inv X pins σ H s)(hf:∀b∈fp,cM X pins H b)(ho:∀b∈fp,∃o,s.heap.get? b=Z o/\∀v,o.data≠.cell v):Inv X (pins++jz fp s.heap) σ H s:=
 I.pins_of λp B=>(Lo.mp B).elim (λz=>I.pin p (Lj _ z)) λz=>by obtain⟨j,e⟩:=vG z;obtain⟨f0,f1,f2,_⟩:=hf p.1 j;obtain⟨o,e',d⟩:=ho p.1 j;rw[e]at e';cases e';exact⟨e,f0,f1,f2,d⟩
theorem Inv.unpinned{pl:List (Wk×Obj)}(I:Inv X (pins++pl) σ H s):Inv X pins σ H s:=I.pins_of λp j=>I.pin p (Lj _ (LD _ j))
theorem DM{iter:Expr}{wi:TI}{g:TG}{tb:TS}(O:PassesOwn (model X.prog X.w) X.A X.env X.xe)(hc:X.calm=F2)(hi:PI X tg iter wi)(hg:PG X tg g)(j:PSs X body tb)(hs:∀x,Nx iter X.env x=pure x:=by intro _;rfl):PS X (.For tg iter body [] pos) (DL wi g tb):=by
 intro pins s σ H D I h;refine wpAny_For (thn (hi pins s σ H _ I h) λv s1 h1=>thn h1 λitv s2 h2=>?_) hs;obtain⟨it,fp,tn,J,H2,e,I2,T,JJ,f2,W,⟨m0,w0⟩,turn⟩:=h2;subst e;have stat:∀{H':Hp},(∀b∈fp,H' b=Y)->∀b∈fp,cM X pins H' b:=λhn b j=>⟨hn b j,(f2 b j).2⟩;refine codeAny_forLoop_any (λn s'=>∃i σ' H',Inv X pins σ' H' s'/\tn i s'.heap/\(∀b∈fp,H' b=Y)/\W i n σ' H') ?_ m0 ⟨0,σ,H2,I2,JJ,λb j=>(f2 b j).1,w0⟩;rintro n s3 ⟨i,σ3,H3,I3,U,Fn,w3⟩
 rcases turn i n σ3 H3 w3 with⟨stop,qn⟩|⟨go,N,hN,step⟩
 ·refine Og O (thn (T.done X rfl rfl rfl hc i pins s3 σ3 H3 X.xe I3 (stat Fn) U stop) λr s4 G=>?_);obtain⟨hr,I4⟩:=G;subst hr;exact SG ⟨σ3,H3,I4,qn⟩
 ·refine Og O (thn (T.item X rfl rfl rfl hc i pins s3 σ3 H3 X.xe I3 (stat Fn) U go) fun r s4 G=>?_);obtain⟨u,hr,h4⟩:=G;subst hr;refine Og O (thn h4 fun _ s5 G=>?_);obtain⟨x,H5,I5,r5,y5,L,JK⟩:=G;have JL:=I5.pinned (stat JK) (T.obj _ _ L);refine Og O (thn (hg _ s5 σ3 H5 x u _ JL r5 (step x H5 y5)) fun _ s6 G=>?_);obtain⟨σ6,H6,I6,q6⟩:=G;refine Og O (thn (j _ s6 σ6 H6 _ I6 q6) fun f s7 F=>?_);have again:∀{σ7:St} {z:Hp},Inv X (pins++jz fp s5.heap) σ7 z s7->N σ7 z->∃m,m<n/\∃i σ' H',Inv X pins σ' H' s7/\tn i s7.heap/\(∀b∈fp,H' b=Y)/\W i m σ' H':=fun {σ7 z} B fv=>by
   obtain⟨m',hm,w7⟩:=hN σ7 z fv;refine⟨m',hm,i+1,σ7,z,B.unpinned,T.keep _ _ _ L λb j o e=>(B.pin (b,o) (Lj _ (Lj _ (dG j e)))).1,λb j=>?_,w7⟩;obtain⟨o,e,d⟩:=T.obj _ _ L b j;exact(B.pin (b,o) (Lj _ (Lj _ (dG j e)))).2.1
  cases f with
  |next=>obtain⟨σ7,z,B,fv⟩:=F;exact again B fv
  |cont=>obtain⟨σ7,z,B,fv⟩:=F;exact again B fv
  |brk=>obtain⟨σ7,z,B,F⟩:=F;exact⟨σ7,z,B.unpinned,F⟩
  |ret v=>obtain⟨x7,σ7,z,B,r7,F⟩:=F;exact⟨x7,σ7,z,B.unpinned,r7,F⟩
end
end
variable{f:h8->h8->Sem h8}
section
noncomputable abbrev R2:=V->V->Hp->VK->Prop
def OpR(X:Cx)(f:h8->h8->Sem h8)(r:R2):Prop:=
 ∀(pins:List (Wk×Obj)) (s:r0) (σ:St) (H:Hp) (x y:V) (v u:h8) (Q:VK),Inv X pins σ H s->RelV x v->RelV y u->r x y H Q->
  KN (model X.prog X.w) X.A (f v u) (EP X pins σ Q) X.xe s
def UnR(X:Cx)(f:h8->Sem h8)(r:V->Hp->VK->Prop):Prop:=
 ∀(pins:List (Wk×Obj)) (s:r0) (σ:St) (H:Hp) (x:V) (v:h8) (Q:VK),Inv X pins σ H s->RelV x v->r x H Q->
  KN (model X.prog X.w) X.A (f v) (EP X pins σ Q) X.xe s
def CallR(X:Cx)(f:h8)(r:List V->Hp->VK->Prop):Prop:=
 ∀(pins:List (Wk×Obj)) (s:r0) (σ:St) (H:Hp) (xs:List V) (us:List h8) (Q:VK),Inv X pins σ H s->Vals xs us->r xs H Q->
  KN (model X.prog X.w) X.A (call f us) (EP X pins σ Q) X.xe s
def Hd(X:Cx)(r:V->Hp->(Bool->Hp->Prop)->Prop):Prop:=
 ∀(pins:List (Wk×Obj)) (s:r0) (σ:St) (H:Hp) (x:V) (v:h8) (Q:Bool->Hp->Prop),Inv X pins σ H s->RelV x v->r x H Q->
  KN (model X.prog X.w) X.A (truthy v) (TP X pins σ Q) X.xe s
noncomputable def tOp(r:R2)(ta tb:TE):TE:=λσ H Q=>ta σ H λx H1=>tb σ H1 λy H2=>r x y H2 Q
noncomputable def tUn(r:V->Hp->VK->Prop)(ta:TE):TE:=λσ H Q=>ta σ H λx H1=>r x H1 Q
noncomputable def rI(C:Int->Int->Prop)(g:Int->Int->V):R2:=λx y H Q=>∃i j,x=.int i/\y=.int j/\C i j/\Q (g i j) H
noncomputable def rI0(g:Int->Int->V):R2:=λx y H Q=>∃i j,x=.int i/\y=.int j/\Q (g i j) H
noncomputable def rU(g:Int->V):V->Hp->VK->Prop:=λx H Q=>∃i,x=.int i/\Q (g i) H
section
variable{X:Cx}{a b c:Expr}{ta tb tc:TE}{pos:Pos}
theorem yn(z:PE X a ta)(B:PE X b tb){R:V->V->Hp->Prop}(I:Inv X pins σ H s)(h:ta σ H λx H1=>tb σ H1 λy H2=>R x y H2){Q:h8->r0->Prop}(hf:∀v u s2 x y H2,Inv X pins σ H2 s2->RelV x v->RelV y u->R x y H2->KN (model X.prog X.w) X.A (f v u) Q X.xe s2):
 KN (model X.prog X.w) X.A (eval a X.env) (λv s₁=>KN (model X.prog X.w) X.A (eval b X.env) (λu s₂=>KN (model X.prog X.w) X.A (f v u) Q X.xe s₂) X.xe s₁) X.xe s:=by
 refine thn (z pins s σ H _ I h) λv s1 j=>?_;obtain⟨x,H1,F,G,J⟩:=j;refine thn (B pins s1 σ H1 _ F J) λu s2 j=>?_;obtain⟨y,H2,L,O,U⟩:=j;exact hf v u s2 x y H2 L G O U
theorem FJ{r:R2}(ho:OpR X (MR op) r)(j:PE X a ta)(z:PE X b tb):PE X (.BinOp a op b pos) (tOp r ta tb):=by intro pins s σ H Q I h;exact wpAny_BinOp (yn j z I h λv u s2 x y H2 B rx ry q=>ho pins s2 σ H2 x y v u Q B rx ry q)
theorem FK{op:UnaryOp}{r:V->Hp->VK->Prop}(ho:UnR X (unaryOp op) r)(j:PE X a ta):PE X (.UnaryOp op a pos) (tUn r ta):=by intro pins s σ H Q I h;exact UnaryOp_ (thn (j pins s σ H _ I h) λv s1 z=>(by obtain⟨x,H1,B,F,G⟩:=z;exact ho pins s1 σ H1 x v Q B F G))
theorem opI{C:Int->Int->Prop}{g:Int->Int->Int}(rule:∀(i j:Int) (t u:Tok) (s:r0) (Q:h8->r0->Prop) (E:h8->r0->Prop),C i j->Q (.int (g i j) s.toks) {s with toks:=s.toks+1}->KN (model X.prog X.w) X.A (f (.int i t) (.int j u)) Q E s):
 OpR X f (rI C λi j=>.int (g i j)):=by
 intro pins s σ H x y v u Q I rx ry h;obtain⟨i,j,rfl,rfl,z,q⟩:=h;obtain⟨t,rfl⟩:=rx;obtain⟨t',rfl⟩:=ry;exact rule i j t t' s _ _ z ⟨.int (g i j),H,I.tok _,⟨_,rfl⟩,q⟩
theorem tQ{g:Int->Int->Int}(rule:∀(i j:Int) (t u:Tok) (s:r0) (Q:h8->r0->Prop) (E:h8->r0->Prop),Q (.int (g i j) s.toks) {s with toks:=s.toks+1}->KN (model X.prog X.w) X.A (f (.int i t) (.int j u)) Q E s):
 OpR X f (rI0 λi j=>.int (g i j)):=by
 intro pins s σ H x y v u Q I rx ry h;obtain⟨i,j,rfl,rfl,q⟩:=h;obtain⟨t,rfl⟩:=rx;obtain⟨t',rfl⟩:=ry;exact rule i j t t' s _ _ ⟨.int (g i j),H,I.tok _,⟨_,rfl⟩,q⟩
theorem yo{g:Int->Int->Bool}(rule:∀(i j:Int) (t u:Tok) (s:r0) (Q:h8->r0->Prop) (E:h8->r0->Prop),Q (.bool (g i j)) s->KN (model X.prog X.w) X.A (f (.int i t) (.int j u)) Q E s):
 OpR X f (rI0 λi j=>.bl (g i j)):=by
 intro pins s σ H x y v u Q I rx ry h;obtain⟨i,j,rfl,rfl,q⟩:=h;obtain⟨t,rfl⟩:=rx;obtain⟨t',rfl⟩:=ry;exact rule i j t t' s _ _ ⟨.bl (g i j),H,I,rfl,q⟩
def He(i j:Int):Prop:=0<=j/\j<=1000000/\i.natAbs<2^64
theorem op_add:OpR X (MR .Add) (rI0 λi j=>.int (i+j)):=tQ λ_ _ _ _ _ _ _ q=>add_int q
theorem DN:OpR X (MR .Sub) (rI0 λi j=>.int (i-j)):=tQ λ_ _ _ _ _ _ _ q=>sub_int q
theorem DO:OpR X (MR .Mod) (rI (λ_ j=>0<j) λi j=>.int (i%j)):=opI λi j _ _ _ _ _ z q=>by have h1:(0:Int)<j:=z;exact mod_int' ∅ (by rw[Int.fmod_eq_emod_of_nonneg i ∅];exact q)
theorem DP:OpR X (MR .Pow) (rI He λi j=>.int (i^j.toNat)):=opI λ_ _ _ _ _ _ _ z q=>pow_int_small z.1 z.2.1 z.2.2 q
theorem Bm:OpR X (NW .Add) (rI0 λi j=>.int (i+j)):=tQ λ_ _ _ _ _ _ _ q=>iadd_int q
theorem Bn:OpR X (NW .Sub) (rI0 λi j=>.int (i-j)):=tQ λ_ _ _ _ _ _ _ q=>isub_int q
theorem unI{f:h8->Sem h8}{g:Int->Int}(rule:∀(i:Int) (t:Tok) (s:r0) (Q:h8->r0->Prop) (E:h8->r0->Prop),Q (.int (g i) s.toks) {s with toks:=s.toks+1}->KN (model X.prog X.w) X.A (f (.int i t)) Q E s):
 UnR X f (rU λi=>.int (g i)):=by
 intro pins s σ H x v Q I rx h;obtain⟨i,rfl,q⟩:=h;obtain⟨t,rfl⟩:=rx;exact rule i t s _ _ ⟨.int (g i),H,I.tok _,⟨_,rfl⟩,q⟩
theorem DQ:UnR X (unaryOp .USub) (rU λi=>.int (-i)):=unI λ_ _ _ _ _ q=>neg_int q
end
section
variable{X:Cx}{a b c:Expr}{ta tb tc:TE}{pos:Pos}
theorem FL:OpR X (Na .Lt) (rI0 λi j=>.bl (decide (i<j))):=yo λ_ _ _ _ _ _ _ q=>lt_int q
theorem FM:OpR X (Na .Gt) (rI0 λi j=>.bl (decide (j<i))):=yo λ_ _ _ _ _ _ _ q=>gt_int q
theorem FN:OpR X (Na .GtE) (rI0 λi j=>.bl (decide (j<=i))):=yo λ_ _ _ _ _ _ _ q=>ge_int q
theorem OpR.or{r r':R2}(h:OpR X f r)(h':OpR X f r'):OpR X f (λx y H Q=>r x y H Q∨r' x y H Q):=by
 intro pins s σ H x y v u Q I rx ry q
 rcases q with q|q
 ·exact h pins s σ H x y v u Q I rx ry q
 ·exact h' pins s σ H x y v u Q I rx ry q
theorem Bo{op:CmpOp}{r:R2}(ho:OpR X (Na op) r)(j:PE X a ta)(z:PE X b tb)(hm:PH op b=Wj):PE X (.Compare a [op] [b] pos) (tOp r ta tb):=by intro pins s σ H Q I h;exact wpAny_Compare1 (yn j z I h λv u s2 x y H2 B rx ry q=>ho pins s2 σ H2 x y v u Q B rx ry q) hm
noncomputable def AD(t:TE):TT:=λσ H Q=>t σ H λx H'=>∃k,x=.bl k/\Q k H'
theorem Bp{op:CmpOp}{r:R2}(ho:OpR X (Na op) r)(j:PE X a ta)(B:PE X b tb)(hm:PH op b=Wj):PT X (.Compare a [op] [b] pos) (AD (tOp r ta tb)):=by
 intro pins s σ H Q I h;refine wpAny_isTrue_Compare1 (thn (j pins s σ H _ I h) λv s1 ⟨x,H1,F,G,J⟩=>thn (B pins s1 σ H1 _ F J) λu s2 ⟨y,H2,L,O,U⟩=>thn (ho pins s2 σ H2 x y v u _ L G O U) λc s3 ⟨z,Fn,fv,r3,k,e,q3⟩=>?_) hm
 subst e
 cases r3
 exact P4 ⟨Fn,fv,q3⟩
def yp(K:Frag)(x:V)(H:Hp)(k:Bool):Prop:=
 match x with
 |.non=>k=Wj
 |.bl b=>k=b
 |.int i=>k=(i != 0)
 |.str y=>y.length<=KG/\k=((y.length:Int) != 0)
 |.byt y=>y.size<=KG/\k=((y.size:Int) != 0)
 |.ref p=>(∃xs,SqL K H p xs/\k = !xs.isEmpty)∨(∃xs,SqT K H p xs/\k = !xs.isEmpty)∨∃kvs,H p=Z (.dK kvs)/\k = !kvs.isEmpty
 |_=>False
theorem tR{κ:Type}{kvs:List (κ×V)}{vs:List (κ×h8)}(r:KV kvs vs):(!vs.isEmpty) = !kvs.isEmpty:=by cases r<;>rfl
theorem jA{xs:List V}{its:List h8}(r:Vals xs its):(!its.toArray.isEmpty) = !xs.isEmpty:=by cases r<;>simp
theorem fj:(KG:Nat)<2^63:=by rw[A0];decide
theorem vH:Hd X (λx H Q=>∃k,yp X.K x H k/\Q k H):=by
 intro pins s σ H x v Q I rx h;obtain⟨k,e,q⟩:=h;have F:=fj;have hs:KG=16777216:=A0
 cases x with
 |non=>
  cases rx
  have e':k=Wj:=e;subst e';exact truthy_none ⟨H,I,q⟩
 |bl b=>
  cases rx
  have e':k=b:=e;subst e';exact P4 ⟨H,I,q⟩
 |int i=>obtain⟨t,rfl⟩:=rx;have e':k=(i != 0):=e;subst e';exact PySem.P.truthy_int ⟨H,I,q⟩
 |str y=>obtain⟨t,rfl⟩:=rx;obtain⟨z,e'⟩:y.length<=KG/\k=((y.length:Int) != 0):=e;subst e';exact PySem.P.truthy_str ∅ ⟨H,I.tok _,q⟩
 |byt y=>obtain⟨t,rfl⟩:=rx;obtain⟨z,e'⟩:y.size<=KG/\k=((y.size:Int) != 0):=e;subst e';exact PySem.W.truthy_bytes ∅ ⟨H,I.tok _,q⟩
 |ref p=>
  cases rx
  have e':(∃xs,SqL X.K H p xs/\k = !xs.isEmpty)∨(∃xs,SqT X.K H p xs/\k = !xs.isEmpty)∨∃kvs,H p=Z (.dK kvs)/\k = !kvs.isEmpty:=e
  rcases e' with⟨xs,hx,e'⟩|⟨xs,hx,e'⟩|⟨kvs,hx,e'⟩
  ·subst e';obtain⟨its,r,pl,j⟩:=I.list hx;have hlen:=r.length;exact wpAny_truthy_list pl.isList (by simp only[KJ];lia) ⟨H,I.tok _,by rw[jA r];exact q⟩
  ·subst e';obtain⟨its,r,pl,j⟩:=I.tuple hx;have hlen:=r.length;exact truthy_tuple pl (by simp only[KJ];lia) ⟨H,I.tok _,by rw[jA r];exact q⟩
  ·subst e';obtain⟨j,B,vs,r,m⟩:kvs.length<=KG/\(p==MK)=Wj/\∃vs,KV kvs vs/\s.heap.DictOf (aQ X.prog X.w) p vs:=I.hok p _ hx;have hlen:kvs.length=vs.length:=PD r;exact wpAny_truthy_dict B m ∅ ⟨H,I.tok _,by rw[tR r];exact q⟩
 |_=>exact(show False from e).elim
theorem yq(j:PE X a ta)(he:∀whole,isTrue a X.env whole=(do let v <-whole;Rt a.pos;holding [v] (truthy v))):
 PT X a (λσ H Q=>ta σ H λx H'=>∃k,yp X.K x H' k/\Q k H'):=by
 intro pins s σ H Q I h;exact isTrue_plain (thn (j pins s σ H _ I h) λv s1 z=>(by obtain⟨x,H1,B,F,G⟩:=z;exact vH pins s1 σ H1 x v Q B F G)) (he _)
theorem tS:OpR X (MR .Add) (λx y H Q=>∃i j,x=.str i/\y=.str j/\i.length+j.length<=KG/\Q (.str (i++j)) H):=by intro pins s σ H x y v u Q I rx ry h;obtain⟨i,j,rfl,rfl,z,q⟩:=h;obtain⟨t,rfl⟩:=rx;obtain⟨t',rfl⟩:=ry;exact add_str (λt' tk=>⟨.str (i++j),H,I.tok _,⟨_,rfl⟩,q⟩) z
theorem fN{x:V}(r:Vals [x] us):∃u,us=[u]/\RelV x u:=by
 cases r with
 |cons j z=>cases z;exact⟨_,rfl,j⟩
theorem AE{x y:V}(r:Vals [x,y] us):∃u w',us=[u,w']/\RelV x u/\RelV y w':=by
 cases r with
 |cons j z=>
  cases z with
  |cons B F=>cases F;exact⟨_,_,rfl,j,B⟩
theorem yr:CallR X (.builtin "abs") (λxs H Q=>∃i,xs=[.int i]/\Q (.int (if i<0 then -i else i)) H):=by intro pins s σ H xs us Q I r h;obtain⟨i,rfl,q⟩:=h;obtain⟨u,rfl,t,rfl⟩:=fN r;exact call_abs_int λu tk=>⟨.int (if i<0 then -i else i),H,I.tok _,⟨_,rfl⟩,q⟩
theorem vI(B:X.calm=F2):CallR X (.builtin "max") (λxs H Q=>∃i j,xs=[.int i,.int j]/\Q (.int (if j > i then j else i)) H):=by
 intro pins s σ H xs us Q I r h;obtain⟨i,j,rfl,q⟩:=h;obtain⟨u,w',rfl,⟨t,rfl⟩,⟨t',rfl⟩⟩:=AE r;refine max_two_ints (I.ok.hd B) λh' tk k=>⟨_,H,I.kept k,?_,q⟩
 by_cases z:j > i
 ·rw[if_pos z,if_pos z];exact⟨_,rfl⟩
 ·rw[if_neg z,if_neg z];exact⟨_,rfl⟩
theorem vJ:CallR X (.type "int") (λxs H Q=>(∃i,xs=[.int i]/\Q (.int i) H)∨∃k,xs=[.bl k]/\Q (.int (if k then 1 else 0)) H):=by
 intro pins s σ H xs us Q I r h
 rcases h with⟨i,rfl,q⟩|⟨k,rfl,q⟩
 ·obtain⟨u,rfl,t,rfl⟩:=fN r;exact call_int_int ⟨.int i,H,I,⟨_,rfl⟩,q⟩
 ·obtain⟨u,rfl,j⟩:=fN r
  cases j
  exact call_int_bool ⟨.int (if k then 1 else 0),H,I.tok _,⟨_,rfl⟩,q⟩
def Hf(K:Frag)(x:V)(H:Hp)(n:Nat):Prop:=
 match x with
 |.str y=>y.length<=KG/\n=y.length
 |.byt y=>y.size<=KG/\n=y.size
 |.ref p=>(∃xs,SqL K H p xs/\n=xs.length)∨∃xs,SqT K H p xs/\n=xs.length
 |_=>False
theorem yt:CallR X (.builtin "len") (λxs H Q=>∃x n,xs=[x]/\Hf X.K x H n/\Q (.int n) H):=by
 intro pins s σ H xs us Q I r h;obtain⟨x,n,rfl,e,q⟩:=h;obtain⟨u,rfl,rx⟩:=fN r;have B:=fj;have hs:KG=16777216:=A0
 cases x with
 |str y=>obtain⟨t,rfl⟩:=rx;obtain⟨j,e'⟩:y.length<=KG/\n=y.length:=e;subst e';exact len_str ∅ ⟨.int _,H,I.tok _,⟨_,rfl⟩,q⟩
 |byt y=>obtain⟨t,rfl⟩:=rx;obtain⟨j,e'⟩:y.size<=KG/\n=y.size:=e;subst e';exact PySem.W.len_bytes ∅ ⟨.int _,H,I.tok _,⟨_,rfl⟩,q⟩
 |ref p=>
  cases rx
  have e':(∃xs,SqL X.K H p xs/\n=xs.length)∨∃xs,SqT X.K H p xs/\n=xs.length:=e
  rcases e' with⟨xs,hx,e'⟩|⟨xs,hx,e'⟩
  ·subst e';obtain⟨its,r',pl,z⟩:=I.list hx;have hlen:=r'.length;exact Calls.call_len_list pl.isList (by simp only[KJ];lia) ⟨.int xs.length,H,I.tok _,⟨_,by simp only[KJ];rw[hlen]⟩,q⟩
  ·subst e';obtain⟨its,r',pl,z⟩:=I.tuple hx;have hlen:=r'.length;exact len_tuple pl (by simp only[KJ];lia) ⟨.int xs.length,H,I.tok _,⟨_,by simp only[KJ];rw[hlen]⟩,q⟩
 |_=>exact(show False from e).elim
end
end
section
theorem Wd{o:Option h8}(r:RelO (Z v) o):∃u,o=Z u/\RelV v u:=by
 cases o with
 |none=>exact(show False from r).elim
 |some u=>exact⟨u,rfl,r⟩
end
variable{mg:Str->Option h8}{base:Heap}{ps:List Str}
section
structure Room(k:Nat)(A:Lv):Prop where
 hd:A.handled=Y
 dp:A.depth+3*k+5<recursionLimit
 un:A.units+16*k+200<Ol
theorem Room.deeper{k:Nat}(r:Room (k+1) A)(env:Env):Room k (A.deeper env):=⟨r.hd,by have:=r.dp;show A.depth+1+3*k+5<_;lia,by have:=r.un;show A.units+3+16*k+200<_;lia⟩
theorem Room.depth{k:Nat}(r:Room k A):A.depth<recursionLimit:=by have:=r.dp;lia
theorem Room.units{k:Nat}(r:Room k A):A.units+64<Ol:=by have:=r.un;lia
noncomputable def yu:TA:=λ_ H Q=>Q [] H
noncomputable def tT(ta:TE)(tr:TA):TA:=λσ H Q=>ta σ H λx H1=>tr σ H1 λxs H2=>Q (x::xs) H2
section
variable{X:Cx}{e:Expr}{es:List Expr}{te:TE}{t:TA}{pos:Pos}
theorem p8:PA X [] yu:=λ_ _ _ _ H Q I h=>Ny ⟨[],H,I,.nil,h⟩
theorem ip(z:PE X e te)(B:PA X es t)(hs:KU (e::es) X.env=(Wj,eval e X.env)::KU es X.env:=by rfl):PA X (e::es) (tT te t):=by intro pos pins s σ H Q I h;rw[hs];show KN _ _ (spliced ((Wj,eval e X.env)::OX pos (KU es X.env))) _ _ s;refine N3 (thn (z pins s σ H _ I h) λu s1 j=>?_);obtain⟨x,H1,F,G,J⟩:=j;exact thn (B pos pins s1 σ H1 _ F J) λus s2 j=>(by obtain⟨xs,H2,L,O,U⟩:=j;exact⟨x::xs,H2,L,.cons G O,U⟩)
noncomputable def Hg(t:TA):TE:=λσ H Q=>t σ H λxs H1=>xs.length<=KG/\∀p,H1 p=Y->Q (.ref p) (upd H1 p (.tup xs))
noncomputable def Hh(t:TA):TE:=λσ H Q=>t σ H λxs H1=>xs.length<=KG/\∀p,H1 p=Y->Q (.ref p) (upd H1 p (.lst xs))
theorem DR{B}(h:PA X es t):PE X (.Tuple es B pos) (Hg t):=by
 intro pins s σ H Q I hq;refine wpAny_Tuple_spliced (thn (h pos pins s σ H _ I hq) λus s1 ⟨xs,H1,j,r,z,q⟩=>⟨by rw[<-r.length];exact z,?_⟩)
 have hf:H1 s1.heap.objs.size=Y:=j.hok.fresh (KO _);refine⟨.ref s1.heap.objs.size,upd H1 s1.heap.objs.size (.tup xs),j.laid (t':=s1.toks) (λb u e=>hQ _ e) (KO _) ?_,rfl,q _ hf⟩;exact⟨z,us,r,⟨_,A2 _ rfl,rfl,_,rfl⟩⟩
theorem DS(h:PA X es t):PE X (.List es pos) (Hh t):=by
 intro pins s σ H Q I hq;refine wpAny_List_spliced (thn (h pos pins s σ H _ I hq) λus s1 ⟨xs,H1,j,r,z,q⟩=>⟨by rw[<-r.length];exact z,?_⟩)
 have hf:H1 s1.heap.objs.size=Y:=j.hok.fresh (KO _);refine⟨.ref s1.heap.objs.size,upd H1 s1.heap.objs.size (.lst xs),j.laid (t':=s1.toks) (λb u e=>hQ _ e) (KO _) ?_,rfl,q _ hf⟩;exact⟨z,us,0,r,A2 _ rfl⟩
end
noncomputable abbrev Sp:=List V->Hp->VK->XK->Prop
noncomputable abbrev CXT:=List Env->Hp->r0->XK->h8->r0->Prop
structure gJ(P:L4)(w:Lq)(K:Frag)(mg:Str->Option h8)(base:Heap)(A:Lv)(outer:List Env)(s:r0)(H:Hp):Prop where
 frames:A.frames=Z outer
 mod:Mod K mg base
 bs:∀b o,base.get? b=Z o->s.heap.get? b=Z o/\H b=Y
 bsz:base.objs.size<=s.heap.objs.size
 funs:s.heap.FunFrames base outer
 frf:∀b∈frs outer,H b=Y
 hok:HOk P w H s.heap
 bare:Rr s.gens
def CE(outer:List Env)(P:L4)(w:Lq)(H:Hp)(s:r0)(Q:VK)(u:h8)(s':r0):Prop:=∃v H',s'.os=s.os/\Rr s'.gens/\Un (frs outer) [] H H' s.heap s'.heap/\HOk P w H' s'.heap/\RelV v u/\Q v H'
def CR(CX:CXT)(outer:List Env)(P:L4)(w:Lq)(H:Hp)(s:r0)(Q:VK)(E:XK)(r:U3)(s':r0):Prop:=
 match r with
 |.ok (.ret u)=>CE outer P w H s Q u s'
 |.ok _=>False
 |.error e=>CX outer H s E e s'
structure FnOk(P:L4)(w:Lq)(K:Frag)(mg:Str->Option h8)(base:Heap)(CX:CXT)(k:Nat)(f:Wk)(fd:N5)(ps:List Str)(sp:Sp):Prop where
 len:∀vs H Q E,sp vs H Q E->vs.length=ps.length
 run:∀(A:Lv) (outer:List Env) (s:r0) (H:Hp) (args:Args) (us:List h8) (vs:List V) (Q:VK) (E:XK),Room k A->gJ P w K mg base A outer s H->Tq s fd args (ps.zip us)->Vals vs us->sp vs H Q E->
  Ob (model P w) A (.call (.ref f) args) (CR CX outer P w H s Q E) s
theorem FnOk.imp{CX:CXT}{k:Nat}{f:Wk}{fd:N5}{sp sp':Sp}(F:FnOk P w K mg base CX k f fd ps sp)(h:∀vs H Q E,sp' vs H Q E->sp vs H Q E):FnOk P w K mg base CX k f fd ps sp':=⟨λvs H Q E q=>F.len vs H Q E (h _ _ _ _ q),λA outer s H args us vs Q E j he z B hs=>F.run A outer s H args us vs Q E j he z B (h _ _ _ _ hs)⟩
section
variable{X:Cx}{pins:List (Wk×Obj)}{σ:St}{H:Hp}{s s':r0}
theorem Inv.env0(I:Inv X pins σ H s):gJ X.prog X.w X.K X.mg X.base X.A X.stack s H:=⟨I.ok.frames,I.ok.mod,I.bs,LR I.ok.bsz I.sz,I.stack,I.stkFree,I.hok,I.bare⟩
theorem Inv.after{Q:VK}(I:Inv X pins σ H s)(h:CE X.stack X.prog X.w H s Q u s'):EP X pins σ Q u s':=by obtain⟨v,H',os,bare,un,hok,r,q⟩:=h;obtain⟨j,g,d,t,os'⟩:=s';obtain rfl:os'=s.os:=os;exact⟨v,H',I.call (h':=j) (g':=g) (d':=d) (t':=t) (ch:=[]) un hok bare (λb z=>absurd z (by simp)),r,q⟩
end
noncomputable def AF(sp:Sp)(dvs:List V)(E:XK)(t:TA):TE:=λσ H Q=>t σ H λvs H1=>sp (vs++dvs) H1 Q E
def Binds(K:Frag)(fd:N5)(ps:List Str)(ds:List h8):Prop:=∀(s:r0) (us:List h8),K.In s.heap->(us++ds).length=ps.length->Tq s fd ⟨us,[]⟩ (ps.zip (us++ds))
theorem Binds.all{fd:N5}(h:∀us:List h8,us.length=ps.length->SY fd ⟨us,[]⟩=pure (ps.zip us)):Binds K fd ps []:=λs us _ j=>by rw[Mz]at j⊢;exact .of_eq (h us j)
def jB(CX:CXT)(X:Cx)(E:XK):Prop:=∀(pins:List (Wk×Obj)) (σ:St) (H:Hp) (s:r0) (e:h8) (s':r0),Inv X pins σ H s->CX X.stack H s E e s'->X.xe e s'
section
variable{X:Cx}{CX:CXT}{k:Nat}{f C:Wk}{fd:N5}{ps:List Str}{sp:Sp}{dvs:List V}{ds:List h8}{E:XK}{x m:Str}{p pos apos:Pos}{e o:Expr}{es:List Expr}{ta:TE}{t:TA}
theorem vK{Q:VK}{vs:List V}(F:FnOk X.prog X.w X.K X.mg X.base CX k f fd ps sp)(B:Room k X.A)(G:Binds X.K fd ps ds)(hd:Vals dvs ds)(hx:jB CX X E)(I:Inv X pins σ H s)(r:Vals vs us)(h:sp (vs++dvs) H Q E):KN (model X.prog X.w) X.A (call (.ref f) us) (EP X pins σ Q) X.xe s:=by
 have z:Vals (vs++dvs) (us++ds):=r.append hd;have J:(us++ds).length=ps.length:=by rw[<-z.length];exact F.len _ _ _ _ h
 refine Sl (Nh (F.run X.A X.stack s H ⟨us,[]⟩ (us++ds) (vs++dvs) Q E B I.env0 (G s us I.kIn J) z h) λr s' j=>?_)
 cases r with
 |error e=>exact hx pins σ H s e s' I j
 |ok fl=>
  cases fl with
  |ret u=>exact I.after j
  |next=>exact False.elim j
  |brk=>exact False.elim j
  |cont=>exact False.elim j
theorem rR(F:FnOk X.prog X.w X.K X.mg X.base CX k f fd ps sp)(G:Room k X.A)(J:Gl X x)(hm:X.mg x=Z (.ref f))(L:NZ X.K (.ref f)=F2)(O:Binds X.K fd ps ds)(hd:Vals dvs ds)(hx:jB CX X E)(U:PA X (e::es) t)(j:(x==("__debug__":Str))=Wj:=by decide)(he:KU (e::es) X.env=(Wj,eval e X.env)::KU es X.env:=by rfl)(z:(OX pos (KU es X.env)).any (·.1)=Wj:=by rfl):
 PE X (.Call (.Name x p) (e::es) [] pos) (AF sp dvs E t):=by
 intro pins s σ H Q I h;refine LO (kX I J hm ?_ j);refine U4 (h₀:=X.base) I.ok.mod.kin L (thn (U pos pins s σ H _ I h) λus s1 ⟨vs,H1,B,r,q⟩=>⟨B.kIn,?_⟩) he z;exact vK F G O hd hx B r q
theorem yv(F:FnOk X.prog X.w X.K X.mg X.base CX k f fd ps sp)(z:Room k X.A)(B:Gl X x)(hm:X.mg x=Z (.ref f))(G:NZ X.K (.ref f)=F2)(J:Binds X.K fd ps ds)(hd:Vals dvs ds)(hx:jB CX X E)(j:(x==("__debug__":Str))=Wj:=by decide):PE X (.Call (.Name x p) [] [] pos) (AF sp dvs E yu):=by intro pins s σ H Q I h;refine LO (kX I B hm ?_ j);exact PySem.W.callWith_K0 I.kIn G (vK (us:=[]) F z J hd hx I .nil h)
end
structure cK(N P:List Str)(sc:Scope):Prop where
 kind:sc.kind=.function
 co:sc.isCoroutine=Wj
 gen:sc.isGenerator=Wj
 nd:N.Nodup
 pre:N.take P.length=P
 par:∀x∈P,sc.names.lookup x=Z .local∨sc.names.lookup x=Z .cell
 nofree:∀y∈sc.names,y.2≠.free
theorem mm{NS:Str->Option O0}{x:Str}:∀{binds:List (Str×h8)} {m:Str->Option h8},(∀v,(x,v)∉binds)->VA NS binds m x=m x
 |[],_,_=>rfl
 |(n,v)::r,m,h=>by
  unfold VA;rw[mm λw hw=>h w (KP _ hw)]
  split
  ·have:x≠n:=by rintro rfl;exact h v KW
   simp[this]
  ·rfl
theorem mn{NS:Str->Option O0}{x:Str}:∀{binds:List (Str×h8)} {m:Str->Option h8},(∀v,(x,v)∉binds)->VB NS binds m x=m x
 |[],_,_=>rfl
 |(n,v)::r,m,h=>by
  unfold VB;rw[mn λw hw=>h w (KP _ hw)]
  split
  ·rfl
  ·have:x≠n:=by rintro rfl;exact h v KW
   simp[this]
theorem mq{NS:Str->Option O0}{x:Str}{v:h8}:∀{P:List Str} {vs:List h8} {i:Nat} {m:Str->Option h8},P.Nodup->P[i]?=Z x->vs[i]?=Z v->NS x=Z .local->
 VA NS (P.zip vs) m x=Z v
 |[],_,_,_,_,h,_,_=>by simp at h
 |_::_,[],_,_,_,_,h,_=>by simp at h
 |p::P,w::vs,0,m,nd,h1,h2,j=>by simp at h1 h2;subst h1;subst h2;show VA NS ((p,w)::P.zip vs) m p=_;unfold VA;rw[mm λv z=>(Mo.mp nd).1 (NH z).1,if_pos j];simp
 |p::P,w::vs,i+1,m,nd,h1,h2,j=>by show VA NS ((p,w)::P.zip vs) m x=_;unfold VA;exact mq (i:=i) (Mo.mp nd).2 (by simpa using h1) (by simpa using h2) j
theorem mw{NS:Str->Option O0}{x:Str}{v:h8}:∀{P:List Str} {vs:List h8} {i:Nat} {m:Str->Option h8},P.Nodup->P[i]?=Z x->vs[i]?=Z v->NS x≠Z .local->
 VB NS (P.zip vs) m x=Z v
 |[],_,_,_,_,h,_,_=>by simp at h
 |_::_,[],_,_,_,_,h,_=>by simp at h
 |p::P,w::vs,0,m,nd,h1,h2,j=>by simp at h1 h2;subst h1;subst h2;show VB NS ((p,w)::P.zip vs) m p=_;unfold VB;rw[mn λv z=>(Mo.mp nd).1 (NH z).1,if_neg j];simp
 |p::P,w::vs,i+1,m,nd,h1,h2,j=>by show VB NS ((p,w)::P.zip vs) m x=_;unfold VB;exact mw (i:=i) (Mo.mp nd).2 (by simpa using h1) (by simpa using h2) j
noncomputable def bD(N:List Str)(vs:List V):St:=vs.map Z++z4 (N.length-vs.length) Y
noncomputable def cI(CX:CXT)(P:L4)(w:Lq)(K:Frag)(mg:Str->Option h8)(base:Heap)(N:List Str)(qual:Str)(scope:Scope)(f:Wk)(cd:h8)(A:Lv)(outer:List Env)(s:r0)(H:Hp)(E:XK):Cx where
 prog:=P
 w:=w
 K:=K
 mg:=mg
 base:=base
 A:=A.deeper (Ql qual scope s.heap.objs.size f cd)
 N:=N
 s₀:=s
 H₀:=H
 env:=Ql qual scope s.heap.objs.size f cd
 outer:=outer
 stack:=Ql qual scope s.heap.objs.size f cd::outer
 ex:=[]
 calm:=F2
 fn:=λ_=>F2
 pn:=[]
 xe:=λe s'=>KN (model P w) (A.deeper (Ql qual scope s.heap.objs.size f cd)) (leaving (Ql qual scope s.heap.objs.size f cd) e) (λ_ s''=>CX outer H s E e s'') (λe' s''=>CX outer H s E e' s'') s'
theorem pe{sc:Scope}{n:Nat}(h:sc.names.lookup x=Z .cell):∃c,(Nf n sc.names []).lookup x=Z c:=by have q:=OG sc.names n [] (.inl h);exact Ov.mp q
theorem mz{CX:CXT}{qual:Str}{scope:Scope}{f:Wk}{cd:h8}{outer:List Env}{s1:r0}{E:XK}{vs:List V}(S:cK N ps scope)(hd:A.handled=Y)(e0:gJ P w K mg base A outer s H)(O:vs.length=ps.length)(r:Vals vs us)(x:InCallC s s.heap.objs.size (VA (Ql qual scope s.heap.objs.size f cd).kindOf (ps.zip us) λ_=>Y) (Nf (s.heap.objs.size+1) scope.names []) (VB (Ql qual scope s.heap.objs.size f cd).kindOf (ps.zip us) λ_=>Y) s1):
 Inv (cI CX P w K mg base N qual scope f cd A outer s H E) [] (bD N vs) H s1:=by
 have J:ps.length<=N.length:=by have:=congrArg Nb S.pre;rw[Ll]at this;lia
 obtain⟨h1,tk,rfl,F⟩:=x.done;have noA:∀b:Wk,b∉(cI CX P w K mg base N qual scope f cd A outer s H E).ex:=λb z=>absurd (show b∈([]:List Wk)from z) (by simp)
 refine⟨⟨e0.mod,S.kind,rfl,rfl,KO _,λy z c h1 h2=>?_,λy j=>?_,λy c _ h=>?_,λ_=>hd,T2 e0.frames,.inr ⟨rfl,rfl⟩,λb z=>absurd z (noA b),e0.bs,e0.bsz,λb _ _=>noA b,λb z=>absurd z (noA b),e0.funs,e0.frf⟩,
  rfl,e0.bare,Un.kept F,⟨_,x.toInCall.ns,λi y v h1 h2 U=>?_⟩,λy c h=>⟨_,x.cell y c h⟩,e0.hok.fresh (KO _),λy c h=>?_,λp B=>absurd (show p∈([]:List (Wk×Obj))from B) (by simp),e0.hok.kept F,?_⟩
 ·exact name_of_addr x.apart (LB h1) (LB h2)
 ·have j:scope.names.lookup y=Z .cell∨scope.names.lookup y=Z .free:=j
  rcases j with j|j
  ·exact pe j
  ·exact absurd rfl (S.nofree _ (LB j))
 ·exact OF (x.above y c (LB h))
 ·have hi:i<vs.length:=by
   unfold bD at h2
   by_cases hi:i<vs.length
   ·exact hi
   ·rw[D0 (by simpa using hi)]at h2
    rw[RV]at h2
    split at h2<;>cases h2
  have L:vs[i]?=Z v:=by
   unfold bD at h2;rw[KR (by simpa using hi),KL]at h2
   cases e:vs[i]? with
   |none=>rw[e]at h2;cases h2
   |some a=>rw[e]at h2;cases h2;rfl
  obtain⟨u,G,rv⟩:=r.get L;have B:ps[i]?=Z y:=by rw[<-S.pre,Ni ∅];exact h1
  have ndP:ps.Nodup:=by rw[<-S.pre];exact S.nd.sublist (List.take_sublist _ _)
  refine⟨u,rv,?_⟩
  rcases S.par y (KZ B)with k|k
  ·exact .inl ⟨k,mq ndP B G k⟩
  ·obtain⟨c,e⟩:=pe (n:=s.heap.objs.size+1) k;refine .inr ⟨.inl k,c,e,?_⟩;have q:=x.cell y c e;rw[mw ndP B G (by show scope.names.lookup y≠_;rw[k];decide)]at q
   exact q
 ·exact e0.hok.fresh (OF (x.above y c (LB h)))
 ·unfold bD;show _=N.length;rw[B0,m1,Ly];lia
theorem AG {CX:CXT}{k:Nat}{f:Wk}{name qual:Str}{params:OW}{scope:Scope}{dV kV doc pm cdv ct oc:h8}{an od:Option Wk}{osl:Array (Option h8)}{sp:Sp}(lk:K.lookup f=Z ⟨oc,od,.func (Nj name qual params body scope dV kV doc pm an cdv ct),osl⟩)(F:Pb K cdv qual=F2)(S:cK N ps scope)(len:∀vs H Q E,sp vs H Q E->vs.length=ps.length)(j:∀(A:Lv) (outer:List Env) (s:r0) (H:Hp) (vs:List V) (Q:VK) (E:XK),Room k (A.deeper (Ql qual scope s.heap.objs.size f cdv))->sp vs H Q E->
   ∃t,PSs (cI CX P w K mg base N qual scope f cdv A outer s H E) body t/\t {nx:=λ_ H'=>Q .non H',rt:=Q} (bD N vs) H):
 FnOk P w K mg base CX (k+1) f (Nj name qual params body scope dV kV doc pm an cdv ct) ps sp:=by
 refine⟨len,λA outer s H args us vs Q E G e0 L r B=>?_⟩;have O:=len _ _ _ _ B;have KX:K.In s.heap:=e0.mod.kin.keeps λb o e=>(e0.bs b o e).1;have lim:s.heap.NoLimit:=e0.mod.nolimit.keeps λb o e=>(e0.bs b o e).1;have z:∀y∈ps.zip us,scope.names.lookup y.1=Z .local∨(scope.names.lookup y.1=Z .cell/\((Nf (s.heap.objs.size+1) scope.names []).lookup y.1).isSome=F2):=λ⟨n,v⟩ hy=>by
  rcases S.par n (NH hy).1 with q|q
  ·exact .inl q
  ·exact .inr ⟨q,OG _ _ _ (.inl q)⟩
 refine SQ G.depth (KX _ _ lk) rfl S.co S.gen rfl (U5 KX F) (L _ _ _ _ ?_);refine R9 S.kind z λenv he s1 x=>?_;subst he;refine⟨lim.keeps x.toInCall.keep,codeAny_func ?_⟩;obtain⟨t,U,Fn⟩:=j A outer s H vs Q E (G.deeper _) B;have I:Inv (cI CX P w K mg base N qual scope f cdv A outer s H E) [] (bD N vs) H s1:=mz S G.hd e0 O r x;refine Md (U [] s1 (bD N vs) H _ I Fn) (λfl s' hs=>?_) λe s' hs=>hs;have fin:∀{σ':St} {H':Hp} {v:V} {u:h8},Inv (cI CX P w K mg base N qual scope f cdv A outer s H E) [] σ' H' s'->RelV v u->Q v H'->CE outer P w H s Q u s':=λ{σ' H' v u} J rv q=>⟨v,H',J.os,J.bare,J.base,J.hok,rv,q⟩
 cases fl with
 |ret u=>obtain⟨v,σ',H',J,rv,q⟩:=hs;exact fin J rv q
 |next=>obtain⟨σ',H',J,q⟩:=hs;exact fin (v:=V.non) (u:=MY) J rfl q
 |brk=>obtain⟨_,_,_,q⟩:=hs;exact False.elim q
 |cont=>obtain⟨_,_,_,q⟩:=hs;exact False.elim q
end
section
section
variable{X:Cx}{x:Str}{p pos:Pos}{e:Expr}{es:List Expr}{t:TA}{id T:String}{r:List V->Hp->VK->Prop}
noncomputable def tCB(r:List V->Hp->VK->Prop)(t:TA):TE:=λσ H Q=>t σ H λvs H1=>r vs H1 Q
theorem fO(B:CallR X (.builtin id) r)(F:Gl X x)(hm:X.mg x=Y)(G:QY x=Z (.builtin id))(J:PA X (e::es) t)(L:x≠"__name__":=by decide)(j:(x==("__debug__":Str))=Wj:=by decide)(he:KU (e::es) X.env=(Wj,eval e X.env)::KU es X.env:=by rfl)(z:(OX pos (KU es X.env)).any (·.1)=Wj:=by rfl):PE X (.Call (.Name x p) (e::es) [] pos) (tCB r t):=by intro pins s σ H Q I h;refine LO (bL I F hm G ?_ L j);exact Qm (thn (J pos pins s σ H _ I h) λus s1 O=>(by obtain⟨vs,H1,U,Fn,fv⟩:=O;exact B pins s1 σ H1 vs us Q U Fn fv)) he z
theorem gK(B:CallR X (.type T) r)(F:Gl X x)(hm:X.mg x=Y)(G:QY x=Z (.type T))(J:PA X (e::es) t)(L:x≠"__name__":=by decide)(j:(x==("__debug__":Str))=Wj:=by decide)(he:KU (e::es) X.env=(Wj,eval e X.env)::KU es X.env:=by rfl)(z:(OX pos (KU es X.env)).any (·.1)=Wj:=by rfl):PE X (.Call (.Name x p) (e::es) [] pos) (tCB r t):=by intro pins s σ H Q I h;refine LO (bL I F hm G ?_ L j);exact Ln (thn (J pos pins s σ H _ I h) λus s1 O=>(by obtain⟨vs,H1,U,Fn,fv⟩:=O;exact B pins s1 σ H1 vs us Q U Fn fv)) he z
end
end
end L2
namespace HT
open PySem PyProof.Rows
section
variable{prog:L4}{w:Lq}{A:Lv}{E:h8->r0->Prop}{s:r0}
theorem cat_tup{t b:Wk}{vs ws:List h8}{Q:h8->r0->Prop}(Fn:IsTup s.heap t vs.toArray)(fv:IsTup s.heap b ws.toArray)(J:vs≠[])(h1:ws=[]->Q (.ref t) s)(h2:ws≠[]->Q (.ref s.heap.objs.size) {s with heap:=s.heap.push {cls:=.type "tuple",data:=.seq (vs++ws).toArray}})(hsz:vs.length+ws.length<=KG):KN (model prog w) A (MR .Add (.ref t) (.ref b)) Q E s:=by
 obtain⟨⟨cls,dd,data,sl⟩,ho,L,n,hd⟩:=id Fn;obtain⟨⟨O,z,data2,B⟩,j,G,U,hd2⟩:=id fv;simp only at L hd G hd2;subst L hd G hd2;have e:vs.toArray++ws.toArray=(vs++ws).toArray:=by simp
 by_cases hw:ws=[]
 ·exact Uo ⟨_,ho,rfl⟩ ⟨_,j,rfl⟩ RW TH Q3 PX (PJ _ _)
   (tuple_addW1 t b vs.toArray ws.toArray n U dd z sl B (by simpa using J) (by simp[hw])) ⟨ho,j,h1 hw⟩
 ·refine Uo ⟨_,ho,rfl⟩ ⟨_,j,rfl⟩ RW TH Q3 PX (PJ _ _)
   (tuple_addW2 t b vs.toArray ws.toArray n U dd z sl B (by simpa using J) (by simpa using hw) (by rw[KJ,KJ];exact hsz)) ⟨ho,j,?_⟩
  rw[e];exact h2 hw
noncomputable def sIx(n d:Nat):Option Int->Nat
 |none=>d
 |some v=>if v<0 then(v+(n:Int)).toNat else min v.toNat n
theorem sIx_none(n d:Nat):sIx n d Y=d:=rfl
theorem sIx_nat(n d k:Nat):sIx n d (Z (k:Int))=min k n:=by
 show(if(k:Int)<0 then((k:Int)+(n:Int)).toNat else min (k:Int).toNat n)=min k n
 rw[if_neg ∅,J4]
theorem DT(n d:Nat)(hd:d<=n)(o:Option Int):sIx n d o<=n:=by
 cases o with
 |none=>exact hd
 |some v=>
  show(if v<0 then(v+(n:Int)).toNat else min v.toNat n)<=n
  by_cases hv:v<0
  ·rw[if_pos hv];lia
  ·rw[if_neg hv];exact Nat.min_le_right _ _
theorem rS(v:Int)(n d:Nat):(if v<0 then max (v+(n:Int)) 0 else min v (n:Int))=((sIx n d (Z v):Nat):Int):=by
 show(if v<0 then max (v+(n:Int)) 0 else min v (n:Int))=(((if v<0 then(v+(n:Int)).toNat else min v.toNat n):Nat):Int)
 by_cases hv:v<0
 ·simp only[if_pos hv];lia
 ·simp only[if_neg hv];lia
theorem tU(lo hi:Option Int)(n:Nat):Pw lo hi 1 (n:Int)=(((sIx n 0 lo:Nat):Int),((sIx n n hi:Nat):Int)):=by
 have h1:¬((1:Int)<0):=∅
 unfold Pw;simp only[h1,if_false];refine Up ?_ ?_
 ·cases lo with
  |none=>rfl
  |some v=>exact rS v n 0
 ·cases hi with
  |none=>rfl
  |some v=>exact rS v n n
theorem tV(i j:Nat):Oe (i:Int) (j:Int) 1=j-i:=by
 unfold Oe;have h1:(1:Int) > 0:=∅
 simp only[h1,if_true,Int.ediv_one]
 split<;>lia
theorem jC{v:h8}{o:Option Int}{Q:Option Int->r0->Prop}(p:Sm v o)(h:Q o s):KN (model prog w) A (Builtin.Slice.slicePartIndex v) Q E s:=by
 cases p with
 |none=>exact slicePart_none h
 |int i t=>exact slicePart_int h
theorem ed{sl:Wk}{vl vu:h8}{lo hi:Option Int}{n:Nat}{Q:Int×Int×Nat->r0->Prop}(hs:s.heap.IsSliceOf sl vl vu .none)(pl:Sm vl lo)(pu:Sm vu hi)(h:Q (((sIx n 0 lo:Nat):Int),1,sIx n n hi-sIx n 0 lo) s):KN (model prog w) A (Ra (.ref sl) (pure (n:Int))) Q E s:=by
 obtain⟨os,j,B,z⟩:=id hs;unfold Ra Builtin.Slice.sliceFields;refine gV (gV (Lc j z (x:=vl) rfl (gV (Lc j z (x:=vu) rfl (gV (Lc j z (x:=.none) rfl (tv ?_)))))));refine gV (slicePart_none ?_);show KN _ _ (if((1:Int)==0)=F2 then _ else _) _ _ s
 rw[if_neg (by decide)]
 refine gV (jC pl (gV (jC pu (gV (tv ?_)))));show KN _ _ (match Pw lo hi 1 (n:Int)with|(lo,hi)=>pure (lo,(1:Int),Oe lo hi 1)) _ _ s
 rw[tU lo hi n];show KN _ _ (pure (((sIx n 0 lo:Nat):Int),(1:Int),Oe ((sIx n 0 lo:Nat):Int) ((sIx n n hi:Nat):Int) 1)) _ _ s;rw[tV];exact tv h
theorem yw(xs:Array h8)(i k:Nat):((q7 k).filterMap λ(m:Nat)=>xs[((i:Int)+(m:Int)*1).toNat]?).toArray=((xs.toList.drop i).take k).toArray:=by
 have e:(λ(m:Nat)=>xs[((i:Int)+(m:Int)*1).toNat]?)=λm=>xs[i+m]?:=by
  funext m
  have:((i:Int)+(m:Int)*1).toNat=i+m:=∅
  rw[this]
 rw[e];have:=pick_run xs i k;rw[List.filterMap_map]at this;have e2:((λx=>xs[x]?)∘λx=>i+x)=λm=>xs[i+m]?:=rfl;rw[e2]at this;rw[this]
theorem getItem_tuple_cut{t sl:Wk}{items:Array h8}{vl vu:h8}{lo hi:Option Int}{Q:h8->r0->Prop}(z:IsTup s.heap t items)(hs:s.heap.IsSliceOf sl vl vu .none)(pl:Sm vl lo)(pu:Sm vu hi)(hw:¬(sIx items.size 0 lo=0/\sIx items.size items.size hi=items.size))(h:Q (.ref s.heap.objs.size) {s with heap:=s.heap.push {cls:=.type "tuple",data:=.seq ((items.toList.drop (sIx items.size 0 lo)).take (sIx items.size items.size hi-sIx items.size 0 lo)).toArray}})(hsz:items.size<=KG):KN (model prog w) A (Ru (.ref t) (.ref sl)) Q E s:=by
 have j:sizeOk (.seq ((items.toList.drop (sIx items.size 0 lo)).take (sIx items.size items.size hi-sIx items.size 0 lo)).toArray):=by show((items.toList.drop (sIx items.size 0 lo)).take (sIx items.size items.size hi-sIx items.size 0 lo)).toArray.size<=KG;rw[KJ,Ll,N6,Mr];lia
 have O:sIx items.size items.size hi<=items.size:=DT _ _ (KO _) hi;obtain⟨os,B,F,L⟩:=id hs;have G:s.TypeIs (.ref sl) "slice":=⟨os,B,F⟩;unfold Ru
 try with_reducible refine LH ?_
 first|refine gV (tv ?_)|skip
 refine gV (Uq z.typeIs (by decide) ?_)
 refine gV (L6 (name:=Lf "__getitem__") z.typeIs Nc
  (Le Nc z.typeIs Tv ?_ (U6 _ _)))
 show KN _ _ (Rb (.ref t)>>=_) _ _ s;refine gV (tupleItemsOf_ z ?_);refine gV (OH G ?_);rw[if_pos (by decide)]
 refine gV (ed hs pl pu ?_);have J:¬((((sIx items.size 0 lo:Nat):Int)==0&&(1:Int)==1&&(sIx items.size items.size hi-sIx items.size 0 lo)==items.size)=F2):=by intro q;rw[p0,p0]at q;have U:((sIx items.size 0 lo:Nat):Int)=0:=eq_of_beq q.1.1;have Fn:sIx items.size items.size hi-sIx items.size 0 lo=items.size:=eq_of_beq q.2;exact hw ⟨∅,∅⟩
 show KN _ _ (if(((sIx items.size 0 lo:Nat):Int)==0&&(1:Int)==1&&(sIx items.size items.size hi-sIx items.size 0 lo)==items.size)=F2 then _ else _) _ _ s
 rw[if_neg J,yw]
 first
  |exact gV (m:=Ow _) (LN (tv ⟨_,rfl,tv h⟩) j)
  |exact gV (m:=Ow _) (LN (gV (tv (tv ⟨_,rfl,tv h⟩))) j)
  |exact gV (gV (m:=Ow _) (LN (tv (tv ⟨_,rfl,tv h⟩)) j))
  |exact gV (gV (m:=Ow _) (LN (tv ⟨_,rfl,tv h⟩) j))
end
end HT
namespace L2
open PySem PySem.Spec PyProof.Rows
variable{xs:List V}
section
noncomputable abbrev TO:=St->Hp->(Option Int->Hp->Prop)->Prop
def PO(X:Cx)(e:Option Expr)(t:TO):Prop:=
 ∀(pins:List (Wk×Obj)) (s:r0) (σ:St) (H:Hp) (Q:Option Int->Hp->Prop),Inv X pins σ H s->t σ H Q->
  KN (model X.prog X.w) X.A (evalPart e X.env) (λu s'=>∃o H',Inv X pins σ H' s'/\Sm u o/\Q o H') X.xe s
noncomputable def Bq:TO:=λ_ H Q=>Q Y H
noncomputable def FO(t:TE):TO:=λσ H Q=>t σ H λx H1=>∃i,x=.int i/\Q (Z i) H1
section
variable{X:Cx}{e:Expr}{te:TE}{lo hi:Option Expr}{tl th:TO}{pos p2:Pos}
theorem Br:PO X Y Bq:=by intro pins s σ H Q I h;rw[TJ];exact tv ⟨Y,H,I,.none,h⟩
theorem Bs(h:PE X e te):PO X (Z e) (FO te):=by intro pins s σ H Q I hw;rw[evalPart_some];refine thn (h pins s σ H _ I hw) λu s1 j=>?_;obtain⟨x,H1,z,B,F⟩:=j;obtain⟨i,rfl,q⟩:=F;obtain⟨t,rfl⟩:=B;exact⟨Z i,H1,z,.int i t,q⟩
def SlR(X:Cx)(r:V->Option Int->Option Int->Hp->VK->Prop):Prop:=
 ∀(pins:List (Wk×Obj)) (s:r0) (σ:St) (H:Hp) (x:V) (v vl vu:h8) (lo hi:Option Int) (sl:Wk) (Q:VK),Inv X pins σ H s->RelV x v->s.heap.IsSliceOf sl vl vu .none->Sm vl lo->Sm vu hi->r x lo hi H Q->
  ∃T id,U7 (.type T) "__getitem__"=pure (Z (.builtin id))/\s.TypeIs v T/\KN (model X.prog X.w) X.A (Ru v (.ref sl)) (EP X pins σ Q) X.xe s
theorem SlR.or{r r':V->Option Int->Option Int->Hp->VK->Prop}(h:SlR X r)(h':SlR X r'):SlR X (λx lo hi H Q=>r x lo hi H Q∨r' x lo hi H Q):=by
 intro pins s σ H x v vl vu lo hi sl Q I rx hs pl pu q
 rcases q with q|q
 ·exact h pins s σ H x v vl vu lo hi sl Q I rx hs pl pu q
 ·exact h' pins s σ H x v vl vu lo hi sl Q I rx hs pl pu q
noncomputable def tSl(r:V->Option Int->Option Int->Hp->VK->Prop)(te:TE)(tl th:TO):TE:=λσ H Q=>te σ H λx H1=>tl σ H1 λl H2=>th σ H2 λu H3=>r x l u H3 Q
theorem yx{r:V->Option Int->Option Int->Hp->VK->Prop}(B:SlR X r)(he:PE X e te)(F:PO X lo tl)(G:PO X hi th):PE X (.Subscript e (.Slice lo hi Y p2) pos) (tSl r te tl th):=by
 intro pins s σ H Q I h;refine VC (thn (he pins s σ H _ I h) λv s1 j=>?_);obtain⟨x,H1,J,L,O⟩:=j;refine wpAny_Slice (thn (F pins s1 σ H1 _ J O) λvl s2 ⟨l,H2,U,pl,Fn⟩=>thn (G pins s2 σ H2 _ U Fn) λvu s3 j=>?_);obtain⟨u,z,fv,pu,q3⟩:=j;rw[TJ];refine tv ?_;have I4:Inv X pins σ z {s3 with heap:=s3.heap.push {cls:=.type "slice",data:=.fields #[vl,vu,.none]}}:=fv.kept (t':=s3.toks) λb ob q=>hQ _ q
 obtain⟨T,id,hT,ht,hg⟩:=B pins {s3 with heap:=s3.heap.push {cls:=.type "slice",data:=.fields #[vl,vu,.none]}} σ z x v vl vu l u s3.heap.objs.size Q I4 L (U8 ..) pl pu q3
 show KN (model X.prog X.w) X.A (TK e (.Slice lo hi Y p2) v (.ref s3.heap.objs.size)) (EP X pins σ Q) X.xe {s3 with heap:=s3.heap.push {cls:=.type "slice",data:=.fields #[vl,vu,.none]}}
 exact tail_any (ops:=[.ref s3.heap.objs.size,v]) ht hT hg (by with_unfolding_all rfl)
noncomputable def gL(xs:List V)(lo hi:Option Int):List V:=(xs.drop (HT.sIx xs.length 0 lo)).take (HT.sIx xs.length xs.length hi-HT.sIx xs.length 0 lo)
theorem iW(xs:List V)(lo hi:Option Int):(gL xs lo hi).length<=xs.length:=by unfold gL;rw[Ll,N6];lia
noncomputable def Hi(K:Frag):V->Option Int->Option Int->Hp->VK->Prop:=λx lo hi H Q=>∃a xs,x=.ref a/\SqT K H a xs /\
 ¬(HT.sIx xs.length 0 lo=0/\HT.sIx xs.length xs.length hi=xs.length)/\∀p,H p=Y->Q (.ref p) (upd H p (.tup (gL xs lo hi)))
theorem sl_tup:SlR X (Hi X.K):=by
 intro pins s σ H x v vl vu lo hi sl Q I rx hs pl pu h;obtain⟨a,xs,rfl,hx,hw,q⟩:=h
 cases rx
 obtain⟨its,r,j,z⟩:=I.tuple hx;have hlen:its.toArray.size=xs.length:=by rw[KJ];exact r.length.symm
 refine⟨"tuple",_,PyProof.Rows.slot_tuple_getitem.lookup,j.typeIs,?_⟩;refine HT.getItem_tuple_cut j hs pl pu (by rw[hlen];exact hw) ?_ (by rw[hlen];exact z)
 rw[hlen];refine⟨.ref s.heap.objs.size,_,I.laid (t':=s.toks) (o:=.tup (gL xs lo hi)) (λb ob q=>hQ _ q) (KO _) ?_,rfl,q _ (I.hok.fresh (KO _))⟩;exact⟨LR (iW xs lo hi) z,_,(r.drop (HT.sIx xs.length 0 lo)).take (HT.sIx xs.length xs.length hi-HT.sIx xs.length 0 lo),Qk _ _⟩
noncomputable def AH(K:Frag):R2:=λx y H Q=>∃a b xs ys,x=.ref a/\y=.ref b/\SqT K H a xs/\SqT K H b ys/\xs≠[]/\xs.length+ys.length<=KG /\
 (ys=[]->Q (.ref a) H)/\(ys≠[]->∀p,H p=Y->Q (.ref p) (upd H p (.tup (xs++ys))))
theorem Vals.nil_iff{us:List h8}(r:Vals xs us):us=[]↔xs=[]:=by
 cases r with
 |nil=>simp
 |cons _ _=>simp
theorem op_catT:OpR X (MR .Add) (AH X.K):=by
 intro pins s σ H x y v u Q I rx ry h;obtain⟨a,b,xs,ys,rfl,rfl,J,L,hx,F,O,U⟩:=h
 cases rx
 cases ry
 obtain⟨its,B,Fn,_⟩:=I.tuple J;obtain⟨G,j,p2,_⟩:=I.tuple L;refine HT.cat_tup Fn p2 (λz=>hx (B.nil_iff.mp z)) (λz=>⟨.ref a,H,I,rfl,O (j.nil_iff.mp z)⟩) (λz=>?_) (by rw[<-B.length,<-j.length];exact F)
 refine⟨.ref s.heap.objs.size,_,I.laid (t':=s.toks) (o:=.tup (xs++ys)) (λb ob q=>hQ _ q) (KO _) ?_,rfl,U (λw=>z (j.nil_iff.mpr w)) _ (I.hok.fresh (KO _))⟩;exact⟨by rw[B0];exact F,_,B.append j,Qk _ _⟩
end
end
variable{n:Nat}{pins:List (Wk×Obj)}{σ:St}{H:Hp}{s:r0}{its:List h8}{x:V}
section
noncomputable def ixN(n:Nat)(i:Int):Option Nat:=if 0<=i then(if i<n then Z i.toNat else Y)else if -(n:Int)<=i then Z (i+n).toNat else Y
noncomputable def atI{α:Type}(xs:List α)(i:Int):Option α:=(ixN xs.length i).bind λj=>xs[j]?
theorem rT{i:Int}{j:Nat}(h:ixN n i=Z j):seqIndex? i n=Z j/\j<n /\ -(n:Int)<=i/\i<n:=by
 unfold ixN at h
 by_cases h0:0<=i
 ·rw[if_pos h0]at h
  by_cases h1:i<n
  ·rw[if_pos h1]at h;have e:i.toNat=j:=Ml.inj h;exact⟨by rw[T3 h0 h1,e],∅,∅,h1⟩
  ·rw[if_neg h1]at h;cases h
 ·rw[if_neg h0]at h
  by_cases h1:-(n:Int)<=i
  ·rw[if_pos h1]at h;have e:(i+n).toNat=j:=Ml.inj h;exact⟨by rw[Sn ∅ h1,e],∅,h1,∅⟩
  ·rw[if_neg h1]at h;cases h
theorem kZ{α:Type}{xs:List α}{i:Int}{v:α}(h:atI xs i=Z v):∃j,seqIndex? i xs.length=Z j/\xs[j]?=Z v/\j<xs.length /\ -(xs.length:Int)<=i/\i<xs.length:=by
 unfold atI at h
 cases e:ixN xs.length i with
 |none=>rw[e]at h;cases h
 |some j=>rw[e]at h;obtain⟨h1,h2,z,B⟩:=rT e;exact⟨j,h1,h,h2,z,B⟩
def lf(b:Expr):Prop:=∀o i,subscripted b Wj o i=operate [o,i] (Ru o i)
def IxR(X:Cx)(r:R2):Prop:=
 ∀(value slice:Expr) (pins:List (Wk×Obj)) (s:r0) (σ:St) (H:Hp) (x y:V) (v u:h8) (Q:VK),Inv X pins σ H s->RelV x v->RelV y u->r x y H Q->
  subscripted slice Wj v u=operate [v,u] (Ru v u)->KN (model X.prog X.w) X.A (TK value slice v u) (EP X pins σ Q) X.xe s
def MtR(X:Cx)(id:String)(r:V->List V->Hp->VK->Prop):Prop:=
 ∀(pins:List (Wk×Obj)) (s:r0) (σ:St) (H:Hp) (x:V) (xs:List V) (v:h8) (us:List h8) (Q:VK),Inv X pins σ H s->RelV x v->Vals xs us->r x xs H Q->
  KN (model X.prog X.w) X.A (call (.builtin id) (v::us)) (EP X pins σ Q) X.xe s
section
variable{X:Cx}{a b:Expr}{ta tb:TE}{pos:Pos}
theorem IxR.or{r r':R2}(h:IxR X r)(h':IxR X r'):IxR X (λx y H Q=>r x y H Q∨r' x y H Q):=by
 intro value slice pins s σ H x y v u Q I rx ry q hs
 rcases q with q|q
 ·exact h value slice pins s σ H x y v u Q I rx ry q hs
 ·exact h' value slice pins s σ H x y v u Q I rx ry q hs
theorem FQ{r:R2}(j:IxR X r)(z:PE X a ta)(B:PE X b tb)(hs:lf b):PE X (.Subscript a b pos) (tOp r ta tb):=by intro pins s σ H Q I h;exact VC (yn z B I h λv u s2 x y H2 F rx ry q=>j a b pins s2 σ H2 x y v u Q F rx ry q (hs _ _))
noncomputable def Hj(K:Frag):R2:=λx y H Q=>∃p xs i v,x=.ref p/\y=.int i/\SqL K H p xs/\atI xs i=Z v/\Q v H
noncomputable def Hk(K:Frag):R2:=λx y H Q=>∃p xs i v,x=.ref p/\y=.int i/\SqT K H p xs/\atI xs i=Z v/\Q v H
theorem ix_list:IxR X (Hj X.K):=by
 intro value slice pins s σ H x y v u Q I rx ry h hs;obtain⟨p,xs,i,z,rfl,rfl,F,he,q⟩:=h
 cases rx
 obtain⟨t,rfl⟩:=ry;obtain⟨its,r,pl,O⟩:=I.list F;obtain⟨j,h1,h2,U,G,J⟩:=kZ he;obtain⟨w,ew,rw'⟩:=r.get h2;have L:=r.length;have Fn:=fj;have fin:EP X pins σ Q w s:=⟨z,H,I,rw',q⟩
 by_cases h0:0<=i
 ·have B:i.toNat=j:=by
   rw[T3 h0 J]at h1;exact Ml.inj h1
  exact item_listR pl.isList h0 ∅ (by rw[B];simpa using ew) fin hs
 ·have B:(i+(its.toArray.size:Int)).toNat=j:=by
   rw[Sn ∅ G]at h1
   rw[KJ,<-L];exact Ml.inj h1
  exact So (x:=w) pl.isList.typeIs slot_list_getitem.lookup
   (Sr (Q:=λr s'=>r=w/\EP X pins σ Q r s') pl.isList ∅ (by rw[KJ]<;>lia) ∅ (by rw[B];simpa using ew) ⟨rfl,fin⟩) hs
theorem ix_tup:IxR X (Hk X.K):=by
 intro value slice pins s σ H x y v u Q I rx ry h hs;obtain⟨p,xs,i,z,rfl,rfl,B,he,q⟩:=h
 cases rx
 obtain⟨t,rfl⟩:=ry;obtain⟨its,r,pl,G⟩:=I.tuple B;obtain⟨j,h1,h2,J,L,O⟩:=kZ he;obtain⟨w,ew,rw'⟩:=r.get h2;have F:=r.length;have U:=fj;have fin:EP X pins σ Q w s:=⟨z,H,I,rw',q⟩;exact So (x:=w) pl.typeIs slot_tuple_getitem.lookup
  (getItem_tuple (j:=j) (Q:=λr s'=>r=w/\EP X pins σ Q r s') pl ∅ ∅ (by rw[KJ,<-F];exact h1) (by simpa using ew) ⟨rfl,fin⟩) hs
theorem tW(its:List h8)(n j:Nat)(u:h8):N4 (·.setIfInBounds j u) {cls:=.type "list",data:=.seq its.toArray n}={cls:=.type "list",data:=.seq (its.set j u).toArray n}:=by simp[N4]
theorem Inv.lst{p:Wk}(I:Inv X pins σ H s)(h:H p=Z (.lst xs)):
 ∃(its:List h8) (n:Nat),Vals xs its/\s.heap.get? p=Z {cls:=.type "list",data:=.seq its.toArray n}/\xs.length<=KG:=by
 obtain⟨z,its,n,r,e⟩:=I.hok p _ h;exact⟨its,n,r,e,z⟩
theorem Inv.lstUpd{p:Wk}{ys:List V}{its':List h8}{n':Nat}{f:Obj->Obj}(I:Inv X pins σ H s)(h:H p=Z (.lst xs))(ho:s.heap.get? p=Z {cls:=.type "list",data:=.seq its.toArray n})(hf:f {cls:=.type "list",data:=.seq its.toArray n}={cls:=.type "list",data:=.seq its'.toArray n'})(r:Vals ys its')(j:ys.length<=KG)(t:Nat):
 Inv X pins σ (upd H p (.lst ys)) {s with heap:=s.heap.update p f,toks:=t}:=by
 have e:(s.heap.update p f).get? p=Z {cls:=.type "list",data:=.seq its'.toArray n'}:=by rw[Qh f ho (by rw[hf]<;>rfl),hf]
 refine I.write (x:=p) (e:=p) (by rw[h];trivial) (.inl rfl) (λb u z q=>(Ss _ _ (Ne.symm z)).trans q) ⟨_,e⟩ ?_
 exact⟨j,its',n',r,e⟩
noncomputable def AI:V->V->V->Hp->(Hp->Prop)->Prop:=λo i v H Q=>∃p xs k j,o=.ref p/\i=.int k/\H p=Z (.lst xs)/\ixN xs.length k=Z j/\Q (upd H p (.lst (xs.set j v)))
theorem ph:PSet X AI:=by
 intro pins s σ H o i v ov iv u Q I ro ri rv h;obtain⟨p,xs,k,j,rfl,rfl,F,L,q⟩:=h
 cases ro
 obtain⟨t,rfl⟩:=ri;obtain⟨its,n,r,ho,O⟩:=I.lst F;obtain⟨h1,h2,G,J⟩:=rT L;have z:=r.length;have U:=fj;have I':Inv X pins σ (upd H p (.lst (xs.set j v))) {s with heap:=s.heap.update p (N4 (·.setIfInBounds j u))}:=I.lstUpd F ho (tW its n j u) (r.set rv j) (by rw[SH];exact O) s.toks
 by_cases h0:0<=k
 ·have B:k.toNat=j:=by
   rw[T3 h0 J]at h1;exact Ml.inj h1
  exact PySem.W.ki_setAt ho h0 ∅ (by rw[KJ,<-z];exact J) (by rw[B];exact⟨_,I',q⟩)
 ·have B:(k+(its.toArray.size:Int)).toNat=j:=by
   rw[Sn ∅ G]at h1
   rw[KJ,<-z];exact Ml.inj h1
  exact PySem.W.ki_setBack ho ∅ (by rw[KJ,<-z];exact G) ∅ (by rw[B];exact⟨_,I',q⟩)
theorem pj(lo hi:Option Int)(n:Nat):(PY lo hi Y n).1=((HT.sIx n 0 lo:Nat):Int)/\(PY lo hi Y n).2.1=((HT.sIx n n hi:Nat):Int)/\(PY lo hi Y n).2.2=1:=by
 refine⟨?_,?_,rfl⟩
 ·cases lo with
  |none=>simp[PY,HT.sIx]
  |some i=>
   simp only[PY,HT.sIx,RX,show(1:Int) > 0 by decide,if_true]
   by_cases h:i<0
   ·simp only[h,if_true]<;>lia
   ·simp only[h,if_false]<;>lia
 ·cases hi with
  |none=>simp[PY,HT.sIx]
  |some i=>
   simp only[PY,HT.sIx,RX,show(1:Int) > 0 by decide,if_true]
   by_cases h:i<0
   ·simp only[h,if_true]<;>lia
   ·simp only[h,if_false]<;>lia
theorem nQ(its:List h8)(lo hi:Option Int):slicePick its.toArray lo hi Y=((its.drop (HT.sIx its.length 0 lo)).take (HT.sIx its.length its.length hi-HT.sIx its.length 0 lo)).toArray:=by obtain⟨h1,h2,j⟩:=pj lo hi its.toArray.size;unfold slicePick;rw[h1,h2,j];simp only[sliceRange_one,pick_run,KJ]<;>rfl
noncomputable def Hl(K:Frag):V->Option Int->Option Int->Hp->VK->Prop:=λx lo hi H Q=>∃a xs,x=.ref a/\SqL K H a xs/\∀p,H p=Y->Q (.ref p) (upd H p (.lst (gL xs lo hi)))
theorem sl_list:SlR X (Hl X.K):=by
 intro pins s σ H x v vl vu lo hi sl Q I rx hs pl pu h;obtain⟨a,xs,rfl,hx,q⟩:=h
 cases rx
 obtain⟨its,r,j,z⟩:=I.list hx;have hlen:=r.length;refine⟨"list",_,slot_list_getitem.lookup,j.isList.typeIs,?_⟩;refine RC j.isList hs pl pu .none (by simp) ?_ (by rw[KJ]<;>lia)
 rw[nQ,<-hlen];refine⟨.ref s.heap.objs.size,_,I.laid (t':=s.toks) (o:=.lst (gL xs lo hi)) (λb ob q=>hQ _ q) (KO _) ?_,rfl,q _ (I.hok.fresh (KO _))⟩;exact⟨LR (iW xs lo hi) z,_,0,(r.drop (HT.sIx xs.length 0 lo)).take (HT.sIx xs.length xs.length hi-HT.sIx xs.length 0 lo),A2 _ rfl⟩
noncomputable def dH:V->Bool
 |.non=>F2
 |.bl _=>F2
 |.int _=>F2
 |.str _=>F2
 |_=>Wj
noncomputable def eqV:V->V->Bool
 |.non,.non=>F2
 |.bl a,.bl b=>a==b
 |.bl a,.int b=>(if a then 1 else 0)==b
 |.int a,.bl b=>a==(if b then 1 else 0)
 |.int a,.int b=>a==b
 |.str a,.str b=>a==b
 |_,_=>Wj
theorem DU{A:Lv}{y:V}{u v:h8}(ry:RelV y u)(rx:RelV x v)(fy:dH y=F2)(fx:dH x=F2):SeqAt.EqAt A s u v (eqV y x):=by
 cases y with
 |non=>
  cases ry
  cases x with
  |non=>cases rx;exact SeqAt.EqAt.same _
  |bl b=>cases rx;exact SeqAt.EqAt.none_bool b
  |int b=>obtain⟨t,rfl⟩:=rx;exact SeqAt.EqAt.none_int b t
  |str b=>obtain⟨t,rfl⟩:=rx;exact SeqAt.EqAt.none_str b t
  |_=>exact absurd (show Wj=F2 from fx) B2
 |bl a=>
  cases ry
  cases x with
  |non=>cases rx;exact SeqAt.EqAt.bool_none a
  |bl b=>cases rx;exact SeqAt.EqAt.bool_bool a b
  |int b=>obtain⟨t,rfl⟩:=rx;exact SeqAt.EqAt.bool_int a b t
  |str b=>obtain⟨t,rfl⟩:=rx;exact SeqAt.EqAt.bool_str a b t
  |_=>exact absurd (show Wj=F2 from fx) B2
 |int a=>
  obtain⟨t',rfl⟩:=ry
  cases x with
  |non=>cases rx;exact SeqAt.EqAt.int_none a t'
  |bl b=>cases rx;exact SeqAt.EqAt.int_bool a t' b
  |int b=>obtain⟨t,rfl⟩:=rx;exact SeqAt.EqAt.int_int a t' b t
  |str b=>obtain⟨t,rfl⟩:=rx;exact TY a t' b t
  |_=>exact absurd (show Wj=F2 from fx) B2
 |str a=>
  obtain⟨t',rfl⟩:=ry
  cases x with
  |non=>cases rx;exact SeqAt.EqAt.str_none a t'
  |bl b=>cases rx;exact SeqAt.EqAt.str_bool a t' b
  |int b=>obtain⟨t,rfl⟩:=rx;exact TZ a t' b t
  |str b=>obtain⟨t,rfl⟩:=rx;exact SeqAt.EqAt.str_str a t' b t
  |_=>exact absurd (show Wj=F2 from fx) B2
 |_=>exact absurd (show Wj=F2 from fy) B2
noncomputable def eqU(x:V)(u:h8):Bool:=match u with
 |.none=>eqV .non x
 |.bool b=>eqV (.bl b) x
 |.int i _=>eqV (.int i) x
 |.str z _=>eqV (.str z) x
 |_=>Wj
theorem vL{y:V}{u:h8}(r:RelV y u)(f:dH y=F2):eqU x u=eqV y x:=by
 cases y with
 |non=>cases r;rfl
 |bl b=>cases r;rfl
 |int i=>obtain⟨t,rfl⟩:=r;rfl
 |str z=>obtain⟨t,rfl⟩:=r;rfl
 |_=>exact absurd (show Wj=F2 from f) B2
theorem lg{x:V}:∀{xs:List V} {us:List h8},Vals xs us->xs.all dH=F2->us.any (eqU x)=xs.any λy=>eqV y x
 |_,_,.nil,_=>rfl
 |y::xs,u::us,.cons r t,f=>by rw[Nk,p0]at f;rw[N8,N8,vL r f.1,lg t f.2]
theorem ja{A:Lv}{s:r0}{x:V}{v:h8}(rx:RelV x v)(fx:dH x=F2):∀{xs:List V} {us:List h8},Vals xs us->xs.all dH=F2->∀u∈us,SeqAt.EqAt A s u v (eqU x u)
 |_,_,.nil,_=>λu j=>by cases j
 |y::xs,u::us,.cons r t,f=>fun u' j=>by
  rw[Nk,p0]at f
  rcases D1.mp j with rfl|j
  ·rw[vL r f.1];exact DU r rx f.1 fx
  ·exact ja rx fx t f.2 u' j
noncomputable def inV(x:V)(xs:List V):Bool:=xs.any λy=>eqV y x
noncomputable def rIn(K:Frag)(neg:Bool):R2:=λx y H Q=>∃p xs,y=.ref p/\(SqL K H p xs∨SqT K H p xs)/\dH x=F2/\xs.all dH=F2/\Q (.bl (if neg then !inV x xs else inV x xs)) H
theorem vM:OpR X (Na .In) (rIn X.K Wj):=by
 intro pins s σ H x y v u Q I rx ry h;obtain⟨p,xs,rfl,j,fx,fs,q⟩:=h
 cases ry
 rcases j with j|j
 ·obtain⟨its,r,pl,z⟩:=I.list j;refine SeqAt.in_listAt (eqU x) pl.isList (λw hw=>ja rx fx r fs w (by simpa using hw)) ⟨.bl _,H,I,rfl,?_⟩
  rw[show its.toArray.any (eqU x)=its.any (eqU x) by simp,lg r fs]
  exact q
 ·obtain⟨its,r,pl,z⟩:=I.tuple j;refine SeqAt.in_tupleAt (eqU x) pl (λw hw=>ja rx fx r fs w (by simpa using hw)) ⟨.bl _,H,I,rfl,?_⟩
  rw[show its.toArray.any (eqU x)=its.any (eqU x) by simp,lg r fs]
  exact q
theorem pC:CallR X (.type "list") (λxs H Q=>∃p ys,xs=[.ref p]/\(SqL X.K H p ys∨SqT X.K H p ys)/\∀l,H l=Y->Q (.ref l) (upd H l (.lst ys))):=by
 intro pins s σ H xs us Q I r h;obtain⟨p,ys,rfl,j,q⟩:=h;obtain⟨u,rfl,rx⟩:=fN r
 cases rx
 have fin:∀(its:List h8),Vals ys its->ys.length<=KG->∀(h':Heap) (c':Nat),(∀b o',s.heap.get? b=Z o'->h'.get? b=Z o')->
  h'.get? s.heap.objs.size=Z {cls:=.type "list",dict:=Y,data:=.seq its.toArray c',slots:=#[]}->EP X pins σ Q (.ref s.heap.objs.size) {s with heap:=h'}:=λits r' z h' c' kp e=>
  ⟨.ref s.heap.objs.size,_,I.laid (t':=s.toks) kp (KO _) (show ObjOk X.prog X.w _ h' _ (.lst ys)from⟨z,its,c',r',e⟩),rfl,q _ (I.hok.fresh (KO _))⟩
 rcases j with j|j
 ·obtain⟨its,r',pl,z⟩:=I.list j;have hlen:=r'.length;obtain⟨o,ho,B,n,hd⟩:=pl.isList;exact call_list_seq p (.inl rfl) ho B hd (λh' c' kp e=>fin its r' z h' c' kp e) (by simp only[KJ]<;>lia)
 ·obtain⟨its,r',pl,z⟩:=I.tuple j;have hlen:=r'.length;obtain⟨o,ho,B,n,hd⟩:=pl;exact call_list_seq p (.inr rfl) ho B hd (λh' c' kp e=>fin its r' z h' c' kp e) (by simp only[KJ]<;>lia)
theorem nS:CallR X (.type "tuple") (λxs H Q=>∃p ys,xs=[.ref p]/\((SqL X.K H p ys/\∀l,H l=Y->Q (.ref l) (upd H l (.tup ys)))∨(SqT X.K H p ys/\Q (.ref p) H))):=by
 intro pins s σ H xs us Q I r h;obtain⟨p,ys,rfl,h⟩:=h;obtain⟨u,rfl,rx⟩:=fN r
 cases rx
 rcases h with⟨j,q⟩|⟨j,q⟩
 ·obtain⟨its,r',pl,z⟩:=I.list j;have hlen:=r'.length;refine call_tuple_list pl.isList (λh' kp=>?_) (by simp only[KJ]<;>lia)
  have B:Inv X pins σ H {s with heap:=h'}:=I.kept (t':=s.toks) kp
  have F:Inv X pins σ (upd H h'.objs.size (.tup ys)) {s with heap:=h'.push {cls:=.type "tuple",data:=.seq its.toArray}}:=B.laid (t':=s.toks) (λb o e=>hQ _ e) (KO _) (show ObjOk X.prog X.w _ _ _ (.tup ys)from⟨z,its,r',Qk _ _⟩)
  exact⟨.ref h'.objs.size,_,F,rfl,q _ (B.hok.fresh (KO _))⟩
 ·obtain⟨its,r',pl,z⟩:=I.tuple j;exact call_tuple_same pl ⟨.ref p,H,I,rfl,q⟩
def tyV(K:Frag)(T:String)(x:V)(H:Hp):Prop:=match x with
 |.str _=>T="str"
 |.int _=>T="int"
 |.ref p=>(T="list"/\∃xs,SqL K H p xs)∨(T="tuple"/\∃o,K.lookup p=Z o/\o.cls=.type "tuple"/\o.dict=Y) ∨
  (T="dict"/\((∃kvs,H p=Z (.dK kvs))∨∃kvs,H p=Z (.dT kvs)))∨(T="set"/\∃S n,H p=Z (.set S n))
 |_=>False
theorem DV{T:String}{v:h8}(I:Inv X pins σ H s)(r:RelV x v)(ty:tyV X.K T x H):
 s.TypeIs v T/\∀a,v=.ref a->∃ob,s.heap.get? a=Z ob/\ob.dict=Y:=by
 cases x with
 |str z=>
  obtain⟨t,rfl⟩:=r
  cases(show T="str" from ty)
  exact⟨typeIs_str s z t,λ_ e=>nomatch e⟩
 |int i=>
  obtain⟨t,rfl⟩:=r
  cases(show T="int" from ty)
  exact⟨Su s i t,λ_ e=>nomatch e⟩
 |ref p=>
  cases r
  rcases ty with⟨rfl,xs,B⟩|⟨rfl,o,j,F,hd⟩|⟨rfl,j⟩|⟨rfl,S,n,j⟩
  ·obtain⟨its,_,pl,_⟩:=I.list B;refine⟨pl.isList.typeIs,λa e=>?_⟩
   cases e
   obtain⟨o,n,e,c,hd,_⟩:=pl;exact⟨o,e,hd⟩
  ·refine⟨⟨o,I.kIn p o j,F⟩,λa e=>?_⟩
   cases e
   exact⟨o,I.kIn _ o j,hd⟩
  ·have z:∃o,s.heap.get? p=Z o/\o.ExactDict:=by
    rcases j with⟨kvs,j⟩|⟨kvs,j⟩
    ·obtain⟨_,_,_,_,o,_,_,e,ex,_⟩:=I.hok p _ j;exact⟨o,e,ex⟩
    ·obtain⟨_,_,_,_,o,_,_,e,ex,_⟩:=I.hok p _ j;exact⟨o,e,ex⟩
   obtain⟨o,e,ex⟩:=z;refine⟨⟨o,e,ex.1⟩,λa e2=>?_⟩
   cases e2
   exact⟨o,e,ex.2.1⟩
  ·obtain⟨o,_,_,_,e,ex,_⟩:=I.hok p _ j;refine⟨⟨o,e,ex.1⟩,λa e2=>?_⟩
   cases e2
   exact⟨o,e,ex.2.1⟩
 |_=>exact False.elim ty
noncomputable def tBM(K:Frag)(T:String)(r:V->List V->Hp->VK->Prop)(to:TE)(t:TA):TE:=λσ H Q=>to σ H λx H1=>tyV K T x H1/\t σ H1 λxs H2=>r x xs H2 Q
variable{o e:Expr}{es:List Expr}{to:TE}{t:TA}{name:Str}{apos cpos:Pos}{T id:String}{r:V->List V->Hp->VK->Prop}
theorem AJ (pa:PlainAttrs T)(slot:Slot T name id)(G:typeOf (.builtin id)=pure (.type "method_descriptor"))(hm:MtR X id r)(ho:PE X o to)(Fn:PA X (e::es) t)(z:RE o name X.env (eval o X.env)=eval o X.env:=by rfl)(F:((OX cpos (KU (e::es) X.env)).all (fun x=>!x.1)&&(VD cpos (T5 [] X.env)).all (fun x=>x.1.isSome)
   && decide ((e::es).length+([]:List QZ).length+(if([]:List QZ).isEmpty then 0 else 1)<30))=F2:=by rfl)(B:(apos.endLine==cpos.line)=F2:=by rfl)(hs:KU (e::es) X.env=(Wj,eval e X.env)::KU es X.env:=by rfl)(j:(OX cpos (KU es X.env)).any (·.1)=Wj:=by rfl):
 PE X (.Call (.Attribute o name apos) (e::es) [] cpos) (tBM X.K T r to t):=by
 intro pins s σ H Q I h;refine wpAny_Call_method_late z F B rfl (thn (ho pins s σ H _ I h) λv s1 J=>?_);obtain⟨x,H1,L,O,ty,fv⟩:=J;obtain⟨h1,h2⟩:=DV L O ty;refine⟨T,id,pa,slot,G,h1,h2,?_⟩;have U:=Fn cpos pins s1 σ H1 _ L fv;rw[hs]at U⊢;refine Q4 (by show(Wj || (OX cpos (KU es X.env)).any (·.1))=Wj;rw[j]<;>rfl) (QE ?_)
 exact thn U λus s2 J=>(by obtain⟨vs,H2,I2,r2,q2⟩:=J;exact hm pins s2 σ H2 x vs v us Q I2 O r2 q2)
end
end
section
def MtM(X:Cx)(id:String)(r:V->List V->Hp->VK->Prop):Prop:=
 ∀(pins:List (Wk×Obj)) (s:r0) (σ:St) (H:Hp) (x:V) (xs:List V) (v:h8) (us:List h8) (Q:VK),Inv X pins σ H s->RelV x v->Vals xs us->r x xs H Q->
  KN (model X.prog X.w) X.A (call (.builtin id) (v::us)) (EP X pins σ Q) X.xe s
theorem Vals.one:∀{x:V} {us:List h8},Vals [x] us->∃u,us=[u]/\RelV x u
 |_,_,.cons r .nil=>⟨_,rfl,r⟩
theorem Vals.reverse{us:List h8}(h:Vals xs us):Vals xs.reverse us.reverse:=by
 induction h with
 |nil=>exact .nil
 |cons r t ih=>rw[P5,P5];exact Vals.append ih (.cons r .nil)
theorem Vals.rep{xs:List V}{us:List h8}(h:Vals xs us):∀k:Nat,Vals (z4 k xs).flatten (z4 k us).flatten
 |0=>.nil
 |k+1=>by rw[Ms,Ms,Nz,Nz];exact Vals.append h (Vals.rep h k)
theorem gO(its:List h8):∀(k:Nat) (acc:List h8),
 U9 (λj z=>j++z) acc.toArray (z4 k its.toArray)=(acc++(z4 k its).flatten).toArray
 |0,acc=>by simp
 |k+1,acc=>by
  have e:acc.toArray++its.toArray=(acc++its).toArray:=by simp
  have e2:(acc++its)++(z4 k its).flatten=acc++(z4 (k+1) its).flatten:=by rw[Ms,Nz,Lx]
  rw[<-e2,<-gO its k (acc++its),<-e,Ms,Vn]
section
variable{X:Cx}{pins:List (Wk×Obj)}{σ:St}{H:Hp}{s:r0}{l b:Wk}{xs ys zs:List V}
theorem Inv.lset{its':List h8}{f:Array h8->Array h8}{t':Nat}(I:Inv X pins σ H s)(j:H l=Z (.lst xs))(e:s.heap.get? l=Z {cls:=.type "list",data:=.seq its.toArray n})(hf:f its.toArray=its'.toArray)(z:Vals ys its')(B:ys.length<=KG):
 Inv X pins σ (upd H l (.lst ys)) {s with heap:=s.heap.update l (N4 f),toks:=t'}:=by
 have q:=PySem.IsL.update e f;rw[hf]at q;refine I.write (x:=l) (e:=l) (by rw[j];exact trivial) (.inl rfl) (λb' u F G=>(Ss s.heap (N4 f) (Ne.symm F)).trans G) ⟨_,q⟩ ?_
 exact⟨B,its',_,z,q⟩
theorem Inv.lnew{t':Nat}(I:Inv X pins σ H s)(j:Vals ys its)(z:ys.length<=KG):
 Inv X pins σ (upd H s.heap.objs.size (.lst ys)) {s with heap:=s.heap.push {cls:=.type "list",data:=.seq its.toArray},toks:=t'}:=
 I.laid (λ_ _ q=>hQ _ q) (KO _) ⟨z,its,0,j,A2 _ rfl⟩
theorem Inv.fresh(I:Inv X pins σ H s):H s.heap.objs.size=Y:=I.hok.fresh (KO _)
theorem Inv.lstM(I:Inv X pins σ H s)(j:H l=Z (.lst xs)):xs.length<=KG/\∃(its:List h8) (n:Nat),Vals xs its/\xs.length=its.length/\s.heap.get? l=Z {cls:=.type "list",data:=.seq its.toArray n}:=by obtain⟨z,its,n,r,e⟩:=I.hok l _ j;exact⟨z,its,n,r,r.length,e⟩
theorem pE(h:n<=KG):Ox n=Wj:=by unfold Ox;exact decide_eq_false ∅
end
section
variable{X:Cx}
noncomputable def rV:V->List V->Hp->VK->Prop:=λx vs H Q=>∃l xs y,x=.ref l/\vs=[y]/\H l=Z (.lst xs)/\xs.length<KG/\Q .non (upd H l (.lst (xs++[y])))
theorem mC:MtM X "list.append" rV:=by
 intro pins s σ H x vs v us Q I rx rv h;obtain⟨l,xs,y,rfl,rfl,j,B,q⟩:=h
 cases rx
 obtain⟨u,rfl,ru⟩:=rv.one;obtain⟨z,its,n,r,G,e⟩:=I.lstM j;refine Qn F.slot_list_append ⟨_,e,rfl⟩ F.entry_list_append (F.args_list_append_2 _ _) (PySem.list_append l its.toArray n u (by rw[KJ];lia)) ⟨e,?_⟩
 refine⟨.non,_,I.lset (its':=its++[u]) j e (by simp) (r.append (.cons ru .nil)) ?_,rfl,q⟩
 rw[B0,Mt];lia
noncomputable def Hm:R2:=λx y H Q=>∃l b xs zs,x=.ref l/\y=.ref b/\H l=Z (.lst xs)/\H b=Z (.lst zs)/\xs.length+zs.length<=KG/\∀p,H p=Y->Q (.ref p) (upd H p (.lst (xs++zs)))
theorem op_cat:OpR X (MR .Add) Hm:=by
 intro pins s σ H x y v u Q I rx ry h;obtain⟨l,b,xs,zs,rfl,rfl,B,F,L,q⟩:=h
 cases rx
 cases ry
 obtain⟨z,its,n,r,O,e⟩:=I.lstM B;obtain⟨U,j,Fn,G,J,e2⟩:=I.lstM F;refine PySem.P.add_list e e2 ?_ (by rw[KJ,KJ];lia)
 have ea:its.toArray++j.toArray=(its++j).toArray:=by simp
 rw[ea];exact⟨.ref _,_,I.lnew (t':=s.toks) (r.append G) (by rw[B0];lia),rfl,q _ I.fresh⟩
noncomputable def Hn:R2:=λx y H Q=>∃l k xs,x=.ref l/\y=.int k/\H l=Z (.lst xs) /\ -(2^63)<=k/\k<2^63/\xs.length*k.toNat<=KG /\
 ∀p,H p=Y->Q (.ref p) (upd H p (.lst (z4 k.toNat xs).flatten))
theorem rW{α:Type}(xs:List α)(k:Nat):(z4 k xs).flatten.length=k*xs.length:=by
 induction k with
 |zero=>simp
 |succ k ih=>rw[Ms,Nz,B0,ih,MU,Ur]
theorem op_rep:OpR X (MR .Mult) Hn:=by
 intro pins s σ H x y v u Q I rx ry h;obtain⟨l,k,xs,rfl,rfl,fv,h1,h2,Fn,q⟩:=h
 cases rx
 obtain⟨t,rfl⟩:=ry;obtain⟨z,its,n,r,hl,e⟩:=I.lstM fv;have hlen:its.toArray.size*k.toNat<=KG:=by rw[KJ,<-hl];exact Fn
 have B:¬its.toArray.size*k.toNat > (2^63-1) / 8:=by
  have:(KG:Nat)<=(2^63-1) / 8:=by decide
  lia
 have G:¬(!Builtin.List.listFitsIndex k)=F2:=by rw[fitsIndex_both h1 h2];exact B2
 have j:¬Ox (its.toArray.size*k.toNat)=F2:=by rw[pE hlen];exact B2
 have J:U9 (λL O=>L++O) #[] (z4 (if its.toArray.isEmpty=F2 then 0 else k.toNat) its.toArray)=(z4 k.toNat its).flatten.toArray:=by
  have f0:∀m:Nat,U9 (λL O=>L++O) #[] (z4 m its.toArray)=(z4 m its).flatten.toArray:=λm=>by have:=gO its m [];rw[QN]at this;exact this
  rw[f0]
  cases its with
  |nil=>simp
  |cons a r'=>rw[if_neg (by simp)]
 refine Rk (T:="list") (U:="int") (by decide) ⟨_,e,rfl⟩ (λs'=>Su s' k t) noFill_list_mul Vo QO repeat_list F.slot_int_index.lookup
  (Qn QO (Su s k t) UO (Us _ _) (int___rmul___int_list k t l its.toArray n)
    ⟨e,rfl,⟨_,e,rfl⟩,Qn F.slot_list_mul ⟨_,e,rfl⟩ F.entry_list_mul (F.args_list_mul_2 _ _) (AutoListH.list___mul___list_int_3 l its.toArray n k t G B j) ⟨e,?_⟩⟩)
 rw[J];exact⟨.ref _,_,I.lnew (t':=s.toks) (r.rep k.toNat) (by rw[rW,OI];exact Fn),rfl,q _ I.fresh⟩
end
end
end L2
namespace Att
open PySem PySem.W PySem.Calls PyProof.Rows
theorem jD{P:Params}{h:Heap}:∀(ns:List Int) (vs:List h8),WellAll P h vs (ns.map WData.int)->Vv vs ns:=by
 intro ns
 induction ns with
 |nil=>
  intro vs w;rw[Om]at w
  cases w
  exact .nil
 |cons n ns ih=>
  intro vs w;rw[KI]at w
  cases w with
  |cons a b=>
   cases a
   exact .cons _ _ (ih _ b)
theorem vN{l:OpenLaw}{n:Nat}(O:l.most=Z n){P:Params}{h:Heap}{args:List WData}{vals:List h8}(j:l.row.toRowW.claim.pre args=F2)(G:WellAll P h vals args):
 ∃a vs ns,vals=[Lu a]/\args=[WData.list (ns.map WData.int)]/\h.get? a=Z {cls:=.type "list",data:=.seq vs.toArray}/\Vv vs ns/\ns.length<=n:=by
 have J:WShape.hasAll [] args [.list .int]=F2:=(pre_splitW j).1;have L:l.pre.holds [] {args:=args}=F2:=(pre_splitW j).2;obtain⟨d,r,rfl,h1,h2⟩:=hasAllW_cons J;obtain rfl:=hasAllW_nil h2;obtain⟨xs,rfl,U⟩:=hasW_list h1;obtain⟨ns,rfl⟩:=items_int U;have hlen:ns.length<=n:=by
  unfold OpenLaw.pre at L;have B:(WTm.not (.lt (.lit (.int (n:Int))) (.len (.arg 0)))).holds [] {args:=[.list (ns.map .int)]}=F2:=by have B:=(holds_andW L).1;rw[O]at B;exact B
  have F:=condW_of B (w_not (w_lt w_lit (w_len_list (w_arg rfl))));rw[m1]at F;refine Nat.le_of_not_lt λq=>?_;have q':(n:Int)<((ns.length:Nat):Int):=∅
  first
   |(rw[decide_eq_true q']at F;exact absurd F (by decide))
   |(simp at F;lia)
 cases G with
 |cons Fn fv=>
  cases fv
  cases Fn with
  |list ho z=>exact⟨_,_,ns,rfl,rfl,ho,jD ns _ z,hlen⟩
theorem vO(l:OpenLaw)(args:List WData):l.row.toRowW.claim.post args (.bool F2) args=F2:=
 postW_of (r:=l.row.toRowW) (X:=(F2==F2))
  (show WShape.has [] (.bool F2) .bool=F2 by first|rfl|decide|simp[WShape.has,WShape.arms,WShape.armsAll])
  (show(WTm.eq .res (.lit (.bool F2))).value [] {args:=args,res:=Z (.bool F2),after:=args}=Z (.bool (F2==F2))from w_eq_bool (w_res rfl) w_lit) rfl
theorem attach_call {l:OpenLaw}{n:Nat}{q:L4}{loose:List Str}{XP:(Str->Option h8)->Heap->Prop}{YP:Lq->Heap->Prop}{d:DefRec}(fv:l.most=Z n)(B:d.params.defaults=[])(call:∀(w:Lq) (s₀ s₁:r0) (mg mb:Str->Option h8) (fa:Wk) (o:Obj) (pm cd doc:h8) (a:Wk) (vs:List h8) (ns:List Int),
   Ground q loose [] XP w s₀ mg mb s₁.heap->YP w s₁.heap->
   s₁.heap.get? fa=Z o->o.data=.func (docDef d.name d.params d.body d.scope pm cd doc)->s₁.heap.CodeRec cd d.name->mg d.name=Z (.ref fa)->
   s₁.heap.get? a=Z {cls:=.type "list",data:=.seq vs.toArray}->Vv vs ns->ns.length<=n->s₁.gens=#[]->
   Ob (model l.prog w) Tr (.call (.ref fa) ⟨[.ref a],[]⟩) (λr s'=>r=.ok (.ret (.bool F2))/\OldK s₁.heap s'.heap/\s'.os=s₁.os/\Rr s'.gens) s₁):
 WalkO q loose XP YP l.row.toRowW d [] (λf vs=>VE f vs):=by
 intro w s₀ s₁ mg mb G Fn fa o pm cd doc dV kV ho hd F O J hg args vals as j U JJ L JK;obtain rfl:dV=.none:=Dflts.none O B;obtain rfl:kV=.none:=Dflts.noKw O;obtain⟨a,vs,ns,rfl,rfl,z,hints,hlen⟩:=vN fv j L;refine enter_call (Nh (call w s₀ s₁ mg mb fa o pm cd doc a vs ns G Fn ho (fd_plain hd) F J z hints hlen hg) λr s' hq=>?_);obtain⟨rfl,h2,h3,h4⟩:=hq;exact⟨.inl ⟨.bool F2,.bool F2,[],rfl,λ_=>rfl,.bool F2,vO l _,λ_=>⟨Ut,λ_ hm=>(nomatch hm)⟩⟩,h2,h3,h4⟩
section
variable{prog:L4}{w:Lq}{A:Lv}{E:h8->r0->Prop}{s:r0}{K:Frag}
noncomputable def IG(h:Heap)(L d:Wk):List (Wk×Obj):=(q7 h.objs.size).filterMap λa=>if a=L∨a=d then Y else(h.get? a).map λo=>(a,o)
end
end Att
namespace L2
open PySem PySem.Spec PyProof.Rows
section
theorem mD:∀{vs:List h8} {ns:List Int},Vv vs ns->Vals (ns.map V.int) vs
 |_,_,.nil=>.nil
 |_,_,.cons n t h=>.cons ⟨t,rfl⟩ (mD h)
end
variable{x qual:Str}{st:Stmt}{f:Wk}{H:Hp}
section
noncomputable def cW(s:Stmt):OW:=match s with
 |.FunctionDef _ a _ _ _ _ _ _ _ _=>a
 |_=>{posonlyargs:=[],args:=[],vararg:=Y,kwonlyargs:=[],kw_defaults:=[],kwarg:=Y,defaults:=[]}
noncomputable def br(s:Stmt):List Stmt:=match s with
 |.FunctionDef _ _ b _ _ _ _ _ _ _=>b
 |_=>[]
noncomputable def ao(s:Stmt):Scope:=match s with
 |.FunctionDef _ _ _ _ _ _ sc _ _ _=>sc
 |_=>{kind:=.function,names:=[],isGenerator:=Wj,isCoroutine:=Wj}
noncomputable abbrev CX0:CXT:=λ_ _ _ _ _ _=>False
noncomputable abbrev E0:XK:=λ_ _ _=>False
theorem tX{X:Cx}:jB CX0 X E0:=λ_ _ _ _ _ _ _ h=>h.elim
structure Fun(K:Frag)(x qual:Str)(st:Stmt)(f:Wk)(fd:N5):Prop where
 ex:∃(oc:h8) (od:Option Wk) (kV doc pm:h8) (an:Option Wk) (cdv ct:h8) (osl:Array (Option h8)),
  fd=Nj x qual (cW st) (br st) (ao st) .none kV doc pm an cdv ct/\K.lookup f=Z ⟨oc,od,.func fd,osl⟩/\Pb K cdv qual=F2
 kp:NZ K (.ref f)=F2
section
variable{P:L4}{w:Lq}{K:Frag}{mg:Str->Option h8}{base:Heap}
theorem Fun.ok {fd:N5}{N ps:List Str}{k:Nat}{sp:Sp}(F:Fun K x qual st f fd)(S:cK N ps (ao st))(len:∀vs H Q E,sp vs H Q E->vs.length=ps.length)(j:∀(cdv:h8) (A:Lv) (outer:List Env) (s:r0) (H:Hp) (vs:List V) (Q:VK) (E:XK),Room k (A.deeper (Ql qual (ao st) s.heap.objs.size f cdv))->sp vs H Q E->
   ∃t,PSs (cI CX0 P w K mg base N qual (ao st) f cdv A outer s H E).nox (br st) t/\t {nx:=λ_ H'=>Q .non H',rt:=Q} (bD N vs) H):FnOk P w K mg base CX0 (k+1) f fd ps sp:=by
 obtain⟨oc,od,kV,doc,pm,an,cdv,ct,osl,rfl,lk,z⟩:=F.ex;refine AG lk z S len λA outer s H vs Q E G B=>?_;obtain⟨t,h,q⟩:=j cdv A outer s H vs Q E G B;exact⟨t,h.nox,q⟩
theorem Fun.binds{fd:N5}{ps:List Str}(F:Fun K x qual st f fd)(h:∀(kV doc pm:h8) (an:Option Wk) (cdv ct:h8) (us:List h8),us.length=ps.length->SY (Nj x qual (cW st) (br st) (ao st) .none kV doc pm an cdv ct) ⟨us,[]⟩=pure (ps.zip us)):Binds K fd ps []:=by obtain⟨oc,od,kV,doc,pm,an,cdv,ct,osl,rfl,lk,j⟩:=F.ex;exact .all (h kV doc pm an cdv ct)
theorem ah{oc:h8}{od an:Option Wk}{osl:Array (Option h8)}{kV doc pm cdv ct:h8}(l:K.lookup f=Z ⟨oc,od,.func (Nj x qual (cW st) (br st) (ao st) .none kV doc pm an cdv ct),osl⟩)(c:Pb K cdv qual=F2)(k:NZ K (.ref f)=F2):Fun K x qual st f (Nj x qual (cW st) (br st) (ao st) .none kV doc pm an cdv ct):=⟨⟨oc,od,kV,doc,pm,an,cdv,ct,osl,rfl,l,c⟩,k⟩
end
def Same(H H':Hp):Prop:=∀b o,H b=Z o->H' b=Z o
theorem Same.trans{H1 H2:Hp}(a:Same H H1)(b:Same H1 H2):Same H H2:=λc o h=>b c o (a c o h)
theorem Same.free{H':Hp}(e:Same H H'){l:Wk}(h:H' l=Option.none):H l=Option.none:=by
 cases q:H l with
 |none=>rfl
 |some o=>
  rw[e l o q]at h
  cases h
theorem Same.seq{K:Frag}{H':Hp}{a:Wk}{xs:List V}(e:Same H H')(h:SqL K H a xs):SqL K H' a xs:=by
 rcases h with(h|⟨o,h⟩)|h
 ·exact .inl (.inl (e _ _ h))
 ·exact .inl (.inr ⟨o,e _ _ h⟩)
 ·exact .inr h
end
end L2
namespace HT
open PySem PySem.Spec PyProof.Rows
section
variable{prog:L4}{w:Lq}{A:Lv}{E:h8->r0->Prop}{s:r0}
theorem getItem_tuple_whole{t sl:Wk}{items:Array h8}{vl vu:h8}{lo hi:Option Int}{Q:h8->r0->Prop}(j:IsTup s.heap t items)(hs:s.heap.IsSliceOf sl vl vu .none)(pl:Sm vl lo)(pu:Sm vu hi)(hw:sIx items.size 0 lo=0/\sIx items.size items.size hi=items.size)(h:Q (.ref t) s):KN (model prog w) A (Ru (.ref t) (.ref sl)) Q E s:=by
 obtain⟨os,z,B,J⟩:=id hs;have F:s.TypeIs (.ref sl) "slice":=⟨os,z,B⟩;unfold Ru
 try with_reducible refine LH ?_
 first|refine gV (tv ?_)|skip
 refine gV (Uq j.typeIs (by decide) ?_)
 refine gV (L6 (name:=Lf "__getitem__") j.typeIs Nc
  (Le Nc j.typeIs Tv ?_ (U6 _ _)))
 show KN _ _ (Rb (.ref t)>>=_) _ _ s;refine gV (tupleItemsOf_ j ?_);refine gV (OH F ?_);rw[if_pos (by decide)]
 refine gV (ed hs pl pu ?_);have G:(((sIx items.size 0 lo:Nat):Int)==0&&(1:Int)==1&&(sIx items.size items.size hi-sIx items.size 0 lo)==items.size)=F2:=by rw[hw.1,hw.2];simp
 show KN _ _ (if(((sIx items.size 0 lo:Nat):Int)==0&&(1:Int)==1&&(sIx items.size items.size hi-sIx items.size 0 lo)==items.size)=F2 then _ else _) _ _ s
 rw[if_pos G];refine gV (m:=Rc (.ref t)) ?_;unfold Rc;refine gV (OH j.typeIs (tv ?_));show KN _ _ (if F2=F2 then _ else _) _ _ s
 rw[if_pos rfl];exact gV (Mw (tv ⟨_,rfl,tv h⟩))
end
end HT
namespace L2
open PySem PySem.Spec PyProof.Rows
section
section
variable{X:Cx}
noncomputable def Ho(K:Frag):V->Option Int->Option Int->Hp->VK->Prop:=λx lo hi H Q=>∃a xs,x=.ref a/\SqT K H a xs/\(HT.sIx xs.length 0 lo=0/\HT.sIx xs.length xs.length hi=xs.length)/\Q x H
theorem yz:SlR X (Ho X.K):=by
 intro pins s σ H x v vl vu lo hi sl Q I rx hs pl pu h;obtain⟨a,xs,rfl,hx,hw,q⟩:=h
 cases rx
 obtain⟨its,r,j,z⟩:=I.tuple hx;have hlen:=r.length;refine⟨"tuple",_,slot_tuple_getitem.lookup,j.typeIs,?_⟩;refine HT.getItem_tuple_whole j hs pl pu (by rw[KJ,<-hlen];exact hw) ⟨.ref a,H,I,rfl,q⟩
end
end
variable{u:h8}{y:V}{P:L4}{w:Lq}{H H':Hp}{kvs:List (List Key×V)}{xs:List (List Key×Wk×h8)}{b a:Wk}{h':Heap}{t':Nat}{X:Cx}{pins:List (Wk×Obj)}{σ:St}{s:r0}
section
section
variable{κ:Type}[DecidableEq κ]
noncomputable def bW(kvs:List (κ×V))(k:κ):Option V:=(kvs.find? λkv=>decide (kv.1=k)).map (·.2)
noncomputable def cA(kvs:List (κ×V))(k:κ)(v:V):List (κ×V):=if(kvs.any λkv=>decide (kv.1=k))=F2 then kvs.map (λkv=>if kv.1=k then(kv.1,v)else kv)else kvs++[(k,v)]
noncomputable def nW(kvs:List (κ×V))(k:κ):List (κ×V):=kvs.filter λkv=>decide (kv.1≠k)
theorem fP{p:κ×V}{r:List (κ×V)}{k:κ}(e:p.1=k):bW (p::r) k=Z p.2:=by simp[bW,MA,e]
theorem fQ{p:κ×V}{r:List (κ×V)}{k:κ}(e:¬p.1=k):bW (p::r) k=bW r k:=by simp[bW,MA,e]
theorem pF(k:κ):∀kvs:List (κ×V),(kvs.any λkv=>decide (kv.1=k))=(bW kvs k).isSome
 |[]=>rfl
 |p::r=>by
  rw[N8]
  by_cases e:p.1=k
  ·simp only[fP e,decide_eq_true e,Bool.true_or,Ua]
  ·rw[fQ e,decide_eq_false e,Qz];exact pF k r
theorem iX(kvs:List (κ×V))(k:κ)(v:V):(cA kvs k v).length<=kvs.length+1:=by
 unfold cA
 split
 ·rw[m1];lia
 ·rw[B0,La,MV];lia
theorem RelO.isSome_eq{o:Option V}{u:Option h8}(r:RelO o u):o.isSome=u.isSome:=by
 cases o with
 | none=>cases u with
   |none=>rfl
   |some _=>exact(show False from r).elim
 | some _=>cases u with
   |none=>exact(show False from r).elim
   |some _=>rfl
theorem RelO.getD{o:Option V}{u:Option h8}{d:V}{d':h8}(r:RelO o u)(rd:RelV d d'):RelV (o.getD d) (u.getD d'):=by
 cases o with
 | none=>cases u with
   |none=>exact rd
   |some _=>exact(show False from r).elim
 | some _=>cases u with
   |none=>exact(show False from r).elim
   |some _=>exact r
theorem KV.val{kvs:List (κ×V)}{vs:List (κ×h8)}(r:KV kvs vs)(k:κ):RelO (bW kvs k) (Ts vs k):=by
 unfold KV at r
 induction r with
 |nil=>exact Ub
 |@cons p q ps qs h t ih=>
  obtain⟨h1,h2⟩:=h
  by_cases e:p.1=k
  ·have e':q.1=k:=h1.symm.trans e;have b:Ts (q::qs) k=Z q.2:=by simp[Ts,MA,e']
   rw[fP e,b];exact h2
  ·have e':¬q.1=k:=λz=>e (h1.trans z);have b:Ts (q::qs) k=Ts qs k:=by simp[Ts,MA,e']
   rw[fQ e,b];exact ih
theorem KV.any{kvs:List (κ×V)}{vs:List (κ×h8)}(r:KV kvs vs)(k:κ):(kvs.any λkv=>decide (kv.1=k))=vs.any λkv=>decide (kv.1=k):=by
 unfold KV at r
 induction r with
 |nil=>rfl
 |cons h t ih=>rw[N8,N8,ih,h.1]
theorem KV.repl{kvs:List (κ×V)}{vs:List (κ×h8)}(r:KV kvs vs)(k:κ)(ry:RelV y u):
 KV (kvs.map λkv=>if kv.1=k then(kv.1,y)else kv) (vs.map λkv=>if kv.1=k then(kv.1,u)else kv):=by
 unfold KV at r⊢
 induction r with
 |nil=>exact .nil
 |@cons p q ps qs h t ih=>
  rw[KI,KI];refine .cons ?_ ih;obtain⟨h1,h2⟩:=h
  by_cases e:p.1=k
  ·rw[if_pos e,if_pos (h1.symm.trans e)];exact⟨h1,ry⟩
  ·rw[if_neg e,if_neg (λz=>e (h1.trans z))];exact⟨h1,h2⟩
theorem KV.put{kvs:List (κ×V)}{vs:List (κ×h8)}(r:KV kvs vs)(k:κ)(ry:RelV y u):KV (cA kvs k y) (stored vs k u):=by
 unfold cA stored;rw[r.any k]
 by_cases e:(vs.any λkv=>decide (kv.1=k))=F2
 ·rw[if_pos e,if_pos e];exact r.repl k ry
 ·rw[if_neg e,if_neg e];exact Paired.snoc r ⟨rfl,ry⟩
theorem KV.drop{kvs:List (κ×V)}{vs:List (κ×h8)}(r:KV kvs vs)(k:κ):KV (nW kvs k) (without vs k):=by
 unfold KV at r⊢;unfold nW without
 induction r with
 |nil=>exact .nil
 |@cons p q ps qs h t ih=>
  obtain⟨h1,h2⟩:=h;rw[RY,RY]
  by_cases e:p.1=k
  ·have a:¬decide (p.1≠k)=F2:=by simp[e]
   have b:¬decide (q.1≠k)=F2:=by simp[h1.symm.trans e]
   rw[if_neg a,if_neg b];exact ih
  ·have e':¬q.1=k:=λz=>e (h1.trans z);have a:decide (p.1≠k)=F2:=by simp[e]
   have b:decide (q.1≠k)=F2:=by simp[e']
   rw[if_pos a,if_pos b];exact .cons ⟨h1,h2⟩ ih
theorem KV.keys{kvs:List (κ×V)}{vs:List (κ×h8)}(r:KV kvs vs):kvs.map (·.1)=vs.map (·.1):=by
 unfold KV at r
 induction r with
 |nil=>rfl
 |cons h t ih=>rw[KI,KI,ih,h.1]
theorem KV.length{kvs:List (κ×V)}{vs:List (κ×h8)}(r:KV kvs vs):kvs.length=vs.length:=PD r
end
theorem jE{k:Key}(r:RelV (kV k) u):(aQ P w).is k u=F2:=by
 cases k with
 |inl i=>obtain⟨t,e⟩:=(show ∃t,u=VR i t from r);subst e;exact rC P w i t
 |inr x=>obtain⟨t,e⟩:=(show ∃t,u=VS x t from r);subst e;exact rD P w x t
theorem mF{P:L4}{w:Lq}:∀{ks:List Key} {us:List h8},Vals (ks.map kV) us->ItemsAre (aQ P w) ks us
 |[],_,r=>by rw[Om]at r;cases r;exact .nil
 |k::ks,_,r=>by
  rw[KI]at r
  cases r with
  |cons h t=>exact .cons (jE h) (mF t)
noncomputable abbrev KT(H:Hp):List (List Key×V)->List (List Key×Wk×h8)->Prop:=Me λp q=>p.1=q.1/\H q.2.1=Z (.tup (p.1.map kV))/\RelV p.2 q.2.2
theorem KT.val(r:KT H kvs xs)(k:List Key):RelO (bW kvs k) ((Ve xs k).map (·.2)):=by
 induction r with
 |nil=>exact Ub
 |@cons p q ps qs h t ih=>
  obtain⟨h1,_,h2⟩:=h
  by_cases e:p.1=k
  ·have e':q.1=k:=h1.symm.trans e;have b:Ve (q::qs) k=Z q.2:=by simp[Ve,MA,e']
   rw[fP e,b];exact h2
  ·have e':¬q.1=k:=λz=>e (h1.trans z);have b:Ve (q::qs) k=Ve qs k:=by simp[Ve,MA,e']
   rw[fQ e,b];exact ih
theorem KT.repl(r:KT H kvs xs)(k:List Key)(ry:RelV y u):
 KT H (kvs.map λkv=>if kv.1=k then(kv.1,y)else kv) (xs.map (putAt k u)):=by
 induction r with
 |nil=>exact .nil
 |@cons p q ps qs h t ih=>
  rw[KI,KI];refine .cons ?_ ih;obtain⟨h1,h2,j⟩:=h;unfold putAt
  by_cases e:p.1=k
  ·rw[if_pos e,if_pos (h1.symm.trans e)];exact⟨h1,h2,ry⟩
  ·rw[if_neg e,if_neg (λz=>e (h1.trans z))];exact⟨h1,h2,j⟩
theorem KT.put(r:KT H kvs xs)(k:List Key)(j:H b=Z (.tup (k.map kV)))(ry:RelV y u):
 KT H (cA kvs k y) (storedH xs k b u):=by
 have e:(kvs.any λkv=>decide (kv.1=k))=(Ve xs k).isSome:=by rw[pF,(r.val k).isSome_eq,Uu]
 unfold cA storedH;rw[e]
 by_cases q:(Ve xs k).isSome=F2
 ·rw[if_pos q,if_pos q];exact r.repl k ry
 ·rw[if_neg q,if_neg q];exact Paired.snoc r ⟨rfl,j,ry⟩
theorem KT.keeps(r:KT H kvs xs)(j:∀b ys,H b=Z (.tup ys)->H' b=Z (.tup ys)):KT H' kvs xs:=W3 r λ_ _ z=>⟨z.1,j _ _ z.2.1,z.2.2⟩
section
variable{P:L4}{w:Lq}{H:Hp}{h:Heap}{a:Wk}
theorem AK{u:HO}(ok:HOk P w H h)(e:Rd H a u):ObjOk P w H h a u:=e.ok ok
theorem jF{kvs:List (Key×V)}(ok:HOk P w H h)(e:Rd H a (.dK kvs)):kvs.length<=KG/\(a==MK)=Wj/\∃vs,KV kvs vs/\h.DictOf (aQ P w) a vs:=show ObjOk P w H h a (.dK kvs)from AK ok e
theorem FR{kvs:List (Key×V)}(ok:HOk P w H h)(e:H a=Z (.dK kvs)):kvs.length<=KG/\(a==MK)=Wj/\∃vs,KV kvs vs/\h.DictOf (aQ P w) a vs:=jF ok (.inl e)
theorem gP{ks:List Key}(ok:HOk P w H h)(e:H a=Z (.tup (ks.map kV))):(R6 (aQ P w)).is h ks a:=by obtain⟨_,its,r,o,h1,h2,n,j⟩:=(show ObjOk P w H h a (.tup (ks.map kV))from ok a _ e);exact⟨o,its.toArray,n,h1,h2,j,by simpa using mF r⟩
theorem jG(ok:HOk P w H h)(e:Rd H a (.dT kvs)):kvs.length<=KG/\(a==MK)=Wj /\
 ∃xs,KT H kvs xs/\h.DictOfH (R6 (aQ P w)) a xs:=by
 obtain⟨z,y,xs,r,o,es,ep,h1,h2,j,B,F⟩:=(show ObjOk P w H h a (.dT kvs)from AK ok e);refine⟨z,y,xs,r,o,es,ep,h1,h2,j,B,λx hx=>?_,F⟩;have all:∀{l:List (List Key×V)} {m:List (List Key×Wk×h8)},KT H l m->∀x∈m,(R6 (aQ P w)).is h x.1 x.2.1:=by
  intro l m q
  induction q with
  |nil=>intro x hx;exact nomatch hx
  |@cons p q ps qs hq t ih=>
   intro x hx
   rcases D1.mp hx with e|hx
   ·subst e;exact gP ok (by rw[<-hq.1];exact hq.2.1)
   ·exact ih x hx
 exact all r x hx
theorem FS(ok:HOk P w H h)(e:H a=Z (.dT kvs)):kvs.length<=KG/\(a==MK)=Wj /\
 ∃xs,KT H kvs xs/\h.DictOfH (R6 (aQ P w)) a xs:=jG ok (.inl e)
end
def DGet(H:Hp)(a:Wk)(y:V)(r:Option V):Prop:=(∃kvs k,Rd H a (.dK kvs)/\y=kV k/\r=bW kvs k)∨∃kvs k b,Rd H a (.dT kvs)/\y=.ref b/\H b=Z (.tup (k.map kV))/\r=bW kvs k
def DPut(H:Hp)(a:Wk)(y v:V)(H':Hp):Prop:=
 (∃kvs k,H a=Z (.dK kvs)/\y=kV k/\kvs.length<KG/\H'=upd H a (.dK (cA kvs k v))) ∨
 ∃kvs k b,H a=Z (.dT kvs)/\y=.ref b/\H b=Z (.tup (k.map kV))/\kvs.length<KG/\H'=upd H a (.dT (cA kvs k v))
theorem DGet.k{kvs:List (Key×V)}{k:Key}(e:H a=Z (.dK kvs)):DGet H a (kV k) (bW kvs k):=.inl ⟨kvs,k,.inl e,rfl,rfl⟩
theorem DGet.t{k:List Key}(e:H a=Z (.dT kvs))(eb:H b=Z (.tup (k.map kV))):DGet H a (.ref b) (bW kvs k):=.inr ⟨kvs,k,b,.inl e,rfl,eb,rfl⟩
theorem DPut.k{kvs:List (Key×V)}{k:Key}{v:V}(e:H a=Z (.dK kvs))(j:kvs.length<KG):DPut H a (kV k) v (upd H a (.dK (cA kvs k v))):=.inl ⟨kvs,k,e,rfl,j,rfl⟩
theorem DPut.t{k:List Key}{v:V}(e:H a=Z (.dT kvs))(eb:H b=Z (.tup (k.map kV)))(j:kvs.length<KG):DPut H a (.ref b) v (upd H a (.dT (cA kvs k v))):=.inr ⟨kvs,k,b,e,rfl,eb,j,rfl⟩
section
variable{X:Cx}{pins:List (Wk×Obj)}{σ:St}{H:Hp}{s:r0}{a:Wk}{y v:V}{u r:h8}{o:Option V}{A:Lv}{E:h8->r0->Prop}
theorem Inv.big(I:Inv X pins σ H s):MK<s.heap.objs.size:=by have h:Mf<s.heap.objs.size:=(I.mod.glob.keeps I.bk).lt;exact Nat.lt_trans (by decide) h
theorem vP{Q:h8->r0->Prop}(B:A.units+1<Ol)(I:Inv X pins σ H s)(g:DGet H a y (Z v))(ry:RelV y u)(h:∀w' s',Inv X pins σ H s'->RelV v w'->Q w' s'):
 KN (model X.prog X.w) A (Ru (.ref a) u) Q E s:=by
 rcases g with⟨kvs,k,e,ey,l⟩|⟨kvs,k,b,e,ey,eb,l⟩
 ·subst ey;obtain⟨z,hd,vs,rel,dd⟩:=jF I.hok e;obtain⟨w',hw,rw'⟩:=Wd (v:=v) (o:=Ts vs k) (by rw[l];exact rel.val k)
  exact wpAny_getItem_of (jE ry) dd.mapOf hw (h w' _ (I.tok _) rw')
 ·subst ey
  cases(show u=Lu b from ry)
  obtain⟨z,hd,xs,rel,dd⟩:=jG I.hok e;obtain⟨w',hw,rw'⟩:=Wd (v:=v) (o:=(Ve xs k).map (·.2)) (by rw[l];exact rel.val k)
  obtain⟨p,F,j⟩:=Sv.mp hw;refine wpAny_getItem_heap (PU B) (gP I.hok eb) dd F ?_;rw[j];exact h w' _ (I.tok _) rw'
theorem Bt{Q:h8->r0->Prop}(j:A.units+1<Ol)(I:Inv X pins σ H s)(g:DGet H a y o)(ry:RelV y u)(h:∀s',Inv X pins σ H s'->Q (.bool (!o.isSome)) s'):
 KN (model X.prog X.w) A (Na .NotIn u (.ref a)) Q E s:=by
 rcases g with⟨kvs,k,e,ey,l⟩|⟨kvs,k,b,e,ey,eb,l⟩
 ·subst ey;obtain⟨z,hd,vs,rel,dd⟩:=jF I.hok e;refine wpAny_notIn_of (jE ry) hd dd.mapOf ?_;rw[<-(rel.val k).isSome_eq,<-l];exact h _ (I.tok _)
 ·subst ey
  cases(show u=Lu b from ry)
  obtain⟨z,hd,xs,rel,dd⟩:=jG I.hok e;refine wpAny_notIn_heap (PU j) (gP I.hok eb) hd dd ?_;have q:=(rel.val k).isSome_eq;rw[Uu]at q;rw[<-q,<-l];exact h _ (I.tok _)
theorem rX{ob:HO}(I:Inv X pins σ H s)(mu:Mut (H a))(hs:Mg a s.heap h')(he:∃q,h'.get? a=Z q)(new:ObjOk X.prog X.w (upd H a ob) h' a ob):
 Inv X pins σ (upd H a ob) {s with heap:=h',toks:=t'}:=
 I.write (x:=a) (e:=a) mu (.inl rfl) (λb q j z=>(hs.2 b j).trans z) he new
theorem DW{kvs:List (Key×V)}{vs:List (Key×h8)}(z:kvs.length<=KG)(hd:(a==MK)=Wj)(rel:KV kvs vs)(dd:h'.DictOf (aQ P w) a vs):ObjOk P w H' h' a (.dK kvs):=⟨z,hd,vs,rel,dd⟩
theorem vQ{Q:Unit->r0->Prop}(G:A.units+1<Ol)(I:Inv X pins σ H s)(g:DPut H a y v H')(ry:RelV y u)(rv:RelV v r)(h:∀s',Inv X pins σ H' s'->Q () s'):
 KN (model X.prog X.w) A (Tp (.ref a) u r) Q E s:=by
 rcases g with⟨kvs,k,e,ey,l,eH⟩|⟨kvs,k,b,e,ey,eb,l,eH⟩
 ·subst ey eH;obtain⟨z,hd,vs,rel,dd⟩:=FR I.hok e;have B:vs.length<=KG:=by rw[<-rel.length];exact z
  have F:(cA kvs k v).length<=KG:=by have:=iX kvs k v;lia
  refine wpAny_setItem_pairs (hsz:=B) (jE ry) dd λh' dd' hs=>h _ ?_;have he:∃q,h'.get? a=Z q:=let⟨q,_,_,j,_⟩:=dd'; ⟨q,j⟩;exact rX I (by rw[e];exact Ub) hs he (DW F hd (rel.put k rv) dd')
 ·subst ey eH
  cases(show u=Lu b from ry)
  obtain⟨z,hd,xs,rel,dd⟩:=FS I.hok e;have B:xs.length<=KG:=by rw[<-PD rel];exact z
  have F:(cA kvs k v).length<=KG:=by have:=iX kvs k v;lia
  refine wpAny_setItem_heap (hsz:=B) (PU G) (gP I.hok eb) dd λh' dd' hs=>h _ ?_;obtain⟨q,es,ep,j,h2,J,L,_,O⟩:=dd';refine rX I (by rw[e];exact Ub) hs ⟨q,j⟩ ⟨F,hd,_,(rel.put k eb rv).keeps λc ys ec=>?_,q,es,ep,j,h2,J,L,O⟩
  rw[am (Fx ec e (λz=>nomatch z))];exact ec
end
theorem yA(h:Heap)(j:MK<h.objs.size):ObjOk P w H (h.push {cls:=.type "dict",data:=.dict #[]}) h.objs.size (.dK []):=⟨N7 _,beq_eq_false_iff_ne.mpr (Ne.symm (Lg j)),[],.nil,Heap.DictOf.new h⟩
theorem yB(h:Heap)(j:MK<h.objs.size):ObjOk P w H (h.push {cls:=.type "dict",data:=.dict #[]}) h.objs.size (.dT []):=⟨N7 _,beq_eq_false_iff_ne.mpr (Ne.symm (Lg j)),[],.nil,_,#[],0,A2 _ rfl,⟨rfl,rfl,rfl⟩,rfl,rfl,List.nodup_nil⟩
noncomputable def DX:TE:=λ_ H Q=>∀p,H p=Y->Q (.ref p) (upd H p (.dK []))
noncomputable def DY:TE:=λ_ H Q=>∀p,H p=Y->Q (.ref p) (upd H p (.dT []))
section
variable{X:Cx}{pos:Pos}
theorem yC:PE X (.Dict [] [] pos) DX:=λpins s σ H Q I h=>UP ⟨.ref s.heap.objs.size,_,I.laid (a:=s.heap.objs.size) (o:=.dK []) (t':=s.toks) (λ_ _ q=>hQ _ q) (KO _) (yA s.heap I.big),rfl,h _ (I.hok.fresh (KO _))⟩
theorem yD:PE X (.Dict [] [] pos) DY:=λpins s σ H Q I h=>UP ⟨.ref s.heap.objs.size,_,I.laid (a:=s.heap.objs.size) (o:=.dT []) (t':=s.toks) (λ_ _ q=>hQ _ q) (KO _) (yB s.heap I.big),rfl,h _ (I.hok.fresh (KO _))⟩
end
structure M2(X:Cx)(o:Expr)(m:Str)(apos:Pos)(e f:Expr)(cpos:Pos):Prop where
 base:RE o m X.env (eval o X.env)=eval o X.env
 few:((OX cpos (KU [e,f] X.env)).all (λx=>!x.1)&&(VD cpos (T5 [] X.env)).all (λx=>x.1.isSome)
  && decide (([e,f]:List Expr).length+([]:List QZ).length+(if([]:List QZ).isEmpty then 0 else 1)<30))=F2
 line:(apos.endLine==cpos.line)=F2
 trees:OX cpos (KU [e,f] X.env)=[(Wj,eval e X.env),(Wj,eval f X.env)]
def IsD(H:Hp)(a:Wk):Prop:=(∃kvs,Rd H a (.dK kvs))∨∃kvs,Rd H a (.dT kvs)
theorem jH(I:Inv X pins σ H s)(d:IsD H a):
 s.TypeIs (.ref a) "dict"/\(∀b,Lu a=.ref b->∃ob,s.heap.get? b=Z ob/\ob.dict=Y)/\(a==MK)=Wj:=by
 rcases d with⟨kvs,e⟩|⟨kvs,e⟩
 ·obtain⟨_,hd,vs,_,dd⟩:=jF I.hok e;refine⟨dd.typeIs,λb q=>?_,hd⟩
  cases q
  obtain⟨ob,_,_,h1,h2,_⟩:=dd;exact⟨ob,h1,h2.2.1⟩
 ·obtain⟨_,hd,xs,_,dd⟩:=jG I.hok e;refine⟨dd.typeIs,λb q=>?_,hd⟩
  cases q
  obtain⟨ob,_,_,h1,h2,_⟩:=dd;exact⟨ob,h1,h2.2.1⟩
section
variable{X:Cx}{pins:List (Wk×Obj)}{σ:St}{H:Hp}{s:r0}{a:Wk}{y d:V}{u r:h8}{o:Option V}{A:Lv}{E:h8->r0->Prop}
theorem DZ{Q:h8->r0->Prop}(j:A.units+1<Ol)(I:Inv X pins σ H s)(g:DGet H a y o)(ry:RelV y u)(rd:RelV d r)(h:∀w' s',Inv X pins σ H s'->RelV (o.getD d) w'->Q w' s'):
 KN (model X.prog X.w) A (call (.builtin "dict.get") [.ref a,u,r]) Q E s:=by
 rcases g with⟨kvs,k,e,ey,l⟩|⟨kvs,k,b,e,ey,eb,l⟩
 ·subst ey;obtain⟨z,hd,vs,rel,dd⟩:=jF I.hok e;refine call_meetsIn Qi dd.typeIs Sw (RZ _ _ _) (meets_dict_get_default (aQ X.prog X.w) a (jE ry) hd r) ⟨_,dd.mapOf,h _ _ (I.tok _) ?_⟩;rw[l];exact(rel.val k).getD rd
 ·subst ey
  cases(show u=Lu b from ry)
  obtain⟨z,hd,xs,rel,dd⟩:=jG I.hok e;refine call_meetsIn Qi dd.typeIs Sw (RZ _ _ _) (meetsH_dict_get_default (R6 (aQ X.prog X.w)) a b hd r) ⟨PU j,k,xs,gP I.hok eb,dd,h _ _ (I.tok _) ?_⟩;rw[l];exact(rel.val k).getD rd
end
noncomputable def E1(td ty tx:TE):TE:=λσ H Q=>td σ H λx H1=>∃a,x=.ref a/\IsD H1 a/\ty σ H1 λy H2=>tx σ H2 λz H3=>∃o,DGet H3 a y o/\Q (o.getD z) H3
section
variable{X:Cx}{o e f:Expr}{apos cpos:Pos}{td ty tx:TE}
theorem yE(B:X.A.units+1<Ol)(ho:PE X o td)(he:PE X e ty)(hf:PE X f tx)(m:M2 X o "get" apos e f cpos):PE X (.Call (.Attribute o "get" apos) [e,f] [] cpos) (E1 td ty tx):=by
 intro pins s σ H Q I h;refine wpAny_Call_method m.base m.few m.line PySem.F.plainAttrs_dict Qi PySem.F.type_dict_get (thn (ho pins s σ H _ I h) λu s1 G=>?_);obtain⟨x,H1,j,rx,a,ex,d,J⟩:=G;subst ex;obtain rfl:u=Lu a:=rx;obtain⟨t1,L,_⟩:=jH j d;refine⟨t1,L,?_⟩;rw[m.trees];refine Q4 rfl (QE (N3 (thn (he pins s1 σ H1 _ j J) λiv s2 ⟨y,H2,O,ry,U⟩=>N3 (thn (hf pins s2 σ H2 _ O U) λfv s3 ⟨z,Fn,fv,rz,ov,g,q3⟩=>Ny ?_))))
 exact DZ B fv g ry rz λw' s4 I4 rw'=>⟨_,Fn,I4,rw',q3⟩
end
end
variable{d:Nat}{ifs:List Expr}{elt target iter:Expr}{gens:List LV}{scope:Scope}{pos pos':Pos}{te:TE}{acc:h8}{g:TG}{env:Env}{A:Lv}{wi:TI}{x:Str}
section
noncomputable def bf(elt:Expr)(gens:List LV)(scope:Scope)(pos:Pos)(d:Nat)(acc:h8)(env:Env)(k:Sem Fin):Sem Fin:=
 match gens[d+1]? with
 |some g'=>eval g'.iter env>>=fun x=>Rt g'.iter.pos>>=fun _=>Nx g'.iter env x>>=fun x=>holding [x] (SX x)>>=fun it'=>runOwn (.compStart (.ListComp elt gens scope pos) (d+1) it' acc env) env>>=λ_=>k
 |none=>(eval elt env>>=λx=>call (.builtin "list.append") [acc,x]>>=λ_=>pure ())>>=λ_=>k
noncomputable def bv(ifs:List Expr)(env:Env):Sem Bool:=forIn ifs F2 λc r=>if r=F2 then do let ok <-isTrue c env (eval c env);pure (OR ok)else pure (OR r)
theorem pG(elt target iter:Expr)(ifs:List Expr)(gens:List LV)(scope:Scope)(pos:Pos)(d:Nat)(it acc:h8)(env:Env)(hd:gens[d]?=Z ⟨target,iter,ifs,0⟩)(j:∀g',gens[d+1]?=Z g'->g'.is_async=0):
 compTurn (.ListComp elt gens scope pos) d it acc env=(Rt iter.pos>>=λ_=>MZ it>>=λr=>match r with
  |none=>pure (.done .next)
  |some v=>QM target it v>>=fun _=>assign target env v>>=fun _=>bv ifs env>>=fun ok=>(if ok=F2 then bf elt gens scope pos d acc env (again (.compLoop (.ListComp elt gens scope pos) d it acc env))else again (.compLoop (.ListComp elt gens scope pos) d it acc env))):=by
 unfold compTurn;simp only[hd];unfold bf bv
 cases hn:gens[d+1]? with
 |none=>rfl
 |some g'=>obtain⟨t',i',f',a'⟩:=g';have e:a'=0:=j _ hn;subst e;rfl
noncomputable abbrev TC:=St->Hp->(St->Hp->Prop)->Prop
def cN(J:It)(g:TG)(tb:TC)(N:St->Hp->Prop)(σ:St)(H:Hp):Prop:=
 ∃W:Nat->Nat->St->Hp->Prop,(∃m,W 0 m σ H)/\∀i m σ H,W i m σ H->
  (J.stop i H/\N σ H)∨(J.go i H/\∃N':St->Hp->Prop,(∀σ' H',N' σ' H'->∃m',m'<m/\W (i+1) m' σ' H')/\∀x H',J.yld i H x H'->g x σ H' λσ2 H2=>tb σ2 H2 N')
def PB(X:Cx)(F:Sem Fin->Sem Fin)(t:TC):Prop:=
 ∀(pins:List (Wk×Obj)) (s:r0) (σ:St) (H:Hp) (N:St->Hp->Prop) (k:Sem Fin) (Q:Fin->r0->Prop) (E:h8->r0->Prop),Inv X pins σ H s->t σ H N->
  (∀s' σ' H',Inv X pins σ' H' s'->N σ' H'->KN (model X.prog X.w) X.A k Q E s')->KN (model X.prog X.w) X.A (F k) Q E s
section
variable{X:Cx}
theorem nox{α:Type}{m:Sem α}{Q:α->r0->Prop}{E:h8->r0->Prop}(hx:∀e s,X.xe e s->False)(h:KN (model X.prog X.w) X.A m Q X.xe s):KN (model X.prog X.w) X.A m Q E s:=Md h (λ_ _ q=>q) λe s' q=>(hx e s' q).elim
noncomputable def jI(ts:List TT)(tb:TC):TC:=match ts with
 |[]=>tb
 |t::r=>λσ H N=>t σ H λb H1=>if b=F2 then jI r tb σ H1 N else N σ H1
theorem jJ{env:Env}{M:QU}{A:Lv}{Q:Bool->r0->Prop}{E:h8->r0->Prop}{s:r0}(h:Q Wj s):∀ifs:List Expr,
 KN M A (forIn ifs Wj λc r=>if r=F2 then do let ok <-isTrue c env (eval c env);pure (OR ok)else pure (OR r)) Q E s
 |[]=>tv h
 |c::r=>by rw[NI];simp only[Mx,if_false];exact gV (tv (jJ h r))
theorem pH(hx:∀e s,X.xe e s->False){tb:TC}{N:St->Hp->Prop}:∀{ifs:List Expr} {ts:List TT},Me (λc t=>PT X c t) ifs ts->
 ∀(pins:List (Wk×Obj)) (s:r0) (σ:St) (H:Hp) (E:h8->r0->Prop),Inv X pins σ H s->jI ts tb σ H N->
 KN (model X.prog X.w) X.A (bv ifs X.env) (λok s'=>∃H',Inv X pins σ H' s'/\if ok=F2 then tb σ H' N else N σ H') E s
 |_,_,.nil=>λpins s σ H E I h=>tv ⟨H,I,by rw[if_pos rfl];exact h⟩
 |c::ifs,_,.cons (b:=t) B hr=>by
  intro pins s σ H E I h;have ih:=pH hx hr (tb:=tb) (N:=N) pins;unfold bv at ih⊢;rw[NI];simp only[if_true];refine gV (gV (nox hx (thn (B pins s σ H _ I h) λb s1 F=>?_)));obtain⟨H1,z,j⟩:=F;refine tv ?_
  cases b with
  |false=>rw[if_neg B2]at j;exact jJ ⟨H1,z,by rw[if_neg B2];exact j⟩ ifs
  |true=>rw[if_pos rfl]at j;exact ih s1 σ H1 E z j
theorem yF(hx:∀e s,X.xe e s->False){F:Sem Fin->Sem Fin}{tb:TC}(B:PB X F tb){ts:List TT}(G:Me (λc t=>PT X c t) ifs ts):
 PB X (λk=>bv ifs X.env>>=λok=>if ok=F2 then F k else k) (jI ts tb):=by
 intro pins s σ H N k Q E I h hk;refine gV (thn (pH hx G pins s σ H E I h) λok s1 J=>?_);obtain⟨H1,z,j⟩:=J
 cases ok with
 |false=>rw[if_neg B2]at j⊢;exact hk s1 σ H1 z j
 |true=>rw[if_pos rfl]at j⊢;exact B pins s1 σ H1 N k Q E z j hk
noncomputable def AL(p:Wk)(te:TE):TC:=λσ H N=>te σ H λx H1=>∃xs,H1 p=Z (.lst xs)/\xs.length<KG/\N σ (upd H1 p (.lst (xs++[x])))
theorem lh(hx:∀e s,X.xe e s->False){p:Wk}(he:PE X elt te)(hd:gens[d+1]?=Y):
 PB X (bf elt gens scope pos d (.ref p) X.env) (AL p te):=by
 intro pins s σ H N k Q E I h z;unfold bf;rw[hd];refine gV (gV (nox hx (thn (he pins s σ H _ I h) λu s1 j=>?_)));obtain⟨x,H1,B,F,xs,e1,l1,G⟩:=j;refine gV (nox hx (thn (mC (X:=X) pins s1 σ H1 (.ref p) [x] (.ref p) [u] (λ_ H2=>N σ H2) B rfl (.cons F .nil) ⟨p,xs,x,rfl,rfl,e1,l1,G⟩) λv s2 j=>?_));obtain⟨_,H2,J,_,L⟩:=j;exact tv (z s2 σ H2 J L)
theorem mG(hx:∀e s,X.xe e s->False)(hc:X.calm=F2)(hd:gens[d]?=Z ⟨target,iter,ifs,0⟩)(ha:∀g',gens[d+1]?=Z g'->g'.is_async=0)(hg:PG X target g){tb:TC}(j:PB X (λk=>bv ifs X.env>>=λok=>if ok=F2 then bf elt gens scope pos d acc X.env k else k) tb){N:St->Hp->Prop}{it:Wk}{fp:List Wk}{tn:Nat->Heap->Prop}{J:It}(I:Inv X pins σ H s)(T:fM X.prog X.w X.K target J fp it tn)(t0:tn 0 s.heap)(f2:∀b∈fp,cM X pins H b)(h:cN J g tb N σ H):
 Ob (model X.prog X.w) X.A (.compLoop (.ListComp elt gens scope pos) d (.ref it) acc X.env) (λr s'=>match r with|.ok _=>∃σ' H',Inv X pins σ' H' s'/\N σ' H'|.error _=>False) s:=by
 obtain⟨W,⟨m0,w0⟩,turn⟩:=h;have stat:∀{H':Hp},(∀b∈fp,H' b=Y)->∀b∈fp,cM X pins H' b:=λhn b j=>⟨hn b j,(f2 b j).2⟩;refine codeAny_loop rfl (λn s'=>∃i σ' H',Inv X pins σ' H' s'/\tn i s'.heap/\(∀b∈fp,H' b=Y)/\W i n σ' H') ?_ m0 ⟨0,σ,H,I,t0,λb j=>(f2 b j).1,w0⟩;rintro n s3 ⟨i,σ3,L,I3,F,G,w3⟩;show KN _ _ ((compTurn (.ListComp elt gens scope pos) d (.ref it) acc X.env).onRaise (λx=>do noteFrame x X.env;theTreesLotGoes x)) _ _ s3
 refine wpAny_noted ?_;rw[pG elt target iter ifs gens scope pos d (.ref it) acc X.env hd ha];refine gV (Ot (gV ?_));show KN (model X.prog X.w) X.A _ _ _ s3
 rcases turn i n σ3 L w3 with⟨stop,qn⟩|⟨go,N',hN,step⟩
 ·refine thn (T.done X rfl rfl rfl hc i pins s3 σ3 L _ I3 (stat G) F stop) λr s4 z=>?_;obtain⟨O,I4⟩:=z;subst O;exact tv ⟨σ3,L,I4,qn⟩
 ·refine thn (T.item X rfl rfl rfl hc i pins s3 σ3 L _ I3 (stat G) F go) λr s4 z=>?_;obtain⟨u,O,h4⟩:=z;subst O;refine gV (thn h4 λ_ s5 z=>?_);obtain⟨x,H5,I5,r5,y5,B,U⟩:=z;have Fn:=I5.pinned (stat U) (T.obj _ _ B);refine gV (nox hx (thn (hg _ s5 σ3 H5 x u _ Fn r5 (step x H5 y5)) λ_ s6 z=>?_));obtain⟨σ6,H6,I6,q6⟩:=z;refine j _ s6 σ6 H6 N' (again (.compLoop (.ListComp elt gens scope pos) d (.ref it) acc X.env)) _ _ I6 q6 λs7 σ7 H7 fv n7=>?_;obtain⟨m',hm,w7⟩:=hN σ7 H7 n7;refine tv ⟨rfl,m',hm,i+1,σ7,H7,fv.unpinned,T.keep _ _ _ B λb j o e=>(fv.pin (b,o) (Lj _ (Lj _ (dG j e)))).1,λb j=>?_,w7⟩;obtain⟨o,e,dd⟩:=T.obj _ _ B b j;exact(fv.pin (b,o) (Lj _ (Lj _ (dG j e)))).2.1
theorem jK {it:h8}{prog:L4}{R:U3->r0->Prop}(hd:gens[d]?=Z ⟨target,iter,ifs,0⟩)(h0:Ob (model prog w) A (.compLoop (.ListComp elt gens scope pos) d it acc env) R s)(h:KN (model prog w) A (SX it) (fun it' s'=>Ob (model prog w) A (.compLoop (.ListComp elt gens scope pos) d it' acc env) R s')
   (notedBy (model prog w) A env λx s'=>R (.error x) s') s):
 Ob (model prog w) A (.compStart (.ListComp elt gens scope pos) d it acc env) R s:=by
 refine codeAny_of_tree ?_;show KN _ _ ((compStart (.ListComp elt gens scope pos) d it acc env).onRaise (λx=>do noteFrame x env;Rt theWindowsPlace)) _ _ s
 refine wpAny_notedAt ?_;unfold compStart;have j:(clausesOf (.ListComp elt gens scope pos))[d]?=Z ⟨target,iter,ifs,0⟩:=hd;rw[j];show KN _ _ (ask>>=_) _ _ s;refine gV (wpAny_askSetting (wpAny_ite ?_))
 split
 ·first
   |exact gV (tv (tv (Qo rfl h0)))
   |exact tv (Qo rfl h0)
 ·first
   |exact gV (Mw (gV (Ot (gV (Md h (λit' s' h'=>tv (Qo rfl h')) λ_ _ x=>x)))))
   |(refine gV (Mw ?_);show KN _ _ (Rt iter.pos>>=_) _ _ s;exact gV (Ot (gV (Md h (λit' s' h'=>tv (Qo rfl h')) λ_ _ x=>x))))
theorem mH(hx:∀e s,X.xe e s->False)(B:X.calm=F2)(hd:gens[d+1]?=Z ⟨target,iter,ifs,0⟩)(F:∀g',gens[d+1+1]?=Z g'->g'.is_async=0)(hi:PI X target iter wi)(G:PG X target g){tb:TC}(L:PB X (λk=>bv ifs X.env>>=λok=>if ok=F2 then bf elt gens scope pos (d+1) acc X.env k else k) tb)(hs:∀x,Nx iter X.env x=pure x):
 PB X (bf elt gens scope pos d acc X.env) (λσ H N=>wi σ H λJ H1=>cN J g tb N σ H1):=by
 intro pins s σ H N k Q E I h hk;unfold bf;rw[hd];refine gV (nox hx (thn (hi pins s σ H _ I h) λv s1 h1=>?_));refine gV (Ot (gV (Nq (hs v) ?_)));refine gV (LH (nox hx (thn h1 λitv s2 h2=>?_)));obtain⟨it,fp,tn,J,H2,e,O,T,j,f2,hw⟩:=h2;subst e;have loop:=mG (acc:=acc) hx B hd F G L O T j f2 hw;refine gV (wpAny_runOwn (Nh (jK (R:=λr s'=>match r with|.ok _=>∃σ' H',Inv X pins σ' H' s'/\N σ' H'|.error _=>False) hd loop (T.self _ 0 _ _ _ j loop)) λr s3 z=>?_))
 cases r with
 |error e=>exact z.elim
 |ok f=>obtain⟨σ3,U,Fn,fv⟩:=z;exact hk s3 σ3 U Fn fv
noncomputable def aB(cells:List (Str×Wk)):List (Str×O0)->List (Str×Wk)->List (Str×Wk)
 |[],acc=>acc
 |(n,k)::r,acc=>if k==.free then(match cells.lookup n with|some c=>aB cells r ((n,c)::acc)|none=>aB cells r acc)else aB cells r acc
theorem iY{env:Env}:∀(names:List (Str×O0)) (acc:List (Str×Wk)),(∀x∈names,x.2=.free->(env.cells.lookup x.1).isSome=F2)->
 (forIn names acc λ(x:Str×O0) (r:List (Str×Wk))=>(match x with|(name,kind)=>if(kind==Lr)=F2 then do let c <-cellOf env name;pure (OR ((name,c)::r))else pure (OR r):Sem (ForInStep (List (Str×Wk)))))=(pure (aB env.cells names acc):Sem (List (Str×Wk)))
 |[],acc,_=>rfl
 |(n,k)::r,acc,h=>by
  rw[NI];have ih:=λacc'=>iY r acc' λx hx=>h x (KP _ hx);unfold aB
  by_cases hk:(k==Lr)=F2
  ·obtain⟨c,z⟩:=Ov.mp (h (n,k) KW (beq_iff_eq.mp hk));have j:env.cells.lookup n=Z c:=z;have e1:cellOf env n=pure c:=by unfold cellOf;rw[j]
   simp only[hk,if_true,e1,j,UQ];exact ih _
  ·simp only[hk,if_false,UQ];exact ih _
theorem fR(h:∀x∈scope.names,x.2=.free->(env.cells.lookup x.1).isSome=F2):closureFor scope env=pure (aB env.cells scope.names []):=by unfold closureFor;have e:=iY (env:=env) scope.names [] h;simp only[bind_pure];exact e
theorem cO{cells:List (Str×Wk)}{y:Str}{c:Wk}:∀{names:List (Str×O0)} {acc:List (Str×Wk)},(y,c)∈aB cells names acc->(y,c)∈acc∨(cells.lookup y=Z c/\(y,Lr)∈names)
 |[],acc,h=>.inl h
 |(n,k)::r,acc,h=>by
  unfold aB at h
  by_cases hk:(k==Lr)=F2
  ·rw[if_pos hk]at h;have F:k=.free:=beq_iff_eq.mp hk;subst F
   cases G:cells.lookup n with
   |none=>
    rw[G]at h
    rcases cO h with z|⟨j,B⟩
    ·exact .inl z
    ·exact .inr ⟨j,KP _ B⟩
   |some c'=>
    rw[G]at h
    rcases cO h with z|⟨j,B⟩
    ·rcases D1.mp z with e|z
     ·cases e
      exact .inr ⟨G,KW⟩
     ·exact .inl z
    ·exact .inr ⟨j,KP _ B⟩
  ·rw[if_neg hk]at h
   rcases cO h with z|⟨j,B⟩
   ·exact .inl z
   ·exact .inr ⟨j,KP _ B⟩
theorem cP{cells:List (Str×Wk)}{y:Str}{c:Wk}(j:cells.lookup y=Z c):∀{names:List (Str×O0)} {acc:List (Str×Wk)},((y,c)∈acc∨(y,Lr)∈names)->(y,c)∈aB cells names acc
 |[],acc,h=>by
  rcases h with h|h
  ·exact h
  ·simp at h
 |(n,k)::r,acc,h=>by
  unfold aB
  by_cases hk:(k==Lr)=F2
  ·rw[if_pos hk];have z:k=.free:=beq_iff_eq.mp hk;subst z
   cases hl:cells.lookup n with
   |none=>
    refine cP j ?_
    rcases h with h|h
    ·exact .inl h
    ·rcases D1.mp h with e|h
     ·cases e;rw[hl]at j;cases j
     ·exact .inr h
   |some c'=>
    refine cP j ?_
    rcases h with h|h
    ·exact .inl (KP _ h)
    ·rcases D1.mp h with e|h
     ·cases e;rw[hl]at j;cases j;exact .inl KW
     ·exact .inr h
  ·rw[if_neg hk];refine cP j ?_
   rcases h with h|h
   ·exact .inl h
   ·rcases D1.mp h with e|h
    ·cases e;exact absurd rfl hk
    ·exact .inr h
theorem dB:∀(names:List (Str×O0)) (n:Nat) (acc acc':List (Str×Wk)),Nf n names (acc++acc')=Nf n names acc++acc'
 |[],_,_,_=>rfl
 |(x,k)::r,n,acc,acc'=>by
  unfold Nf
  by_cases j:(k==Nl)=F2
  ·rw[if_pos j,if_pos j];exact dB r (n+1) ((x,n)::acc) acc'
  ·rw[if_neg j,if_neg j];exact dB r n acc acc'
theorem dC:∀{names:List (Str×O0)} {n:Nat} {acc:List (Str×Wk)} {y:Str} {c:Wk},(y,c)∈Nf n names acc->(y,c)∈acc∨(n<=c/\(y,Nl)∈names)
 |[],_,_,_,_,h=>.inl h
 |(x,k)::r,n,acc,y,c,h=>by
  unfold Nf at h
  by_cases hk:(k==Nl)=F2
  ·rw[if_pos hk]at h;have j:k=.cell:=beq_iff_eq.mp hk;subst j
   rcases dC h with z|⟨B,F⟩
   ·rcases D1.mp z with e|z
    ·cases e;exact .inr ⟨KO _,KW⟩
    ·exact .inl z
   ·exact .inr ⟨Nat.le_of_succ_le B,KP _ F⟩
  ·rw[if_neg hk]at h
   rcases dC h with z|⟨B,F⟩
   ·exact .inl z
   ·exact .inr ⟨B,KP _ F⟩
structure bg(sc osc:Scope)(oN N':List Str)(fr:List (Option Nat)):Prop where
 kind:sc.kind=.function
 nd:(sc.names.map (·.1)).Nodup
 ndN:N'.Nodup
 free:∀x∈sc.names,x.2=.free->osc.names.lookup x.1=Z .cell∨osc.names.lookup x.1=Z .free
 len:fr.length=N'.length
 fr:∀(i j:Nat) (x:Str),N'[i]?=Z x->fr[i]?=Z (Z j)->oN[j]?=Z x/\(x,Lr)∈sc.names
noncomputable def inh(fr:List (Option Nat))(σ:St):St:=fr.map λo=>o.bind λj=>(σ[j]?).join
noncomputable def bh(X:Cx)(sc:Scope)(L:Wk):Env:={scope:=relabel sc X.env,locals:=L,globals:=X.env.globals,cells:=Nf (L+1) sc.names (aB X.env.cells sc.names []),qual:=X.env.qual,func:=Y,code:=X.env.code,frame:=X.env.frame,builtins:=X.env.builtins}
noncomputable def aK(X:Cx)(sc:Scope)(N':List Str)(s:r0)(H:Hp)(fp:List Wk):Cx:={X with N:=N',s₀:=s,H₀:=H,env:=bh X sc s.heap.objs.size,outer:=X.stack,stack:=X.stack,ex:=fp,fn:=λx=>sc.names.lookup x==Z .cell,pn:=[],xe:=λ_ _=>False}
theorem aX:∀{l:List (Str×O0)} {x:Str} {k:O0},(l.map (·.1)).Nodup->(x,k)∈l->l.lookup x=Z k
 |(y,k')::r,x,k,nd,h=>by
  have nd':(y::r.map (·.1)).Nodup:=nd;obtain⟨z,B⟩:=Mo.mp nd';rw[NX]
  rcases D1.mp h with e|hm
  ·cases e;simp
  ·have j:(x==y)=Wj:=by
    refine beq_eq_false_iff_ne.mpr λe=>?_;subst e;exact z (D2.mpr ⟨(x,k),hm,rfl⟩)
   rw[j];exact aX B hm
theorem cQ{env:Env}:∀{names:List (Str×O0)} {x:Str},
 (names.map fun (n,k)=>if(k==Lr&&env.scope.kind==.function&&env.kindOf n==Z .cell)then(n,Nl)else(n,k)).lookup x =
   (names.lookup x).map λk=>if(k==Lr&&env.scope.kind==.function&&env.kindOf x==Z .cell)then Nl else k
 |[],_=>rfl
 |(n,k)::r,x=>by
  have ih:=cQ (env:=env) (names:=r) (x:=x);show Pc x ((if(k==Lr&&env.scope.kind==.function&&env.kindOf n==Z .cell)=F2 then(n,Nl)else(n,k))::_)=_
  rw[NX (a:=x) (b:=k)]
  by_cases hx:x=n
  ·subst hx;simp only[beq_self_eq_true];show _=Z (if(k==Lr&&env.scope.kind==.function&&env.kindOf x==Z .cell)=F2 then Nl else k)
   by_cases j:(k==Lr&&env.scope.kind==.function&&env.kindOf x==Z .cell)=F2
   ·rw[if_pos j,if_pos j,NX];simp only[beq_self_eq_true]
   ·rw[if_neg j,if_neg j,NX];simp only[beq_self_eq_true]
  ·have z:(x==n)=Wj:=beq_eq_false_iff_ne.mpr hx;rw[z]
   by_cases j:(k==Lr&&env.scope.kind==.function&&env.kindOf n==Z .cell)=F2
   ·rw[if_pos j,NX,z];exact ih
   ·rw[if_neg j,NX,z];exact ih
section
variable{pins:List (Wk×Obj)}{σ:St}{H:Hp}{s:r0}{sc:Scope}{N':List Str}{fr:List (Option Nat)}{fp:List Wk}
theorem gQ(I:Inv X pins σ H s)(B:bg sc X.env.scope X.N N' fr):∀x∈sc.names,x.2=.free->(X.env.cells.lookup x.1).isSome=F2:=λx hx e=>by obtain⟨c,j⟩:=I.ok.has x.1 (B.free x hx e);rw[j];rfl
theorem vR(I:Inv X pins σ H s)(f2:∀b∈fp,cM X pins H b)(fv:∀b∈fp,b<s.heap.objs.size)(B:bg sc X.env.scope X.N N' fr):
 Inv (aK X sc N' s H fp) [] (inh fr σ) H {s with heap:=UR (s.heap.push {cls:=.type "dict",data:=.dict #[]}) sc.names}:=by
 have G:∀b o,s.heap.get? b=Z o->(UR (s.heap.push {cls:=.type "dict",data:=.dict #[]}) sc.names).get? b=Z o:=λb o e=>SI _ _ b o (hQ _ e);have ok:=cellsFrom_ok sc.names (s.heap.push {cls:=.type "dict",data:=.dict #[]}) (s.heap.objs.size+1) [] ⟨λ_ _ hm=>(nomatch hm),Ut⟩ (by rw[LI];exact KO _)
 rw[LI]at ok;have capp:Nf (s.heap.objs.size+1) sc.names (aB X.env.cells sc.names [])=Nf (s.heap.objs.size+1) sc.names []++aB X.env.cells sc.names []:=dB sc.names _ [] _;have cof:∀x c,(bh X sc s.heap.objs.size).cells.lookup x=Z c->((x,c)∈Nf (s.heap.objs.size+1) sc.names []/\s.heap.objs.size<c)∨(X.env.cells.lookup x=Z c/\(x,Lr)∈sc.names):=λx c e=>by
  have m:=LB e;have m':(x,c)∈Nf (s.heap.objs.size+1) sc.names (aB X.env.cells sc.names []):=m;rw[capp]at m'
  rcases Lo.mp m' with z|z
  ·exact .inl ⟨z,(ok.empty x c z).2⟩
  ·rcases cO z with q|q
   ·simp at q
   ·exact .inr q
 have cOld:∀x c,X.env.cells.lookup x=Z c->c<s.heap.objs.size:=λx c e=>by obtain⟨v,q⟩:=I.cell x c e;exact q.lt
 have kindF:∀x,(x,Lr)∈sc.names->(bh X sc s.heap.objs.size).kindOf x=Z .cell∨(bh X sc s.heap.objs.size).kindOf x=Z .free:=λx hx=>by
  have e1:sc.names.lookup x=Z .free:=aX B.nd hx;have e2:(bh X sc s.heap.objs.size).kindOf x=_:=cQ (env:=X.env) (names:=sc.names) (x:=x);rw[e1]at e2;rw[e2]
  by_cases J:(Lr==Lr&&X.env.scope.kind==.function&&X.env.kindOf x==Z .cell)=F2
  ·exact .inl (by simp only[Oh,if_pos J])
  ·exact .inr (by simp only[Oh,if_neg J])
 have cellF:∀x c,(x,Lr)∈sc.names->X.env.cells.lookup x=Z c->(bh X sc s.heap.objs.size).cells.lookup x=Z c:=λx c hx J=>by
  have m:=cP (acc:=[]) J (.inr hx);have m2:(x,c)∈(bh X sc s.heap.objs.size).cells:=by show(x,c)∈Nf (s.heap.objs.size+1) sc.names (aB X.env.cells sc.names []);rw[capp];exact Lj _ m
  cases F:(bh X sc s.heap.objs.size).cells.lookup x with
  |none=>
   exfalso
   have:∀{l:List (Str×Wk)},(x,c)∈l->l.lookup x=Y->False:=by
    intro l
    induction l with
    |nil=>intro h;simp at h
    |cons a r ih=>
     intro h e;obtain⟨y,d⟩:=a;rw[NX]at e
     rcases D1.mp h with z|z
     ·cases z;simp at e
     ·by_cases hxy:(x==y)=F2
      ·rw[hxy]at e;cases e
      ·simp only[Qp]at hxy;rw[hxy]at e;exact ih z e
   exact this m2 F
  |some c'=>
   rcases cof x c' F with⟨z,_⟩|⟨z,_⟩
   ·rcases dC z with q|⟨_,q⟩
    ·simp at q
    ·have a1:=aX B.nd hx;have a2:=aX B.nd q;rw[a1]at a2;cases a2
   ·rw[J]at z;rw[z]
 have kindC:∀x,(bh X sc s.heap.objs.size).kindOf x=Z .cell->(x,Nl)∈sc.names∨(x,Lr)∈sc.names:=λx e=>by
  have e2:(bh X sc s.heap.objs.size).kindOf x=_:=cQ (env:=X.env) (names:=sc.names) (x:=x);rw[e2]at e
  cases F:sc.names.lookup x with
  |none=>rw[F]at e;cases e
  |some k=>
   rw[F]at e;have m:=LB F
   cases k with
   |cell=>exact .inl m
   |free=>exact .inr m
   |«local»=>simp at e
   |globalImplicit=>simp at e
   |globalExplicit=>simp at e
 have kindFr:∀x,(bh X sc s.heap.objs.size).kindOf x=Z .free->(x,Lr)∈sc.names:=λx e=>by
  have e2:(bh X sc s.heap.objs.size).kindOf x=_:=cQ (env:=X.env) (names:=sc.names) (x:=x);rw[e2]at e
  cases F:sc.names.lookup x with
  |none=>rw[F]at e;cases e
  |some k=>
   rw[F]at e;have m:=LB F
   cases k with
   |free=>exact m
   |cell=>simp at e
   |«local»=>simp at e
   |globalImplicit=>simp at e
   |globalExplicit=>simp at e
 refine⟨⟨I.ok.mod,B.kind,I.ok.glob,I.ok.blt,KO _,λy z c h1 h2=>?_,λy hy=>?_,λy c hf h=>?_,I.ok.hd,I.ok.frames,.inl rfl,λb O=>⟨?_,λx c e=>?_⟩,λb o e=>I.bs b o e,?_,λb o e O=>?_,λb O=>?_,I.stack,I.stkFree⟩,
  rfl,I.bare,Un.kept G,⟨_,(Heap.Ns.new s.heap (.type "dict")).keeps (SI _ _),λi x v h1 h2 h3=>?_⟩,λy c h=>?_,I.hok.fresh (KO _),λy c h=>?_,λp hp=>absurd (show p∈([]:List (Wk×Obj))from hp) (by simp),I.hok.kept G,?_⟩
 ·rcases cof y c h1 with⟨a1,a2⟩|⟨a1,a2⟩
  ·rcases cof z c h2 with⟨Fn,b2⟩|⟨Fn,b2⟩
   ·exact name_of_addr ok.apart a1 Fn
   ·exact absurd (cOld z c Fn) (VF.mpr (OF a2))
  ·rcases cof z c h2 with⟨Fn,b2⟩|⟨Fn,b2⟩
   ·exact absurd (cOld y c a1) (VF.mpr (OF b2))
   ·exact I.ok.inj y z c a1 Fn
 ·have JL:(y,Nl)∈sc.names∨(y,Lr)∈sc.names:=by
   rcases hy with hy|hy
   ·exact kindC y hy
   ·exact .inr (kindFr y hy)
  rcases JL with q|q
  ·exact Ov.mp (OG sc.names _ _ (.inl (aX B.nd q)))
  ·obtain⟨c,J⟩:=Ov.mp (gQ I B _ q rfl);exact⟨c,cellF y c q J⟩
 ·have JM:(sc.names.lookup y==Z .cell)=F2:=hf;have JJ:sc.names.lookup y=Z .cell:=by simpa using JM
  rcases cof y c h with⟨_,a2⟩|⟨_,a2⟩
  ·exact OF a2
  ·rw[aX B.nd a2]at JJ;cases JJ
 ·exact Lg (fv b O)
 ·rcases cof x c e with⟨_,a2⟩|⟨a1,_⟩
  ·exact LL (Nat.lt_trans (fv b O) a2)
  ·exact(f2 b O).2.2.2.2.1 x c a1
 ·exact LR I.ok.bsz I.sz
 ·obtain⟨f0,f1,f3,f4,f5,f6⟩:=f2 b O
  rcases f4 with z|z
  ·exact I.ok.noex b o e z
  ·exact absurd (Li (Li (B1 e) I.ok.bsz) z) (LZ _)
 ·obtain⟨f0,f1,f3,f4,f5,f6⟩:=f2 b O;exactλz=>(D1.mp (I.stkSub b z)).elim f1 f3
 ·have hi:∃j,fr[i]?=Z (Z j)/\σ[j]?=Z (Z v):=by
   unfold inh at h2;rw[KL]at h2
   cases e:fr[i]? with
   |none=>rw[e]at h2;cases h2
   |some o=>
    rw[e]at h2
    cases o with
    |none=>cases h2
    |some j=>
     refine⟨j,rfl,?_⟩;have L:Z ((σ[j]?).join)=Z (Z v):=h2
     cases e':σ[j]? with
     |none=>rw[e']at L;cases L
     |some w=>rw[e']at L;cases L;rfl
  obtain⟨j,e1,e2⟩:=hi;obtain⟨n1,n2⟩:=B.fr i j x h1 e1;obtain⟨m,hn,F⟩:=I.loc;have hv:Vis X.env.scope x:=.inr (B.free (x,.free) n2 rfl);obtain⟨u,ru,lk⟩:=F j x v n1 e2 hv;refine⟨u,ru,.inr ⟨kindF x n2,?_⟩⟩
  rcases lk with⟨k1,_⟩|⟨_,c,J,U⟩
  ·have JK:X.env.scope.names.lookup x=Z .local:=k1
   rcases B.free (x,.free) n2 rfl with z|z
   ·rw[JK]at z;cases z
   ·rw[JK]at z;cases z
  ·exact⟨c,cellF x c n2 J,U.keeps G⟩
 ·rcases cof y c h with⟨a1,a2⟩|⟨a1,a2⟩
  ·exact⟨_,(ok.empty y c a1).1⟩
  ·obtain⟨v,q⟩:=I.cell y c a1;exact⟨v,q.keeps G⟩
 ·rcases cof y c h with⟨a1,a2⟩|⟨a1,a2⟩
  ·exact I.hok.fresh (OF a2)
  ·exact I.freeC y c a1
 ·show(inh fr σ).length=N'.length;unfold inh;rw[m1];exact B.len
theorem mJ{σ':St}{s':r0}(I:Inv X pins σ H s)(f2:∀b∈fp,cM X pins H b)(J:Inv (aK X sc N' s H fp) [] σ' H' s')(hs:Mg s.heap.objs.size s'.heap h'):
 Inv X pins σ H' {s' with heap:=h'}:=by
 have u:Un (frs X.stack) fp H H' s.heap s'.heap:=J.base;have ne:∀b o,s.heap.get? b=Z o->b≠s.heap.objs.size:=λb o e=>Lg (B1 e);refine I.call' (s':={s' with heap:=h'}) (ch:=fp) J.os ⟨λb o e n j hx=>?_,λb o e n j hx=>?_,u.free,λb o e hx=>?_,u.tups,u.frzs,u.tbls⟩ (λb v e=>?_) J.bare λb j=>?_
 ·exact(hs.2 b (ne b o e)).trans (u.keep b o e n j hx)
 ·obtain⟨sl,q⟩:=u.slot b o e n j hx;exact⟨sl,(hs.2 b (ne b o e)).trans q⟩
 ·obtain⟨o',q⟩:=u.there b o e hx;exact⟨o',(hs.2 b (ne b o e)).trans q⟩
 ·refine(J.hok b v e).stay (λc w F q=>(hs.2 c ?_).trans q) (λ_ q=>q) λ_ _ q=>q;have fr:H' s.heap.objs.size=Y:=J.free
  rcases F with z|z
  ·rw[z];intro B;rw[B,fr]at e;cases e
  ·intro B;rw[B,fr]at z;cases z
 ·obtain⟨f0,f1,O,f4,G,L⟩:=f2 b j;exact⟨f4,f1,G,L⟩
theorem nT {Q:Env->r0->Prop}{E:h8->r0->Prop}{M:QU}(h:Q {scope:=sc,locals:=s.heap.objs.size,globals:=X.env.globals,cells:=Nf (s.heap.objs.size+1) sc.names (aB X.env.cells sc.names []),qual:=X.env.qual,func:=Y,code:=X.env.code,frame:=X.env.frame,builtins:=X.env.builtins}
   {s with heap:=UR (s.heap.push {cls:=.type "dict",data:=.dict #[]}) sc.names}):
 KN M A (T6 sc X.env.globals (aB X.env.cells sc.names []) [] X.env.qual Y .none (Z X.env)) Q E s:=by
 simp only[T6,Ua,if_true];refine gV (wpAny_alloc ?_);refine gV (wpAny_layCells _ (λname kind cells=>by cases hkc:kind==Nl<;>simp[hkc]) _ _ _ _ ?_)
 rw[show({s with heap:=s.heap.push {cls:=.type "dict",data:=.dict #[]}}:r0).heap.objs.size=s.heap.objs.size+1 from LI ..]
 exact gV (tv (tv h))
theorem pI(hc:X.calm=F2){rest:List LV}{E:h8->r0->Prop}(hx:∀e s,X.xe e s->False)(B:bg sc X.env.scope X.N N' fr)(ha:∀g',rest[0]?=Z g'->g'.is_async=0)(hi:PI X target iter wi){tb:Wk->TC}(hg:∀s H fp,PG (aK X sc N' s H fp) target g)(j:∀s H fp p,PB (aK X sc N' s H fp) (λk=>bv ifs (aK X sc N' s H fp).env>>=λok=>if ok=F2 then bf elt (⟨target,iter,ifs,0⟩::rest) sc pos 0 (.ref p) (aK X sc N' s H fp).env k else k) (tb p)){Nn:Wk->St->Hp->Prop}{RR:h8->Wk->U3->r0->Prop}(I:Inv X pins σ H s)(h:wi σ H λJ H1=>∀p,H1 p=Y->cN J g (tb p) (Nn p) (inh fr σ) (upd H1 p (.lst [])))(hR:∀p fp s3 O s' σ' H' f,Inv X pins σ O s3->(∀b∈fp,cM X pins O b)->Inv (aK X sc N' s3 O fp) [] σ' H' s'->Nn p σ' H'->RR (.ref p) s3.heap.objs.size (.ok f) s'):
 KN (model X.prog X.w) X.A (eval iter X.env) (λx s₁=>KN (model X.prog X.w) X.A (SX x) (λit s₂=>KN (model X.prog X.w) X.A (newList []) (λacc s₃=>
  KN (model X.prog X.w) X.A (T6 sc X.env.globals (aB X.env.cells sc.names []) [] X.env.qual Y .none (Z X.env)) (λcenv s₄=>Ob (model X.prog X.w) X.A (.compStart (.ListComp elt (⟨target,iter,ifs,0⟩::rest) sc pos) 0 it acc {cenv with scope:=relabel sc X.env}) (RR acc cenv.locals) s₄) E s₃) E s₂) E s₁) E s:=by
 refine nox hx (thn (hi pins s σ H _ I h) λv s1 h1=>nox hx (thn h1 λitv s2 h2=>?_));obtain⟨it,fp,tn,J,H2,e,I2,T,F,f2,hw⟩:=h2;subst e;have hf:H2 s2.heap.objs.size=Y:=I2.hok.fresh (KO _);refine QA ?_;have I3:Inv X pins σ (upd H2 s2.heap.objs.size (.lst [])) {s2 with heap:=s2.heap.push {cls:=.type "list",dict:=Y,data:=.seq ([]:List h8).toArray}}:=I2.laid (t':=s2.toks) (λb u e=>hQ _ e) (KO _) ⟨N7 _,[],0,.nil,A2 _ rfl⟩
 have fneq:∀b∈fp,b≠s2.heap.objs.size:=λb j z=>by obtain⟨o,e,_⟩:=T.obj _ _ F b j;exact absurd (B1 e) (by rw[z];exact LZ _)
 have U:∀b∈fp,cM X pins (upd H2 s2.heap.objs.size (.lst [])) b:=λb j=>⟨by rw[am (fneq b j)];exact(f2 b j).1,(f2 b j).2⟩
 have Fn:∀b∈fp,b<(s2.heap.push {cls:=.type "list",dict:=Y,data:=.seq ([]:List h8).toArray}).objs.size:=λb j=>by obtain⟨o,e,_⟩:=T.obj _ _ F b j;rw[LI];exact Nat.lt_succ_of_lt (B1 e)
 have fv:tn 0 (s2.heap.push {cls:=.type "list",dict:=Y,data:=.seq ([]:List h8).toArray}):=T.keep _ _ _ F λb _ o e=>hQ _ e;refine nT ?_;have L:=vR (N':=N') I3 U Fn B;have G:=T.keep _ (h':=UR (({s2 with heap:=s2.heap.push {cls:=.type "list",dict:=Y,data:=.seq ([]:List h8).toArray}}:r0).heap.push {cls:=.type "dict",data:=.dict #[]}) sc.names) _ fv λb _ o e=>SI _ _ b o (hQ _ e)
 have f4:∀b∈fp,cM (aK X sc N' {s2 with heap:=s2.heap.push {cls:=.type "list",dict:=Y,data:=.seq ([]:List h8).toArray}} (upd H2 s2.heap.objs.size (.lst [])) fp) [] (upd H2 s2.heap.objs.size (.lst [])) b:=λb j=>⟨(U b j).1,(L.ok.exf b j).1,L.ok.exfs b j,.inl j,(L.ok.exf b j).2,λp hp=>absurd (show p∈([]:List (Wk×Obj))from hp) (by simp)⟩
 have loop:=mG (X:=aK X sc N' {s2 with heap:=s2.heap.push {cls:=.type "list",dict:=Y,data:=.seq ([]:List h8).toArray}} (upd H2 s2.heap.objs.size (.lst [])) fp) (λ_ _ z=>z) hc
  (elt:=elt) (pos:=pos) (scope:=sc) (gens:=⟨target,iter,ifs,0⟩::rest) (d:=0) (acc:=.ref s2.heap.objs.size) rfl (λg' e=>ha g' (by simpa using e)) (hg _ _ _) (j _ _ _ _) L T G f4 (hw _ hf)
 refine Nh (jK (R:=λr s'=>match r with|.ok _=>∃σ' H',Inv (aK X sc N' {s2 with heap:=s2.heap.push {cls:=.type "list",dict:=Y,data:=.seq ([]:List h8).toArray}} (upd H2 s2.heap.objs.size (.lst [])) fp) [] σ' H' s'/\Nn s2.heap.objs.size σ' H'|.error _=>False)
  (gens:=⟨target,iter,ifs,0⟩::rest) (d:=0) rfl loop (T.self _ 0 _ _ _ G loop)) λr s5 hr=>?_
 cases r with
 |error e=>exact hr.elim
 |ok f=>obtain⟨σ5,H5,I5,n5⟩:=hr;exact hR _ fp _ _ s5 σ5 H5 f I3 U I5 n5
noncomputable def tY(wi:TI)(g:TG)(tb:Wk->TC)(fr:List (Option Nat)):TE:=λσ H Q=>wi σ H λJ H1=>∀p,H1 p=Y->cN J g (tb p) (λ_ H2=>Q (.ref p) H2) (inh fr σ) (upd H1 p (.lst []))
theorem mK(B:bg sc X.env.scope X.N N' fr):∀x∈sc.names,x.2=.local->sc.names.lookup x.1=Z .local:=λx hx e=>by obtain⟨n,k⟩:=x;have e':k=.local:=e;subst e';exact aX B.nd hx
theorem iZ(z:X.calm=F2){rest:List LV}(hx:∀e s,X.xe e s->False)(B:bg sc X.env.scope X.N N' fr)(F:∀g',rest[0]?=Z g'->g'.is_async=0)(hi:PI X target iter wi){tb:Wk->TC}(G:∀s H fp,PG (aK X sc N' s H fp) target g)(L:∀s H fp p,PB (aK X sc N' s H fp) (λk=>bv ifs (aK X sc N' s H fp).env>>=λok=>if ok=F2 then bf elt (⟨target,iter,ifs,0⟩::rest) sc pos 0 (.ref p) (aK X sc N' s H fp).env k else k) (tb p))(hs:∀x,Nx iter X.env x=pure x):
 PE X (.ListComp elt (⟨target,iter,ifs,0⟩::rest) sc pos) (tY wi g tb fr):=by
 intro pins s σ H Q I h;rw[eval_ListComp];refine RF (use:=Y) rfl hs (fR (gQ I B)) B.kind (mK B) (pI (Nn:=λp _ H2=>Q (.ref p) H2) (RR:=λacc C=>compPost (model X.prog X.w) X.A X.xe Y (EP X pins σ Q) acc C) z hx B F hi G L I h ?_);intro p fp s3 fv s' σ' H' f O U J q;obtain⟨m,Fn,_⟩:=J.loc;exact⟨m,Fn,λh' j=>⟨.ref p,H',mJ O U J j,rfl,q⟩⟩
theorem jL(hc:X.calm=F2){rest:List LV}{spos:Pos}{i:Nat}(hx:∀e s,X.xe e s->False)(B:bg sc X.env.scope X.N N' fr)(ha:∀g',rest[0]?=Z g'->g'.is_async=0)(hi:PI X target iter wi){tb:Wk->TC}(hg:∀s H fp,PG (aK X sc N' s H fp) target g)(F:∀s H fp p,PB (aK X sc N' s H fp) (λk=>bv ifs (aK X sc N' s H fp).env>>=λok=>if ok=F2 then bf elt (⟨target,iter,ifs,0⟩::rest) sc pos 0 (.ref p) (aK X sc N' s H fp).env k else k) (tb p))(hs:∀x,Nx iter X.env x=pure x)(G:PG X (.Name x pos') (jy i))(L:Pk (.ListComp elt (⟨target,iter,ifs,0⟩::rest) sc pos) (Z (.Name x pos')) spos.line X.env=pure F2):
 PS X (.Assign [.Name x pos'] (.ListComp elt (⟨target,iter,ifs,0⟩::rest) sc pos) spos) (oX (tY wi g tb fr) (jy i)):=by
 intro pins s σ H D I h;rw[exec_Assign_Name_used _ _ _ _ L];refine gV (Ot (gV ?_));show KN _ X.A (do let _ <-comprehension (.ListComp elt (⟨target,iter,ifs,0⟩::rest) sc pos) sc X.env _ (newList []) Wj (eval iter X.env) (Z (assign (.Name x pos') X.env))) _ _ s
 refine gV (Md (RF (use:=Z (assign (.Name x pos') X.env)) (Q:=λ_ s'=>SP X pins D .next s') rfl hs (fR (gQ I B)) B.kind (mK B)
  (pI (Nn:=λp _ H2=>D.nx (σ.set i (Z (.ref p))) H2) (RR:=λacc C=>compPost (model X.prog X.w) X.A X.xe (Z (assign (.Name x pos') X.env)) (λ_ s'=>SP X pins D .next s') acc C) hc hx B ha hi hg F I h ?_)) (λ_ s' hq=>tv (tv hq)) λ_ _ e=>e)
 intro p fp s3 H3 s' σ' H' f j f3 J q;obtain⟨m,⟨o,es,ep,ho,hd,hk,hm⟩,_⟩:=J.loc;have I4:Inv X pins σ H' s':=mJ (h':=s'.heap) j f3 J ⟨rfl,λ_ _=>rfl⟩;have hL:(aK X sc N' s3 H3 fp).env.locals=s3.heap.objs.size:=rfl;rw[hL]at ho;have O:H' s3.heap.objs.size=Y:=J.free;have neL:s3.heap.objs.size≠X.env.locals:=LL j.lt;have nfs:s3.heap.objs.size∉X.fs:=j.nofs (KO _);have I5:Inv X (pins++[(s3.heap.objs.size,o)]) σ H' s':=I4.pins_of λpr U=>by
  rcases Lo.mp U with z|z
  ·exact I4.pin pr (Lj _ z)
  ·have e:pr=(s3.heap.objs.size,o):=by simpa using z
   subst e;exact⟨ho,O,neL,nfs,λv z=>by rw[hd]at z;cases z⟩
 show KN _ X.A (assign (.Name x pos') X.env (.ref p)) _ _ _;refine thn (G _ s' σ H' (.ref p) (.ref p) D.nx I5 rfl q) λ_ s6 g9=>?_;obtain⟨σ6,H6,I6,q6⟩:=g9;obtain⟨Fn,fv,_⟩:=I6.pin (s3.heap.objs.size,o) (Lj _ (Lj _ (by simp)))
 refine⟨m,⟨o,es,ep,Fn,hd,hk,hm⟩,λh' JJ=>⟨σ6,H6,?_,q6⟩⟩;refine(I6.unpinned).turned (t':=s6.toks) (it:=s3.heap.objs.size) (λb o F e=>(JJ.2 b F).trans e) fv neL (.inr j.sz) (λy c e z=>?_) λpr U z=>?_
 ·obtain⟨v,q⟩:=j.cell y c e;exact absurd q.lt (by rw[z];exact LZ _)
 ·exact absurd (B1 (j.pin pr U).1) (by rw[z];exact LZ _)
end
end
end
section
open PySem.W (CodeHd tabObj kla_fn kla_obj)
noncomputable def fzO(a:Wk)(o:Obj):HO:=.frz o (.ext λh=>h.get? a=Z o)
theorem vS{h:Heap}{o:Obj}(e:h.get? a=Z o):ObjOk P w H h a (fzO a o):=⟨e,e,⟨o,e⟩,λ_ _ z k=>k _ z⟩
def pJ(H:Hp)(P:Wk)(pos:Pos)(q:Str):Prop:=∃ps,H P=Z (.tbl ps)/\(ps=#[]∨∃c' oc vs t,ps=#[MQ pos.line,MQ pos.col,.ref c']/\H c'=Z (fzO c' oc)/\oc.data=.fields vs/\vs[1]?=Z (.str q t))
def FnAt(H:Hp)(a:Wk)(q:Str)(params:OW)(body:Expr)(scope:Scope)(cl:List (Str×Wk)):Prop:=∃pm c' ctv oc vs t,H a=Z (fzO a (kla_obj "<lambda>" q params body scope cl pm c' ctv))/\H c'=Z (fzO c' oc)/\oc.data=.fields vs/\vs[1]?=Z (.str q t)
def eX(mg:Str->Option h8)(base:Heap):Prop:=∃bm ob,mg "__builtins__"=Z (.ref bm)/\bm≠Si/\base.get? bm=Z ob/\ob.cls=.type "module"/\ob.dict=Z Si/\ob.data=.plain
section
variable{X:Cx}{pins:List (Wk×Obj)}{σ:St}{H:Hp}{s:r0}{c P:Wk}{params:OW}{body:Expr}{scope:Scope}{pos:Pos}{Q:h8->r0->Prop}{E:h8->r0->Prop}{q:Str}
theorem yG(I:Inv X pins σ H s)(Fn:X.env.code=.ref c)(hC:CodeHd X.base c P)(hB:eX X.mg X.base)(hq:X.env.qual++"<lambda>"=q)(T:pJ H P pos q)(O:∀x∈scope.names,x.2=.free->(X.env.cells.lookup x.1).isSome=F2)(fv:defaultsOf params X.env=([],[]))(h:∀(a:Wk) (H':Hp) (s':r0),Inv X pins σ H' s'->H a=Y->(∀b o,b≠P->H b=Z o->H' b=Z o)->pJ H' P pos q->FnAt H' a q params body scope (aB X.env.cells scope.names [])->Q (.ref a) s'):
 KN (model X.prog X.w) X.A (eval (.Lambda params body scope pos) X.env) Q E s:=by
 obtain⟨ps,B,JN⟩:=T;obtain⟨bm,ob,b1,b2,b3,b4,b5,b6⟩:=hB;have F:s.heap.get? P=Z (tabObj ps):=I.hok P _ B;have hg:s.heap.Ns Mf X.mg:=I.mod.glob.keeps I.bk;have JO:Mf≠P:=λz=>by obtain⟨o,es,ep,e,hd,_⟩:=hg;rw[z,F]at e;cases e;cases hd
 have G:=I.bk _ _ b3;have JP:bm≠P:=λz=>by rw[z,F]at G;cases G;cases b4
 have JQ:bm≠Mf:=λz=>by obtain⟨o,es,ep,e,hd,_⟩:=hg;rw[<-z,G]at e;cases e;rw[hd]at b6;cases b6
 have JJ:s.heap.BuiltinsAt X.mg P:=⟨bm,ob,b1,b2,JQ,JP,G,b4,b5,b6⟩;refine PySem.W.kla_eval fv ?_;rw[hq];have fin:∀(h':Heap) (tk:Tok) (c':Wk) (oc:Obj) (vs:Array h8) (t:Tok) (pm ctv:h8) (ps':Array h8),(∀b o,b≠P->s.heap.get? b=Z o->h'.get? b=Z o)->s.heap.objs.size<=h'.objs.size->h'.get? P=Z (tabObj ps')->(∃more,ps'=ps++more)->
  h'.get? c'=Z oc->oc.data=.fields vs->vs[1]?=Z (.str q t)->(H c'=Y/\s.heap.objs.size<=c'∨H c'=Z (fzO c' oc))->(ps'=#[MQ pos.line,MQ pos.col,.ref c'])->
  Q (.ref h'.objs.size) {s with heap:=h'.push (kla_obj "<lambda>" q params body scope (aB X.env.cells scope.names []) pm c' ctv),toks:=tk}:=by
  intro h' tk c' oc vs t pm ctv ps' hx hsz J hm j hd ht hc JK;generalize ho:kla_obj "<lambda>" q params body scope (aB X.env.cells scope.names []) pm c' ctv=fo;obtain⟨more,rfl⟩:=hm;have na:H h'.objs.size=Y:=I.hok.fresh hsz;have JR:c'≠h'.objs.size:=Lg (B1 j);have JS:c'≠P:=λz=>by rw[z,J]at j;cases j;rcases hc with⟨n,_⟩|n<;>(rw[z,B]at n;cases n)
  have JT:P≠h'.objs.size:=Lg (B1 J);have pu:∀{b o},h'.get? b=Z o->(h'.push fo).get? b=Z o:=λe=>hQ _ e
  let H':Hp:=upd (upd (upd H P (.tbl (ps++more))) c' (fzO c' oc)) h'.objs.size (fzO h'.objs.size fo)
  have eP:H' P=Z (.tbl (ps++more)):=by show upd _ _ _ P=_;rw[am JT,am (Ne.symm JS),aD]
  have ec:H' c'=Z (fzO c' oc):=by show upd _ _ _ c'=_;rw[am JR,aD]
  have ea:H' h'.objs.size=Z (fzO h'.objs.size fo):=aD;have eo:∀b,b≠P->b≠c'->b≠h'.objs.size->H' b=H b:=λb h1 h2 L=>by show upd _ _ _ b=_;rw[am L,am h2,am h1]
  have kp:∀b o,b≠P->H b=Z o->H' b=Z o:=λb o h1 e=>by
   by_cases L:b=h'.objs.size
   ·subst L;rw[na]at e;cases e
   by_cases h2:b=c'
   ·subst h2
    rcases hc with⟨n,_⟩|n
    ·rw[n]at e;cases e
    ·rw[n]at e;cases e;exact ec
   ·rw[eo b h1 h2 L];exact e
  have nn:∀b o,s.heap.get? b=Z o->H b=Y->H' b=Y:=λb o e n=>by
   have h1:b≠P:=λz=>by rw[z,B]at n;cases n
   have L:b≠h'.objs.size:=Lg (Li (B1 e) hsz);have h2:b≠c':=λz=>by
    rcases hc with⟨_,l⟩|m
    ·rw[z]at e;exact absurd (Li (B1 e) l) (LZ _)
    ·rw[z,m]at n;cases n
   rw[eo b h1 h2 L];exact n
  have un:Un X.fs [] H H' s.heap (h'.push fo):=by
   refine⟨λb o e n _ _=>pu (hx b o (λz=>by rw[z,B]at n;cases n) e),λb o e n _ _=>⟨o.slots,pu (hx b o (λz=>by rw[z,B]at n;cases n) e)⟩,λb o e n _=>nn b o e n,λb o e _=>?_,λb xs e=>kp b _ (λz=>by rw[z,B]at e;cases e) e,λb o u e=>kp b _ (λz=>by rw[z,B]at e;cases e) e,λb JX e=>?_⟩
   ·by_cases z:b=P
    ·exact⟨_,z▸pu J⟩
    ·exact⟨o,pu (hx b o z e)⟩
   ·by_cases z:b=P
    ·subst z;rw[B]at e;cases e;exact⟨more,eP⟩
    ·exact⟨#[],by rw[kp b _ z e];simp⟩
  have hok:HOk X.prog X.w H' (h'.push fo):=λb o e=>by
   by_cases L:b=h'.objs.size
   ·subst L;rw[ea]at e;cases e;exact vS (A2 _ (by rw[<-ho];rfl))
   by_cases h2:b=c'
   ·subst h2;rw[ec]at e;cases e;exact vS (pu j)
   by_cases h1:b=P
   ·subst h1;rw[eP]at e;cases e;exact pu J
   rw[eo b h1 h2 L]at e;refine(I.hok b o e).stay (λb' u hb z=>pu (hx b' u (λy=>?_) z)) (λb' z=>kp b' _ (λy=>by rw[y,B]at z;cases z) z) λb' xs z=>kp b' _ (λy=>by rw[y,B]at z;cases z) z
   rcases hb with rfl|hb
   ·exact h1 y
   ·rw[y,B]at hb;cases hb
  refine h _ H' _ (I.un un hok) na kp ⟨_,eP,.inr ⟨c',oc,vs,t,JK,ec,hd,ht⟩⟩ ⟨pm,c',ctv,oc,vs,t,?_,ec,hd,ht⟩;rw[ho];exact ea
 have JL:=fR (scope:=scope) (env:=X.env) O
 rcases JN with rfl|⟨c',oc,vs,t,rfl,j,hd,ht⟩
 ·refine PySem.W.kla_makeFunction (mg:=X.mg) JL I.ok.glob hg Fn (hC.keeps I.bk) F trivial rfl JO JJ λc' ctv h' tk hx U JU JM JV=>?_;obtain⟨c2,oc,vs,t,e2,JW,hd,hv⟩:=JM
  cases e2
  exact fin h' tk c' oc vs t _ ctv _ (λb o n e=>hx b o n e) (LR U (OF JU)) JV ⟨_,rfl⟩ JW hd hv (.inl ⟨I.hok.fresh U,U⟩) rfl
 ·refine PySem.W.kla_makeFunctionHit (cv:=.ref c') (mg:=X.mg) JL I.ok.glob hg Fn (hC.keeps I.bk) F trivial ?_ JJ λctv h' tk hk hsz=>?_
  ·simp[codeAmong,MQ]
  ·exact fin h' tk c' oc vs t _ ctv _ (λb o _ e=>hk b o e) hsz (hk _ _ F) ⟨#[],by simp⟩ (hk _ _ (I.hok c' _ j).1) hd ht (.inr j) rfl
end
open PySem.W (envX)
noncomputable def cxL(CX:CXT)(P:L4)(w:Lq)(K:Frag)(mg:Str->Option h8)(base:Heap)(N:List Str)(q:Str)(scope:Scope)(a:Wk)(cd:h8)(cl:List (Str×Wk))(A:Lv)(outer:List Env)(s:r0)(H:Hp)(E:XK):Cx where
 prog:=P
 w:=w
 K:=K
 mg:=mg
 base:=base
 A:=A.deeper (envX q scope s.heap.objs.size a cd cl)
 N:=N
 s₀:=s
 H₀:=H
 env:=envX q scope s.heap.objs.size a cd cl
 outer:=outer
 stack:=envX q scope s.heap.objs.size a cd cl::outer
 ex:=[]
 calm:=F2
 fn:=λ_=>Wj
 pn:=[]
 xe:=λe s'=>KN (model P w) (A.deeper (envX q scope s.heap.objs.size a cd cl)) (leaving (envX q scope s.heap.objs.size a cd cl) e) (λ_ s''=>CX outer H s E e s'') (λe' s''=>CX outer H s E e' s'') s'
structure fS(xs:List Str)(y1 y2:Str)(sc:Scope):Prop where
 kind:sc.kind=.function
 co:sc.isCoroutine=Wj
 gen:sc.isGenerator=Wj
 ne:y1≠y2
 l1:sc.names.lookup y1=Z .local
 l2:sc.names.lookup y2=Z .local
 fr:∀x∈xs,sc.names.lookup x=Z .free
 nc:∀x∈sc.names,x.2≠.cell
 all:∀x,sc.names.lookup x=Z .free->x∈xs
structure rY(H:Hp)(h:Heap)(cl:List (Str×Wk))(xs:List Str)(gs:List V):Prop where
 inj:∀x y c,cl.lookup x=Z c->cl.lookup y=Z c->x=y
 free:∀x c,cl.lookup x=Z c->H c=Y
 isC:∀x c,cl.lookup x=Z c->∃v,h.IsCell c v
 val:∀(i:Nat) (x:Str) (v:V),xs[i]?=Z x->gs[i]?=Z v->∃c u,cl.lookup x=Z c/\h.IsCell c (Z u)/\RelV v u
 has:∀x∈xs,∃c,cl.lookup x=Z c
 len:gs.length=xs.length
section
variable{CX:CXT}{P:L4}{w:Lq}{K:Frag}{mg:Str->Option h8}{base:Heap}{xs:List Str}{y1 y2 q:Str}{scope:Scope}{a:Wk}{cd:h8}{cl:List (Str×Wk)}{A:Lv}{outer:List Env}{s:r0}{H:Hp}{E:XK}{u1 u2:h8}{v1 v2:V}{gs:List V}{h₁:Heap}{k:Nat}
theorem Bu(S:fS xs y1 y2 scope)(hd:A.handled=Y)(e0:gJ P w K mg base A outer s H)(C:rY H s.heap cl xs gs)(O:RelV v1 u1)(U:RelV v2 u2)(J:h₁.Ns s.heap.objs.size λx=>([(y1,u1),(y2,u2)]:List (Str×h8)).reverse.lookup x)(G:∀b o,s.heap.get? b=Z o->h₁.get? b=Z o):
 Inv (cxL CX P w K mg base (xs++[y1,y2]) q scope a cd cl A outer s H E) [] ((gs++[v1,v2]).map Z) H {s with heap:=h₁,toks:=s.toks+2}:=by
 have noA:∀b:Wk,b∉(cxL CX P w K mg base (xs++[y1,y2]) q scope a cd cl A outer s H E).ex:=λb z=>absurd (show b∈([]:List Wk)from z) (by simp)
 refine⟨⟨e0.mod,S.kind,rfl,rfl,KO _,C.inj,λy F=>?_,λy c z _=>(by cases z),λ_=>hd,T2 e0.frames,.inr ⟨rfl,rfl⟩,λb z=>absurd z (noA b),e0.bs,e0.bsz,λb _ _=>noA b,λb z=>absurd z (noA b),e0.funs,e0.frf⟩,
  rfl,e0.bare,Un.kept G,⟨_,J,λi y v h1 h2 h3=>?_⟩,λy c h=>?_,e0.hok.fresh (KO _),λy c h=>C.free y c h,λp Fn=>absurd (show p∈([]:List (Wk×Obj))from Fn) (by simp),e0.hok.kept G,?_⟩
 ·have F:scope.names.lookup y=Z .cell∨scope.names.lookup y=Z .free:=F
  rcases F with F|F
  ·exact absurd rfl (S.nc _ (LB F))
  ·exact C.has y (S.all y F)
 ·rw[KL,Sv]at h2;obtain⟨v',h2,e⟩:=h2
  cases e
  by_cases hi:i<xs.length
  ·have B:xs[i]?=Z y:=by rw[<-KR (l₂:=[y1,y2]) hi];exact h1
   rw[KR (by rw[C.len];exact hi)]at h2
   obtain⟨c,u,e1,⟨o,e2,L⟩,fv⟩:=C.val i y v B h2;exact⟨u,fv,.inr ⟨.inr (S.fr y (KZ B)),c,e1,o,G _ _ e2,L⟩⟩
  ·have B:([y1,y2]:List Str)[i-xs.length]?=Z y:=by rw[<-D0 (l₁:=xs) ∅];exact h1
   rw[D0 (by rw[C.len];lia),C.len]at h2
   generalize i-xs.length=j at B h2
   match j with
   |0=>
    cases B;cases h2
    refine⟨u1,O,.inl ⟨S.l1,?_⟩⟩;simp[Pc,S.ne,beq_eq_false_iff_ne.mpr S.ne]
   |1=>
    cases B;cases h2
    exact⟨u2,U,.inl ⟨S.l2,by simp[Pc]⟩⟩
   |_+2=>simp at B
 ·obtain⟨v,o,e2,L⟩:=C.isC y c h;exact⟨v,o,G _ _ e2,L⟩
 ·show((gs++[v1,v2]).map Z).length=(xs++[y1,y2]).length;simp[C.len]
theorem Bv{params:OW}{body:Expr}{Q:VK}(B:Room (k+1) A)(e0:gJ P w K mg base A outer s H)(F:FnAt H a q params body scope cl)(S:fS xs y1 y2 scope)(C:rY H s.heap cl xs gs)(Fn:∀fd:N5,fd.params=params->fd.defaults=.none->fd.kwdefaults=.none->SY fd ⟨[u1,u2],[]⟩=pure [(y1,u1),(y2,u2)])(fv:RelV v1 u1)(r2:RelV v2 u2)(j:∀cd,Room k (A.deeper (envX q scope s.heap.objs.size a cd cl))->∃t,PE (cxL CX P w K mg base (xs++[y1,y2]) q scope a cd cl A outer s H E) body t/\t ((gs++[v1,v2]).map Z) H Q):
 Ob (model P w) A (.call (.ref a) ⟨[u1,u2],[]⟩) (CR CX outer P w H s Q E) s:=by
 obtain⟨pm,c',ctv,oc,vs',t',ea,ec,hd,ht⟩:=F;have G:=(e0.hok a _ ea).1;have L:=(e0.hok c' _ ec).1;have lim:s.heap.NoLimit:=e0.mod.nolimit.keeps λb o e=>(e0.bs b o e).1;refine PySem.W.kla_callFunE B.depth G rfl S.co S.gen rfl ⟨c',oc,vs',t',rfl,L,hd,ht⟩ ?_;rw[Fn _ rfl rfl rfl];refine tv (wpAny_newFunctionEnv S.nc (λy U=>?_) (λh₁ O z=>⟨lim.fresh _ z,?_⟩) S.kind)
 ·simp only[D1,Lb,or_false]at U
  rcases U with rfl|rfl
  ·exact S.l1
  ·exact S.l2
 show Ob _ _ (.expr body (envX q scope s.heap.objs.size a (.ref c') cl)) _ _;have hk:∀b o,s.heap.get? b=Z o->h₁.get? b=Z o:=λb o e=>z.extBut b o (Lg (B1 e)) (hQ _ e);obtain⟨t,hp,hq⟩:=j (.ref c') (B.deeper _);have I:=Bu (CX:=CX) (E:=E) (q:=q) (a:=a) (cd:=.ref c') S B.hd e0 C fv r2 O hk;refine PySem.W.kla_codeExpr (Md (hp [] _ _ H _ I hq) (λv s' hs=>?_) λe s' hs=>hs);obtain⟨v,H',J,rv,q⟩:=hs;exact⟨v,H',J.os,J.bare,J.base,J.hok,rv,q⟩
end
structure iq(P:L4)(w:Lq)(K:Frag)(mg:Str->Option h8)(base:Heap)(k:Nat)(fs:List Wk)(a:Wk)(sp:Sp)(H:Hp)(h:Heap):Prop where
 fn:∃o fd,H a=Z (fzO a o)/\o.data=.func fd
 run:∀(A:Lv) (outer:List Env) (s1:r0) (H1:Hp) (u1 u2:h8) (v1 v2:V) (Q:VK),Un fs [] H H1 h s1.heap->Room k A->gJ P w K mg base A outer s1 H1->RelV v1 u1->RelV v2 u2->sp [v1,v2] H1 Q E0->
  Ob (model P w) A (.call (.ref a) ⟨[u1,u2],[]⟩) (CR CX0 outer P w H1 s1 Q E0) s1
structure nX(P:L4)(w:Lq)(K:Frag)(mg:Str->Option h8)(base:Heap)(k:Nat)(f:Wk)(fd:N5)(ps:List Str)(sp:List Env->r0->Sp):Prop where
 len:∀o s vs H Q E,sp o s vs H Q E->vs.length=ps.length
 run:∀(A:Lv) (outer:List Env) (s:r0) (H:Hp) (args:Args) (us:List h8) (vs:List V) (Q:VK) (E:XK),Room k A->gJ P w K mg base A outer s H->Tq s fd args (ps.zip us)->Vals vs us->sp outer s vs H Q E->
  Ob (model P w) A (.call (.ref f) args) (CR CX0 outer P w H s Q E) s
end
variable{K:Frag}{f:Wk}{qual:Str}{N ps:List Str}
section
theorem E2 {mg:Str->Option h8}{base:Heap}{k:Nat}{name:Str}{params:OW}{body:List Stmt}{dV kV doc pm cdv ct oc:h8}{an od:Option Wk}{osl:Array (Option h8)}{sp:List Env->r0->Sp}(lk:K.lookup f=Z ⟨oc,od,.func (Nj name qual params body scope dV kV doc pm an cdv ct),osl⟩)(F:Pb K cdv qual=F2)(S:cK N ps scope)(len:∀o s vs H Q E,sp o s vs H Q E->vs.length=ps.length)(j:∀(A:Lv) (outer:List Env) (s:r0) (H:Hp) (vs:List V) (Q:VK) (E:XK),Room k (A.deeper (Ql qual scope s.heap.objs.size f cdv))->sp outer s vs H Q E->
   ∃t,PSs (cI CX0 P w K mg base N qual scope f cdv A outer s H E) body t/\t {nx:=λ_ H'=>Q .non H',rt:=Q} (bD N vs) H):
 nX P w K mg base (k+1) f (Nj name qual params body scope dV kV doc pm an cdv ct) ps sp:=by
 refine⟨len,λA outer s H args us vs Q E G e0 L r B=>?_⟩;have O:=len _ _ _ _ _ _ B;have KX:K.In s.heap:=e0.mod.kin.keeps λb o e=>(e0.bs b o e).1;have lim:s.heap.NoLimit:=e0.mod.nolimit.keeps λb o e=>(e0.bs b o e).1;have z:∀y∈ps.zip us,scope.names.lookup y.1=Z .local∨(scope.names.lookup y.1=Z .cell/\((Nf (s.heap.objs.size+1) scope.names []).lookup y.1).isSome=F2):=λ⟨n,v⟩ hy=>by
  rcases S.par n (NH hy).1 with q|q
  ·exact .inl q
  ·exact .inr ⟨q,OG _ _ _ (.inl q)⟩
 refine SQ G.depth (KX _ _ lk) rfl S.co S.gen rfl (U5 KX F) (L _ _ _ _ ?_);refine R9 S.kind z λenv he s1 x=>?_;subst he;refine⟨lim.keeps x.toInCall.keep,codeAny_func ?_⟩;obtain⟨t,U,Fn⟩:=j A outer s H vs Q E (G.deeper _) B;have I:Inv (cI CX0 P w K mg base N qual scope f cdv A outer s H E) [] (bD N vs) H s1:=mz S G.hd e0 O r x;refine Md (U [] s1 (bD N vs) H _ I Fn) (λfl s' hs=>?_) λe s' hs=>hs;have fin:∀{σ':St} {H':Hp} {v:V} {u:h8},Inv (cI CX0 P w K mg base N qual scope f cdv A outer s H E) [] σ' H' s'->RelV v u->Q v H'->CE outer P w H s Q u s':=λ{σ' H' v u} J rv q=>⟨v,H',J.os,J.bare,J.base,J.hok,rv,q⟩
 cases fl with
 |ret u=>obtain⟨v,σ',H',J,rv,q⟩:=hs;exact fin J rv q
 |next=>obtain⟨σ',H',J,q⟩:=hs;exact fin (v:=V.non) (u:=MY) J rfl q
 |brk=>obtain⟨_,_,_,q⟩:=hs;exact False.elim q
 |cont=>obtain⟨_,_,_,q⟩:=hs;exact False.elim q
end
variable{fd:N5}{c:Wk}
section
open PySem.W (envX)
structure FunP(K:Frag)(x qual:Str)(st:Stmt)(f:Wk)(fd:N5)(P:Wk):Prop where
 ex:∃(oc:h8) (od:Option Wk) (kV doc pm:h8) (an:Option Wk) (c:Wk) (ct:h8) (osl:Array (Option h8)),
  fd=Nj x qual (cW st) (br st) (ao st) .none kV doc pm an (.ref c) ct/\K.lookup f=Z ⟨oc,od,.func fd,osl⟩/\Pb K (.ref c) qual=F2/\MD K c P=F2
section
variable{P:L4}{w:Lq}{K:Frag}{mg:Str->Option h8}{base:Heap}{k:Nat}
theorem Fun.okS {st:Stmt}{sp:List Env->r0->Sp}(F:Fun K x qual st f fd)(S:cK N ps (ao st))(len:∀o s vs H Q E,sp o s vs H Q E->vs.length=ps.length)(j:∀(cdv:h8) (A:Lv) (outer:List Env) (s:r0) (H:Hp) (vs:List V) (Q:VK) (E:XK),Room k (A.deeper (Ql qual (ao st) s.heap.objs.size f cdv))->sp outer s vs H Q E->
   ∃t,PSs (cI CX0 P w K mg base N qual (ao st) f cdv A outer s H E).nox (br st) t/\t {nx:=λ_ H'=>Q .non H',rt:=Q} (bD N vs) H):nX P w K mg base (k+1) f fd ps sp:=by
 obtain⟨oc,od,kV,doc,pm,an,cdv,ct,osl,rfl,lk,z⟩:=F.ex;refine E2 lk z S len λA outer s H vs Q E G B=>?_;obtain⟨t,h,q⟩:=j cdv A outer s H vs Q E G B;exact⟨t,h.nox,q⟩
theorem FunP.ok {st:Stmt}{sp:Sp}{T:Wk}(F:FunP K x qual st f fd T)(S:cK N ps (ao st))(len:∀vs H Q E,sp vs H Q E->vs.length=ps.length)(j:∀(c:Wk) (A:Lv) (outer:List Env) (s:r0) (H:Hp) (vs:List V) (Q:VK) (E:XK),MD K c T=F2->Room k (A.deeper (Ql qual (ao st) s.heap.objs.size f (.ref c)))->sp vs H Q E->
   ∃t,PSs (cI CX0 P w K mg base N qual (ao st) f (.ref c) A outer s H E).nox (br st) t/\t {nx:=λ_ H'=>Q .non H',rt:=Q} (bD N vs) H):FnOk P w K mg base CX0 (k+1) f fd ps sp:=by
 obtain⟨oc,od,kV,doc,pm,an,c,ct,osl,rfl,lk,z,hd⟩:=F.ex;refine AG lk z S len λA outer s H vs Q E G B=>?_;obtain⟨t,h,q⟩:=j c A outer s H vs Q E hd G B;exact⟨t,h.nox,q⟩
end
section
variable{X:Cx}{pins:List (Wk×Obj)}{σ:St}{H:Hp}{s:r0}{a:Wk}{q:Str}{params:OW}{body:Expr}{scope:Scope}{xs:List Str}{y1 y2:Str}{js:List Nat}{gs:List V}{sp:Sp}{k:Nat}
theorem bP{cells:List (Str×Wk)}{names:List (Str×O0)}(h:(aB cells names []).lookup x=Z c):cells.lookup x=Z c:=by
 rcases cO (LB h)with z|z
 ·simp at z
 ·exact z.1
theorem mL{cells:List (Str×Wk)}{names:List (Str×O0)}(j:cells.lookup x=Z c)(hx:(x,Lr)∈names):(aB cells names []).lookup x=Z c:=by
 have hm:=cP (acc:=[]) j (.inr hx)
 cases e:(aB cells names []).lookup x with
 |some c'=>have:=bP e;rw[j]at this;cases this;rfl
 |none=>rw[List.lookup_eq_none_iff]at e;have:=e _ hm;simp at this
theorem FT{a1 a2:Arg}{u1 u2:h8}(j:a1.arg≠a2.arg)(z:fd.params=⟨[],[a1,a2],Y,[],[],Y,[]⟩)(hd:fd.defaults=.none)(B:fd.kwdefaults=.none):SY fd ⟨[u1,u2],[]⟩=pure [(a1.arg,u1),(a2.arg,u2)]:=by
 unfold SY;have e1:∀(x y:Str) (u v:h8),(([(x,u),(y,v)]:List (Str×h8)).lookup x).isNone=Wj:=λx y u v=>by simp[Pc]
 have e2:∀(x y:Str) (u v:h8),(([(x,u),(y,v)]:List (Str×h8)).lookup y).isNone=Wj:=λx y u v=>by
  simp only[Pc]
  split<;>simp
 have F:US MY=pure Y:=rfl;simp only[Pe,z,hd,B,Om,KI,QN,PV,List.zip_nil_right,UQ,F,RX,La,MV,List.drop_nil,RY,List.filter_nil,List.take,e1,e2];have G:(a2.arg==a1.arg)=Wj:=beq_eq_false_iff_ne.mpr (Ne.symm j);simp[Pc,G]
theorem yH (I:Inv X pins σ H s)(F:FnAt H a q params body scope (aB X.env.cells scope.names []))(S:fS xs y1 y2 scope)(z:∀x∈xs,X.env.scope.names.lookup x=Z .cell)(G:∀(i:Nat) (x:Str),xs[i]?=Z x->∃j:Nat,X.N[j]?=Z x/\∀v:V,gs[i]?=Z v->σ[j]?=Z (Z v))(hlen:gs.length=xs.length)(Fn:∀(fd:N5) (u1 u2:h8),fd.params=params->fd.defaults=.none->fd.kwdefaults=.none->SY fd ⟨[u1,u2],[]⟩=pure [(y1,u1),(y2,u2)])(B:∀(A:Lv) (outer:List Env) (s1:r0) (H1:Hp) (v1 v2:V) (Q:VK) (cd:h8),Un (frs X.stack) [] H H1 s.heap s1.heap->sp [v1,v2] H1 Q E0->Room k (A.deeper (envX q scope s1.heap.objs.size a cd (aB X.env.cells scope.names [])))->
   ∃t,PE (cxL CX0 X.prog X.w X.K X.mg X.base (xs++[y1,y2]) q scope a cd (aB X.env.cells scope.names []) A outer s1 H1 E0) body t/\t ((gs++[v1,v2]).map Z) H1 Q):
 iq X.prog X.w X.K X.mg X.base (k+1) (frs X.stack) a sp H s.heap:=by
 refine⟨(by obtain⟨pm,c',ctv,oc,vs,t,e1,_⟩:=F;exact⟨_,_,e1,rfl⟩),?_⟩
 intro A outer s1 H1 u1 u2 v1 v2 Q un fv e0 r1 r2 J;have nf:∀{c:Wk} {v:Option h8},s.heap.IsCell c v->H c=Y->s1.heap.IsCell c v/\H1 c=Y:=λ{c v} g9 n=>by
  obtain⟨o,ho,hd⟩:=g9;obtain⟨sl,e⟩:=un.any ho n (by simp)
  exact⟨⟨_,e,hd⟩,un.free c o ho n (by simp)⟩
 have F1:FnAt H1 a q params body scope (aB X.env.cells scope.names []):=by obtain⟨pm,c',ctv,oc,vs,t,e1,e2,r⟩:=F;exact⟨pm,c',ctv,oc,vs,t,un.frzs _ _ _ e1,un.frzs _ _ _ e2,r⟩
 refine Bv fv e0 F1 S ⟨λx y c h1 h2=>I.ok.inj x y c (bP h1) (bP h2),λx c h=>?_,λx c h=>?_,λi x v h1 h2=>?_,λx hx=>?_,hlen⟩ (λfd h=>Fn fd u1 u2 h) r1 r2 λcd L=>B A outer s1 H1 v1 v2 Q cd un J L
 ·obtain⟨v,O⟩:=I.cell x c (bP h);exact(nf O (I.freeC x c (bP h))).2
 ·obtain⟨v,O⟩:=I.cell x c (bP h);exact⟨v,(nf O (I.freeC x c (bP h))).1⟩
 ·obtain⟨j,n1,n2⟩:=G i x h1;obtain⟨m,_,hl⟩:=I.loc;have U:=z x (KZ h1);obtain⟨u,rv,l⟩:=hl j x v n1 (n2 v h2) (.inr (.inl U))
  rcases l with⟨l,_⟩|⟨_,c,e1,e2⟩
  ·have l:X.env.scope.names.lookup x=Z .local:=l;rw[U]at l;cases l
  ·exact⟨c,u,mL e1 (LB (S.fr x (KZ h1))),(nf e2 (I.freeC x c e1)).1,rv⟩
 ·obtain⟨c,e1⟩:=I.ok.has x (.inl (z x hx));exact⟨c,mL e1 (LB (S.fr x hx))⟩
theorem yI(hex:X.ex=[])(B:Room k X.A)(C:iq X.prog X.w X.K X.mg X.base k X.fs a sp X.H₀ X.s₀.heap):∀(pins:List (Wk×Obj)) (s:r0) (σ:St) (H:Hp) (v1 v2:V) (us:List h8) (Q:VK),Inv X pins σ H s->Vals [v1,v2] us->sp [v1,v2] H Q E0->Uv a s.heap/\KN (model X.prog X.w) X.A (call (.ref a) us) (EP X pins σ Q) X.xe s:=by
 intro pins s σ H v1 v2 us Q I r hsp;obtain⟨u1,j,rfl,F,r'⟩:∃u1 j,us=u1::j/\RelV v1 u1/\Vals [v2] j:=by cases r with|cons h t=>exact⟨_,_,rfl,h,t⟩
 obtain⟨u2,rfl,G⟩:∃u2,j=[u2]/\RelV v2 u2:=by cases r' with|cons h t=>cases t;exact⟨_,rfl,h⟩
 have un:Un X.fs [] X.H₀ H X.s₀.heap s.heap:=by have:=I.base;rw[hex]at this;exact this
 obtain⟨⟨o,fd,ea,hd⟩,C⟩:=C;have ea:=(I.hok a _ (un.frzs _ _ _ ea)).1;refine⟨by obtain⟨oc,od,dt,sl⟩:=o;cases hd;exact⟨oc,od,fd,sl,ea⟩,?_⟩
 refine Sl (Nh (C X.A X.stack s H u1 u2 v1 v2 Q un B I.env0 F G hsp) λr s' z=>?_)
 cases r with
 |error e=>exact z.elim
 |ok fl=>
  cases fl with
  |ret u=>exact I.after z
  |next=>exact False.elim z
  |brk=>exact False.elim z
  |cont=>exact False.elim z
end
end
section
open PySem.W (CodeHd tabObj)
structure nY(ts:List (Wk×Wk))(H:Hp):Prop where
 tab:∀q∈ts,H q.2=Z (.tbl #[])
 oth:∀b,H b=Y∨(∃o xs,H b=Z (.frz o (.lst xs)))∨∃q∈ts,b=q.2
def Scr(K:Frag)(H:Hp)(a:Wk)(xs:List V):Prop:=(∃o,H a=Z (.frz o (.lst xs)))∨∃(o:Obj) (its:Array h8) (n:Nat),K.lookup a=Z o/\o.cls=.type "list"/\o.dict=Y/\o.data=.seq its n/\its.size<=KG/\Vals xs its.toList
theorem vT{mg mb:Str->Option h8}{k:Nat}{fa:Wk}{sp:Sp}{vs:List h8}{ns:List Int}{ts:List (Wk×Wk)}(KX:K.In s.heap)(Fn:s.heap.Ns Mf mg)(B:s.heap.Ns Si mb)(JL:∀x:Str,x≠"__name__"->mb x=QY x)(fv:s.heap.NoLimit)(hg:s.gens=#[])(hB:eX mg s.heap)(U:s.heap.get? a=Z {cls:=.type "list",data:=.seq vs.toArray})(hi:Vv vs ns)(hl:ns.length<=KG)(hr:Room k Tr)(J:∀q∈ts,CodeHd s.heap q.1 q.2/\s.heap.get? q.2=Z (tabObj #[])/\K.lookup q.2=Y)(F:∀base:Heap,K.In base->base.Ns Mf mg->eX mg base->FnOk P w K mg base CX0 k fa fd [x] sp)(O:∀(s:r0) (u:h8),Tq s fd ⟨[u],[]⟩ [(x,u)])(JM:∀H:Hp,nY ts H->Scr K H a (ns.map V.int)->sp [.ref a] H (λv _=>v=.bl F2) λ_ _ _=>False):
 Ob (model P w) Tr (.call (.ref fa) ⟨[.ref a],[]⟩) (λr s'=>r=.ok (.ret (.bool F2))/\OldK s.heap s'.heap/\s'.os=s.os/\Rr s'.gens) s:=by
 have rv:=mD hi;have lenV:=hi.length;have JJ:∀q∈ts,a≠q.2:=λq j z=>by have e:=(J q j).2.1;rw[<-z,U]at e;cases e
 have core:∀H:Hp,nY ts H->Scr K H a (ns.map V.int)->HOk P w H s.heap->(∀b,H b≠Y->(b=a/\K.lookup a=Y)∨∃q∈ts,b=q.2)->
  Ob (model P w) Tr (.call (.ref fa) ⟨[.ref a],[]⟩) (λr s'=>r=.ok (.ret (.bool F2))/\OldK s.heap s'.heap/\s'.os=s.os/\Rr s'.gens) s:=by
  intro H hO hS hok hA;have free:∀{b:Wk} {o:Obj},s.heap.get? b=Z o->(o.cls≠.none)->(b≠a∨K.lookup a≠Y)->H b=Y:=λ{b o} e hc hn=>by
   cases q:H b with
   |none=>rfl
   |some u=>
    rcases hA b (by rw[q];simp)with⟨z,z2⟩|⟨p,G,z⟩
    ·rcases hn with n|n
     ·exact absurd z n
     ·exact absurd z2 n
    ·rw[z,(J p G).2.1]at e;cases e;exact absurd rfl hc
  have dfree:∀{b:Wk} {o:Obj} {es:Array LW} {ep:Nat},s.heap.get? b=Z o->o.data=.dict es ep->H b=Y:=λ{b o es ep} e d=>by
   cases q:H b with
   |none=>rfl
   |some u=>
    rcases hA b (by rw[q];simp)with⟨z,_⟩|⟨p,G,z⟩
    ·rw[z,U]at e;cases e;cases d
    ·rw[z,(J p G).2.1]at e;cases e;cases d
  have nsK:∀{b:Wk} {m:Str->Option h8},s.heap.Ns b m->(fK s.heap H).Ns b m:=λ{b m} g9=>(by obtain⟨o,es,ep,e,d,r⟩:=g9;exact⟨o,es,ep,j9 e (dfree e d),d,r⟩)
  have JK:K.In (fK s.heap H):=λb o e=>j9 (KX b o e) (by
   cases q:H b with
   |none=>rfl
   |some u=>
    rcases hA b (by rw[q];simp)with⟨z,z2⟩|⟨p,G,z⟩
    ·rw[z,z2]at e;cases e
    ·rw[z,(J p G).2.2]at e;cases e)
  have JN:eX mg (fK s.heap H):=by
   obtain⟨bm,ob,b1,b2,b3,b4,b5,b6⟩:=hB;refine⟨bm,ob,b1,b2,j9 b3 (free b3 (by rw[b4];intro z;cases z) (.inl λz=>?_)),b4,b5,b6⟩
   rw[z,U]at b3;cases b3;cases b6
  have hM:Mod K mg (fK s.heap H):=⟨JK,nsK Fn,⟨mb,nsK B,JL⟩,let⟨mc,h1,h2⟩:=fv; ⟨mc,nsK h1,h2⟩⟩;have e0:gJ P w K mg (fK s.heap H) Tr [] s H:=⟨rfl,hM,λb o e=>Be e,Nat.le_of_eq (vz _ _),trivial,λb B=>absurd (show b∈([]:List Wk)from B) (by simp),hok,.of_eq hg⟩
  refine Nh ((F _ JK (nsK Fn) JN).run Tr [] s H ⟨[.ref a],[]⟩ [.ref a] [.ref a] _ _ hr e0 (O s (.ref a)) (.cons rfl .nil) (JM H hO hS)) λr s' h=>?_
  cases r with
  |error e=>exact h.elim
  |ok fl=>
   cases fl with
   |next=>exact False.elim h
   |brk=>exact False.elim h
   |cont=>exact False.elim h
   |ret u=>
    obtain⟨v,H',os,bare,un,L,r',q⟩:=h;have q':v=.bl F2:=q;subst q';obtain rfl:u=Vw F2:=r';refine⟨rfl,⟨λb o e=>?_,λb o e=>un.there b o e (by simp)⟩,os,bare⟩
    cases q:H b with
    |none=>exact .inl (un.keep b o e q (by intro z;exact absurd (show b∈([]:List Wk)from z) (by simp)) (by simp))
    |some u=>
     rcases hO.oth b with z|⟨ob,xs,z⟩|⟨p,G,rfl⟩
     ·rw[q]at z;cases z
     ·have z2:=un.frzs b ob _ z;obtain⟨e1,_⟩:=hok b _ z;obtain⟨e2,_⟩:=L b _ z2;rw[e]at e1;cases e1;exact .inl e2
     ·obtain⟨more,e2⟩:=un.tbls _ _ (hO.tab p G);have e3:s'.heap.get? p.2=Z (tabObj (#[]++more)):=L _ _ e2;have e4:=(J p G).2.1;rw[e]at e4;cases e4;exact .inr (.inl ⟨((J p G).1.tab (J p G).2.1).isCodeTable,rfl,#[],more,rfl,e3⟩)
 let T0:Hp:=λb=>if ts.any (λq=>decide (q.2=b))=F2 then Z (.tbl #[])else Y
 have t1:∀b,(∃q∈ts,b=q.2)->T0 b=Z (.tbl #[]):=λb ⟨q,j,z⟩=>if_pos (Mk.mpr ⟨q,j,decide_eq_true z.symm⟩);have t2:∀b,(¬∃q∈ts,b=q.2)->T0 b=Y:=λb hn=>if_neg λz=>by obtain⟨q,j,e⟩:=Mk.mp z;exact hn ⟨q,j,(of_decide_eq_true e).symm⟩
 have tok:∀{H:Hp} {b:Wk} {o:HO},T0 b=Z o->ObjOk P w H s.heap b o:=λ{H b o} e=>by
  by_cases z:∃q∈ts,b=q.2
  ·rw[t1 b z]at e;cases e;obtain⟨q,j,rfl⟩:=z;exact(J q j).2.1
  ·rw[t2 b z]at e;cases e
 have aT:¬∃q∈ts,a=q.2:=λ⟨q,j,z⟩=>JJ q j z
 cases hk:K.lookup a with
 |some o=>
  have e:=KX a o hk;rw[U]at e
  cases e
  refine core T0 ⟨λq j=>t1 _ ⟨q,j,rfl⟩,λb=>?_⟩ (.inr ⟨_,vs.toArray,_,hk,rfl,rfl,rfl,by rw[KJ,lenV];exact hl,by simpa using rv⟩) (λb u z=>tok z) λb z=>?_
  ·by_cases z:∃q∈ts,b=q.2
   ·exact .inr (.inr z)
   ·exact .inl (t2 b z)
  ·by_cases y:∃q∈ts,b=q.2
   ·exact .inr y
   ·exact absurd (t2 b y) z
 |none=>
  refine core (upd T0 a (.frz {cls:=.type "list",data:=.seq vs.toArray} (.lst (ns.map V.int)))) ⟨λq j=>by rw[am (Ne.symm (JJ q j))];exact t1 _ ⟨q,j,rfl⟩,λb=>?_⟩ (.inl ⟨_,aD⟩) (λb u z=>?_) λb z=>?_
  ·by_cases B:b=a
   ·subst B;exact .inr (.inl ⟨_,_,aD⟩)
   ·rw[am B]
    by_cases z:∃q∈ts,b=q.2
    ·exact .inr (.inr z)
    ·exact .inl (t2 b z)
  ·by_cases B:b=a
   ·subst B;rw[aD]at z;cases z;exact⟨U,by rw[m1];exact hl,vs,_,rv,U⟩
   ·rw[am B]at z;exact tok z
  ·by_cases B:b=a
   ·exact .inl ⟨B,hk⟩
   ·rw[am B]at z
    by_cases y:∃q∈ts,b=q.2
    ·exact .inr y
    ·exact absurd (t2 b y) z
theorem walk_ofT {l:SJ}{n k:Nat}{q:L4}{loose:List Str}{XP:(Str->Option h8)->Heap->Prop}{YP:Lq->Heap->Prop}{d:DefRec}{K:Params->Frag}{sp:Lq->Sp}{ts:List (Wk×Wk)}(fv:l.most=Z n)(B:n<=KG)(J:d.params.defaults=[])(hr:Room k Tr)(hY:∀(w:Lq) (h:Heap),YP w h->(K w.params).In h/\∀p∈ts.map (·.2),h.get? p=Z (tabObj #[]))(j:∀(w:Lq),∀q∈ts,MD (K w.params) q.1 q.2=F2/\(K w.params).lookup q.2=Y)(F:∀(w:Lq) (mg:Str->Option h8) (fa:Wk) (h:Heap),(K w.params).In h->h.Ns Mf mg->mg d.name=Z (.ref fa)->
   ∃fd:N5,(∀(s:r0) (u:h8),Tq s fd ⟨[u],[]⟩ [(x,u)]) /\
    ∀base:Heap,(K w.params).In base->base.Ns Mf mg->eX mg base->FnOk l.prog w (K w.params) mg base CX0 k fa fd [x] (sp w))(L:∀(w:Lq) (H:Hp) (a:Wk) (ns:List Int),ns.length<=n->nY ts H->Scr (K w.params) H a (ns.map V.int)->sp w [.ref a] H (λv _=>v=.bl F2) λ_ _ _=>False):
 PySem.W.WalkO q loose XP YP l.row.toRowW d [] (λf vs=>VE f vs):=by
 refine Att.attach_call fv J λw s₀ s₁ mg mb fa o pm cd doc a vs ns G Fn ho hd JJ O z hints hlen hg=>?_;obtain⟨KX,hT⟩:=hY w _ Fn;obtain⟨fd,hb,hF⟩:=F w mg fa _ KX G.T.g O;exact vT KX G.T.g G.T.b G.T.builtins G.T.nolimit hg G.T.bmain z hints (LR hlen B) hr (λq U=>⟨Tw KX (j w q U).1,hT q.2 (L5 U),(j w q U).2⟩) hF hb λH hO hS=>L w H a ns hlen hO hS
end
namespace Zp
def At(t:Bool)(h:Heap)(i l:Wk)(k:Nat):Prop:=match t with|true=>h.IsTupleIter i l k|false=>h.IsListIter i l k
def Sq(t:Bool)(h:Heap)(l:Wk)(xs:Array h8):Prop:=match t with|true=>h.IsTuple l xs|false=>h.IsList l xs
variable{h:Heap}{i l:Wk}
theorem At.up{t:Bool}{h':Heap}{k:Nat}(x:At t h i l k)(e:∀o,h.get? i=Z o->h'.get? i=Z o):At t h' i l k:=by cases t<;>(obtain⟨o,ho,r⟩:=x;exact⟨o,e o ho,r⟩)
variable{xs:Array h8}
theorem Sq.up{t:Bool}{h':Heap}(x:Sq t h l xs)(e:∀o,h.get? l=Z o->h'.get? l=Z o):Sq t h' l xs:=by cases t<;>(obtain⟨o,ho,r⟩:=x;exact⟨o,e o ho,r⟩)
theorem At.lt{t:Bool}{k:Nat}(x:At t h i l k):∃o,h.get? i=Z o/\∀v,o.data≠.cell v:=by cases t<;>(obtain⟨o,ho,j,hd⟩:=x;exact⟨o,ho,λv z=>by rw[hd]at z;cases z⟩)
variable{x p r:h8}{z T j a b:Wk}{u:Bool}{ys:Array h8}
section
variable{prog:L4}{w:Lq}{A:Lv}{E:h8->r0->Prop}{s:r0}
open Builtin.SmallTypes in
theorem yJ{k:Nat}{Q:h8->r0->Prop}(hi:s.heap.IsTupleIter i l k)(L:s.heap.IsTuple l xs)(hx:xs[k]?=Z x)(q:∀h',h'.IsTupleIter i l (k+1)->Mg i s.heap h'->Q x {s with heap:=h'}):KN (model prog w) A (nextOf (.ref i)) Q E s:=by
 obtain⟨ob,z,B,j⟩:=id hi;obtain⟨oq,G,_,nq,J⟩:=L;unfold nextOf;refine gV (L6 (name:=Lf "__next__") hi.typeIs O1 (Le O1 hi.typeIs R0 ?_ (QP _)));refine gV (m:=field (.ref i) 0) (Lc z j (x:=.ref l) rfl ?_);refine(if_neg (c:=(Lu l==MY)=F2) B2)▸?_;refine gV (m:=field (.ref i) 1) (Lc z j (x:=.int k 0) rfl ?_);refine gV (m:=US (.ref l)) (LJ G J ?_);simp only[J4,hx];refine gV (wpAny_setField z j (by simp) (tv ⟨x,rfl,tv (q _ ⟨_,Qh _ z (Obj.isFreed_of_fields (Uc j _)),(Obj.cls_mapFields ..).trans B,?_⟩ (QV ..))⟩))
 rw[Uc j];simp[MQ]
open Builtin.SmallTypes in
theorem Bw{k:Nat}{Q:h8->r0->Prop}(J:A.handled=Y)(hi:s.heap.IsTupleIter i l k)(L:s.heap.IsTuple l xs)(hx:xs[k]?=Y)(q:∀h' e,Vf i s.heap h'->(∃o,h'.get? e=Z o/\o.cls=.type "StopIteration")->E (.ref e) {s with heap:=h'}):KN (model prog w) A (nextOf (.ref i)) Q E s:=by
 obtain⟨ob,j,O,z⟩:=id hi;obtain⟨oq,B,_,nq,G⟩:=L;unfold nextOf;refine gV (L6 (name:=Lf "__next__") hi.typeIs O1 (Le O1 hi.typeIs R0 ?_ (QP _)));refine gV (m:=field (.ref i) 0) (Lc j z (x:=.ref l) rfl ?_);refine(if_neg (c:=(Lu l==MY)=F2) B2)▸?_;refine gV (m:=field (.ref i) 1) (Lc j z (x:=.int k 0) rfl ?_);refine gV (m:=US (.ref l)) (LJ B G ?_);simp only[J4,hx];refine gV (Mw (gV (wpAny_setField j z (by simp) ?_)))
 refine gV (m:=Ud (.type "StopIteration") []) ?_;simp only[Ud,Uw];refine gV (LN ?_ (by size_fits))
 refine gV (m:=O8 _ _) (Nq (a:=MY) (by first|rfl|(simp only[O8];rfl)) (LN ?_ (by size_fits)))
 simp only[VG];refine gV (RG ?_)
 first|rw[show A.in1.handled=Y from J]|rw[J]
 exact gV (tv (T8 (q _ _ (((QV ..).extBut.push _).push _) ⟨_,A2 _ rfl,rfl⟩)))
open Builtin.SmallTypes in
theorem nx_item{t:Bool}{k:Nat}{Q:h8->r0->Prop}(hi:At t s.heap i l k)(j:Sq t s.heap l xs)(hx:xs[k]?=Z x)(q:∀h',At t h' i l (k+1)->Mg i s.heap h'->Q x {s with heap:=h'}):KN (model prog w) A (nextOf (.ref i)) Q E s:=by
 cases t with
 |true=>exact yJ hi j hx q
 |false=>exact wpAny_nextOf_list_item hi j hx q
open Builtin.SmallTypes in
theorem nx_end{t:Bool}{k:Nat}{Q:h8->r0->Prop}(j:A.handled=Y)(hi:At t s.heap i l k)(z:Sq t s.heap l xs)(hx:xs[k]?=Y)(q:∀h' e,Vf i s.heap h'->(∃o,h'.get? e=Z o/\o.cls=.type "StopIteration")->E (.ref e) {s with heap:=h'}):KN (model prog w) A (nextOf (.ref i)) Q E s:=by
 cases t with
 |true=>exact Bw j hi z hx q
 |false=>exact wpAny_nextOf_list_end j hi z hx q
open Builtin.SmallTypes in
theorem E3 {O:Wk}{t:Bool}{k:Nat}{y:h8}{Q:h8->r0->Prop}(D:T9 z T O i j a b)(G:Pf s.heap z T O .none)(hT:Oy s.heap T (.ref i) (.ref j))(hO:Oy s.heap O p r)(hi:At t s.heap i a k)(hj:At u s.heap j b k)(ha:Sq t s.heap a xs)(hb:Sq u s.heap b ys)(hx:xs[k]?=Z x)(hy:ys[k]?=Z y)(q:∀h',Pf h' z T O (MQ s.heap.objs.size)->Oy h' O x y->At t h' i a (k+1)->At u h' j b (k+1)->Oy h' s.heap.objs.size x y->
   (∀c o,c≠z->c≠O->c≠i->c≠j->s.heap.get? c=Z o->h'.get? c=Z o)->Q (.ref s.heap.objs.size) {s with heap:=h'}):
 KN (model prog w) A (Mh.«zip.__next__» ⟨[.ref z],[]⟩) (λfin s'=>∃v,fin=.done (.ret v)/\Q v s') E s:=by
 refine gV (m:=field (.ref z) 2) (Lc G rfl (x:=.bool Wj) rfl ?_);refine gV (m:=field (.ref z) 3) (Lc G rfl (x:=.ref T) rfl ?_);refine gV (LJ hT rfl ?_);refine gV (m:=ownedTupleIsFree (.ref z)) ?_;unfold ownedTupleIsFree;refine gV (Lc G rfl (x:=.none) rfl (tv ?_));simp only[if_true];refine gV (Mw (gV (Lc G rfl (x:=.ref O) rfl (gV (KS G (by simp) λg1 z1 s1=>?_)))))
 have Z1:Pf g1 z T O .ellipsis:=z1;clear z1;refine gV ?_;simp only[Qq,QQ,NI,Pe];refine gV (gV (Np (gV (m:=nextOf (.ref i)) ?_)));refine nx_item (hi.up λo e=>s1.extBut _ o D.i1z e) (ha.up λo e=>s1.extBut _ o D.l1z e) hx λg2 U s2=>tv ?_;have O2:Oy g2 O p r:=s2.extBut _ _ D.TOi1 (s1.extBut _ _ D.TOz hO);refine gV (LJ O2 rfl (gV (QF O2 λg3 o3 s3=>?_)));have O3:Oy g3 O x r:=o3;clear o3;refine gV (Oo (tv (gV (gV (Np (gV (m:=nextOf (.ref j)) ?_))))));refine nx_item (hj.up λo e=>s3.extBut _ o D.TOi2.symm (s2.extBut _ o D.i12.symm (s1.extBut _ o D.i2z e))) (hb.up λo e=>s3.extBut _ o D.l2TO (s2.extBut _ o D.l2i1 (s1.extBut _ o D.l2z e))) hy λg4 Fn s4=>tv ?_;have O4:Oy g4 O x r:=s4.extBut _ _ D.TOi2 O3;refine gV (LJ O4 rfl (gV (QF O4 λB o5 s5=>?_)));have O5:Oy B O x y:=o5;clear o5;refine gV (Oo (tv (tv (gV (LJ O5 rfl (gV (Pg ?_)))))));have sz:B.objs.size=s.heap.objs.size:=by rw[s5.1,s4.1,s3.1,s2.1,s1.1]
 have k5:∀c o,c≠z->c≠O->c≠i->c≠j->s.heap.get? c=Z o->B.get? c=Z o:=λc o F J fv c4 e=>s5.extBut _ _ J (s4.extBut _ _ c4 (s3.extBut _ _ J (s2.extBut _ _ fv (s1.extBut _ _ F e))))
 have Z5:Pf B z T O .ellipsis:=s5.extBut _ _ D.TOz.symm (s4.extBut _ _ D.i2z.symm (s3.extBut _ _ D.TOz.symm (s2.extBut _ _ D.i1z.symm Z1)));have I5:At t B i a (k+1):=U.up λo e=>s5.extBut _ o D.TOi1.symm (s4.extBut _ o D.i12 (s3.extBut _ o D.TOi1.symm e));have J5:At u B j b (k+1):=Fn.up λo e=>s5.extBut _ o D.TOi2.symm e;have zl:z<B.objs.size:=B1 Z5;refine gV (m:=ownedTupleHandOut (.ref z) (.ref B.objs.size)) ?_;unfold ownedTupleHandOut;refine gV (KS (hQ _ Z5) (by simp) λg7 z7 s7=>?_)
 have Z7:Pf g7 z T O (MQ B.objs.size):=z7;clear z7;refine KS Z7 (by simp) λL z8 s8=>?_
 have Z8:Pf L z T O (MQ B.objs.size):=z8;clear z8;have up:∀c o,c≠z->B.get? c=Z o->L.get? c=Z o:=λc o F e=>s8.extBut _ _ F (s7.extBut _ _ F (hQ _ e));have P8:Oy L B.objs.size x y:=s8.extBut _ _ (LL zl) (s7.extBut _ _ (LL zl) (A2 _ rfl));rw[sz]at Z8 P8;refine tv ⟨_,rfl,?_⟩;show Q (.ref B.objs.size) _;rw[sz];exact q L Z8 (up _ _ D.TOz O5) (I5.up λo e=>up _ o D.i1z e) (J5.up λo e=>up _ o D.i2z e) P8 λc o F J fv c4 e=>up c o F (k5 c o F J fv c4 e)
open Builtin.SmallTypes in
theorem FU{O:Wk}{t:Bool}{k:Nat}{Q:Fin->r0->Prop}(hn:A.handled=Y)(D:T9 z T O i j a b)(G:Pf s.heap z T O .none)(hT:Oy s.heap T (.ref i) (.ref j))(hO:Oy s.heap O p r)(hi:At t s.heap i a k)(hj:At u s.heap j b k)(ha:Sq t s.heap a xs)(hb:Sq u s.heap b ys)(J:xs[k]?=Y∨ys[k]?=Y)(q:∀h' e,(∀c o,c≠z->c≠O->c≠i->c≠j->s.heap.get? c=Z o->h'.get? c=Z o)->(∃o,h'.get? e=Z o/\o.cls=.type "StopIteration")->E (.ref e) {s with heap:=h'}):
 KN (model prog w) A (Mh.«zip.__next__» ⟨[.ref z],[]⟩) Q E s:=by
 refine gV (m:=field (.ref z) 2) (Lc G rfl (x:=.bool Wj) rfl ?_);refine gV (m:=field (.ref z) 3) (Lc G rfl (x:=.ref T) rfl ?_);refine gV (LJ hT rfl ?_);refine gV (m:=ownedTupleIsFree (.ref z)) ?_;unfold ownedTupleIsFree;refine gV (Lc G rfl (x:=.none) rfl (tv ?_));simp only[if_true];refine gV (Mw (gV (Lc G rfl (x:=.ref O) rfl (gV (KS G (by simp) λg1 z1 s1=>?_)))))
 have Z1:Pf g1 z T O .ellipsis:=z1;clear z1;refine gV ?_;simp only[Qq,QQ,NI,Pe];refine gV (gV (Np (gV (m:=nextOf (.ref i)) ?_)));have L:At t g1 i a k:=hi.up λo e=>s1.extBut _ o D.i1z e;have U:Sq t g1 a xs:=ha.up λo e=>s1.extBut _ o D.l1z e
 cases hx:xs[k]? with
 |none=>
  refine nx_end hn L U hx λg2 e s2 he=>?_;obtain⟨oe,B,F⟩:=he;have Z2:Pf g2 z T O .ellipsis:=s2 _ _ D.i1z.symm Z1;have ez:e≠z:=λx=>by subst x;rw[Z2]at B;cases B;simp at F
  exact KS Z2 (by simp) λg3 _ s3=>q g3 e (λc o Fn _ fv _ x=>s3.extBut _ _ Fn (s2 _ _ fv (s1.extBut _ _ Fn x))) ⟨oe,s3.extBut _ _ ez B,F⟩
 |some x=>
  have hy:ys[k]?=Y:=J.elim (λz=>by rw[hx]at z;cases z) id
  refine nx_item L U hx λg2 JJ s2=>tv ?_;have O2:Oy g2 O p r:=s2.extBut _ _ D.TOi1 (s1.extBut _ _ D.TOz hO);refine gV (LJ O2 rfl (gV (QF O2 λg3 o3 s3=>?_)));refine gV (Oo (tv (gV (gV (Np (gV (m:=nextOf (.ref j)) ?_))))));refine nx_end hn (hj.up λo e=>s3.extBut _ o D.TOi2.symm (s2.extBut _ o D.i12.symm (s1.extBut _ o D.i2z e))) (hb.up λo e=>s3.extBut _ o D.l2TO (s2.extBut _ o D.l2i1 (s1.extBut _ o D.l2z e))) hy λg4 e s4 he=>?_;obtain⟨oe,B,F⟩:=he;have Z4:Pf g4 z T O .ellipsis:=s4 _ _ D.i2z.symm (s3.extBut _ _ D.TOz.symm (s2.extBut _ _ D.i1z.symm Z1));have ez:e≠z:=λx=>by subst x;rw[Z4]at B;cases B;simp at F
  exact KS Z4 (by simp) λg5 _ s5=>q g5 e (λc o Fn c2 fv c4 x=>s5.extBut _ _ Fn (s4 _ _ c4 (s3.extBut _ _ c2 (s2.extBut _ _ fv (s1.extBut _ _ Fn x))))) ⟨oe,s5.extBut _ _ ez B,F⟩
theorem nxt_item {O:Wk}{t:Bool}{k:Nat}{y:h8}{Q:Option h8->r0->Prop}(D:T9 z T O i j a b)(B:Pf s.heap z T O .none)(G:Oy s.heap T (.ref i) (.ref j))(J:Oy s.heap O p r)(hi:At t s.heap i a k)(L:At u s.heap j b k)(U:Sq t s.heap a xs)(Fn:Sq u s.heap b ys)(hx:xs[k]?=Z x)(fv:ys[k]?=Z y)(q:∀h',Pf h' z T O (MQ s.heap.objs.size)->Oy h' O x y->At t h' i a (k+1)->At u h' j b (k+1)->Oy h' s.heap.objs.size x y->
   (∀c o,c≠z->c≠O->c≠i->c≠j->s.heap.get? c=Z o->h'.get? c=Z o)->Q (Z (.ref s.heap.objs.size)) {s with heap:=h'}):
 KN (model prog w) A (MZ (.ref z)) Q E s:=by
 have ty:s.TypeIs (.ref z) "zip":=⟨_,B,rfl⟩;unfold MZ;exact gV (MB (L6 (name:=Lf "__next__") ty NJ (Le NJ ty Qr
  (E3 D B G J hi L U Fn hx fv λh' a1 a2 a3 a4 a5 a6=>tv (q h' a1 a2 a3 a4 a5 a6)) (Q5 _))))
theorem nxt_end{O:Wk}{t:Bool}{k:Nat}{Q:Option h8->r0->Prop}(J:A.handled=Y)(D:T9 z T O i j a b)(G:Pf s.heap z T O .none)(L:Oy s.heap T (.ref i) (.ref j))(U:Oy s.heap O p r)(hi:At t s.heap i a k)(Fn:At u s.heap j b k)(fv:Sq t s.heap a xs)(hb:Sq u s.heap b ys)(B:xs[k]?=Y∨ys[k]?=Y)(q:∀h',(∀c o,c≠z->c≠O->c≠i->c≠j->s.heap.get? c=Z o->h'.get? c=Z o)->Q Y {s with heap:=h'}):KN (model prog w) A (MZ (.ref z)) Q E s:=by
 have ty:s.TypeIs (.ref z) "zip":=⟨_,G,rfl⟩;unfold MZ;refine gV (MB (L6 (name:=Lf "__next__") ty NJ (Le NJ ty Qr
  (FU J D G L U hi Fn fv hb B λh' e hk he=>?_) (Q5 _))))
 obtain⟨o,ho,hc⟩:=he;exact gV (Ng (T:="StopIteration") (b:=F2) ⟨o,ho,hc⟩ Ph (tv (q _ hk)))
noncomputable def itO(t:Bool)(l:Wk):Obj:=match t with|true=>{cls:=.type "tuple_iterator",data:=.fields #[.ref l,.int 0 0]}|false=>{cls:=.type "list_iterator",data:=.fields #[.ref l,.int 0 0]}
noncomputable def zH1(h:Heap)(t:Bool)(a:Wk):Heap:=h.push (itO t a)
noncomputable def zH2(h:Heap)(t u:Bool)(a b:Wk):Heap:=(zH1 h t a).push (itO u b)
noncomputable def zH3(h:Heap)(t u:Bool)(a b:Wk):Heap:=(zH2 h t u a b).push {cls:=.type "tuple",data:=.seq #[.ref h.objs.size,.ref (zH1 h t a).objs.size]}
noncomputable def zH4(h:Heap)(t u:Bool)(a b:Wk):Heap:=(zH3 h t u a b).push {cls:=.type "tuple",data:=.seq #[.none,.none]}
noncomputable def zH5(h:Heap)(t u:Bool)(a b:Wk):Heap:=(zH4 h t u a b).push {cls:=.type "zip",data:=.fields #[.none,.bool Wj,.bool Wj,.ref (zH2 h t u a b).objs.size,.ref (zH3 h t u a b).objs.size]}
theorem vU(t u:Bool)(a b:Wk)(xs ys:Array h8):
 Meets (Mh.«zip.__new__» ⟨[.type "zip",.ref a,.ref b],[]⟩) (λ_ R s=>Sq t s.heap a xs/\Sq u s.heap b ys/\R (.ok (.ret (.ref (zH4 s.heap t u a b).objs.size))) {s with heap:=zH5 s.heap t u a b}):=
 .of_wp λprog w A R s h=>by
  obtain⟨j,g,d,tk,os⟩:=s;obtain⟨z,B,h⟩:=h;have hs:=sub_zip
  cases t<;>cases u
  ·have e1:Rx (Nr ⟨j,g,d,tk,os⟩) a xs:=z;have e2:Rx (Nr ⟨j.push {cls:=.type "list_iterator",data:=.fields #[.ref a,.int 0 0]},g,d,tk,os⟩) b ys:=S0 B _
   wp_walk using NA e1,NA e2
   exact⟨_,rfl,h⟩
  ·have e1:Rx (Nr ⟨j,g,d,tk,os⟩) a xs:=z;have e2:Pm (Nr ⟨j.push {cls:=.type "list_iterator",data:=.fields #[.ref a,.int 0 0]},g,d,tk,os⟩) b ys:=Q7 B _
   wp_walk using NA e1,My e2
   exact⟨_,rfl,h⟩
  ·have e1:Pm (Nr ⟨j,g,d,tk,os⟩) a xs:=z;have e2:Rx (Nr ⟨j.push {cls:=.type "tuple_iterator",data:=.fields #[.ref a,.int 0 0]},g,d,tk,os⟩) b ys:=S0 B _
   wp_walk using My e1,NA e2
   exact⟨_,rfl,h⟩
  ·have e1:Pm (Nr ⟨j,g,d,tk,os⟩) a xs:=z;have e2:Pm (Nr ⟨j.push {cls:=.type "tuple_iterator",data:=.fields #[.ref a,.int 0 0]},g,d,tk,os⟩) b ys:=Q7 B _
   wp_walk using My e1,My e2
   exact⟨_,rfl,h⟩
theorem at_new{t:Bool}(e:h.get? i=Z (itO t l)):At t h i l 0:=by cases t<;>exact⟨_,e,rfl,rfl⟩
theorem call_zip {t:Bool}{Q:h8->r0->Prop}(ha:Sq t s.heap a xs)(hb:Sq u s.heap b ys)(q:∀h',Pf h' (s.heap.objs.size+4) (s.heap.objs.size+2) (s.heap.objs.size+3) .none->Oy h' (s.heap.objs.size+2) (.ref s.heap.objs.size) (.ref (s.heap.objs.size+1))->
   Oy h' (s.heap.objs.size+3) .none .none->At t h' s.heap.objs.size a 0->At u h' (s.heap.objs.size+1) b 0->h'.objs.size=s.heap.objs.size+5->
   (∀c o,s.heap.get? c=Z o->h'.get? c=Z o)->Q (.ref (s.heap.objs.size+4)) {s with heap:=h'}):
 KN (model prog w) A (call (.type "zip") [.ref a,.ref b]) Q E s:=by
 refine Ux F.called_zip (by decide) (F.typeCall_zip_2 _ _) (F.newCall_zip_2 _ _) (λobj=>F.args_object_init_3 obj _ _) Vp (vU t u a b xs ys) ⟨ha,hb,?_⟩
 have B:(zH1 s.heap t a).objs.size=s.heap.objs.size+1:=LI ..;have G:(zH2 s.heap t u a b).objs.size=s.heap.objs.size+2:=by unfold zH2;rw[LI,B]
 have J:(zH3 s.heap t u a b).objs.size=s.heap.objs.size+3:=by unfold zH3;rw[LI,G]
 have L:(zH4 s.heap t u a b).objs.size=s.heap.objs.size+4:=by unfold zH4;rw[LI,J]
 have z5:(zH5 s.heap t u a b).objs.size=s.heap.objs.size+5:=by unfold zH5;rw[LI,L]
 have j:∀{c o},(zH4 s.heap t u a b).get? c=Z o->(zH5 s.heap t u a b).get? c=Z o:=λe=>hQ _ e;have z:∀{c o},(zH3 s.heap t u a b).get? c=Z o->(zH4 s.heap t u a b).get? c=Z o:=λe=>hQ _ e;have O:∀{c o},(zH2 s.heap t u a b).get? c=Z o->(zH3 s.heap t u a b).get? c=Z o:=λe=>hQ _ e;have Fn:∀{c o},(zH1 s.heap t a).get? c=Z o->(zH2 s.heap t u a b).get? c=Z o:=λe=>hQ _ e;have k1:∀{c o},s.heap.get? c=Z o->(zH1 s.heap t a).get? c=Z o:=λe=>hQ _ e;have f:∀t l,(itO t l).isFreed=Wj:=λt l=>by cases t<;>rfl
 have U:(zH5 s.heap t u a b).get? (zH4 s.heap t u a b).objs.size=Z _:=A2 _ rfl;have fv:(zH5 s.heap t u a b).get? (zH3 s.heap t u a b).objs.size=Z _:=j (A2 _ rfl);have g3:(zH5 s.heap t u a b).get? (zH2 s.heap t u a b).objs.size=Z _:=j (z (A2 _ rfl));have g2:(zH5 s.heap t u a b).get? (zH1 s.heap t a).objs.size=Z _:=j (z (O (A2 _ (f u b))));have g1:(zH5 s.heap t u a b).get? s.heap.objs.size=Z _:=j (z (O (Fn (A2 _ (f t a)))));show _/\_;rw[G,J,L]at U;rw[B,G]at g3;rw[J]at fv;rw[B]at g2;rw[L];exact⟨⟨_,U,rfl⟩,q _ U g3 fv (at_new g1) (at_new g2) z5 λc o x=>j (z (O (Fn (k1 x))))⟩
end
end Zp
variable{p:Pos}{elts:List Expr}{ta:TA}
section
section
variable{X:Cx}{pins:List (Wk×Obj)}{σ:St}{H:Hp}{s:r0}{h':Heap}
theorem Inv.turnedL{fp:List Wk}(I:Inv X pins σ H s)(hf:∀b∈fp,cM X pins H b)(k:∀b o,b∉fp->s.heap.get? b=Z o->h'.get? b=Z o):Inv X pins σ H {s with heap:=h',toks:=t'}:=by
 have nit:∀b u,H b=Z u->b∉fp:=λb u e z=>by rw[(hf b z).1]at e;cases e
 refine I.step (g':=s.gens) (d':=s.drawn) (ch:=fp) (λb B=>?_) (λb o _ _ j e _=>k b o j e) (λb o _ _ j e _=>⟨o.slots,k b o j e⟩) (λ_ _ _ _ n=>n)
  (λb o j e=>⟨o,k b o j e⟩) (λ_ _ e=>e) (λ_ _ _ e=>e) (λb ps e=>⟨#[],by rw[e];simp⟩) (λm hm=>?_) (λb u e=>?_) I.bare
 ·obtain⟨_,f1,_,F,f4,G⟩:=hf b B;exact⟨F,f1,f4,G⟩
 ·obtain⟨o,es,ep,ho,r⟩:=hm;exact⟨o,es,ep,k _ o (λz=>(hf _ z).2.1 rfl) ho,r⟩
 ·refine(I.hok b u e).stay (λc v j q=>k c v ?_ q) (λ_ q=>q) λ_ _ q=>q
  rcases j with z|z
  ·rw[z];exact nit b u e
  ·exact nit c _ z
end
def SqV(K:Frag)(t:Bool)(H:Hp)(a:Wk)(xs:List V):Prop:=match t with|true=>SqT K H a xs|false=>SqL K H a xs
theorem Inv.sqv{t:Bool}{xs:List V}(I:Inv X pins σ H s)(h:SqV X.K t H a xs):∃its:List h8,Vals xs its/\Zp.Sq t s.heap a its.toArray:=by
 cases t with
 |true=>obtain⟨its,r,p,_⟩:=I.tuple h;exact⟨its,r,p⟩
 |false=>obtain⟨its,r,p,_⟩:=I.list h;exact⟨its,r,p.isList⟩
theorem Inv.sqv_inj{t:Bool}{xs ys:List V}(I:Inv X pins σ H s)(h:SqV X.K t H a xs)(h':SqV X.K t H a ys):xs=ys:=by
 cases t with
 |true=>exact I.tuple_inj h h'
 |false=>exact I.list_inj h h'
noncomputable def Itz(K:Frag)(t u:Bool)(a b:Wk):It:=
 ⟨λi H=>∃xs ys x y,SqV K t H a xs/\SqV K u H b ys/\xs[i]?=Z x/\ys[i]?=Z y,
  λi H v H'=>∃p x y,H p=Y/\v=.ref p/\H'=upd H p (.tup [x,y])/\∀xs ys,SqV K t H a xs->SqV K u H b ys->xs[i]?=Z x/\ys[i]?=Z y,
  λi H=>∃xs ys,SqV K t H a xs/\SqV K u H b ys/\(xs.length<=i∨ys.length<=i)⟩
theorem yK{cx}{t u:Bool}{z T O i j:Wk}(D:T9 z T O i j a b):
 fM P w K (.Tuple elts cx pos) (Itz K t u a b) [z,T,O,i,j] z (λk h=>Pf h z T O .none/\Oy h T (.ref i) (.ref j)/\(∃p r,Oy h O p r)/\Zp.At t h i a k/\Zp.At u h j b k) where
 mem:=by simp
 obj:=λk h ⟨F,G,⟨p,r,J⟩,hi,L⟩ c B=>by
  simp only[D1,Lb,or_false]at B
  rcases B with rfl|rfl|rfl|rfl|rfl
  ·exact⟨_,F,λv e=>by cases e⟩
  ·exact⟨_,G,λv e=>by cases e⟩
  ·exact⟨_,J,λv e=>by cases e⟩
  ·exact hi.lt
  ·exact L.lt
 keep:=λk h h' g9 kk=>(by obtain⟨F,G,⟨p,r,J⟩,hi,L⟩:=g9;exact⟨kk z (by simp) _ F,kk T (by simp) _ G,⟨p,r,kk O (by simp) _ J⟩,hi.up λo e=>kk i (by simp) o e,L.up λo e=>kk j (by simp) o e⟩)
 item:=by
  intro X fv hw hK B k pins s σ H E I hf st hg;subst fv hw hK;obtain⟨F,G,⟨p,r,J⟩,hi,L⟩:=st;obtain⟨xs,ys,x,y,qx,qy,ex,ey⟩:=hg;obtain⟨is,rx,px⟩:=I.sqv qx;obtain⟨js,ry,py⟩:=I.sqv qy;obtain⟨ux,JJ,rux⟩:=rx.get ex;obtain⟨uy,JK,ruy⟩:=ry.get ey;refine Zp.nxt_item D F G J hi L px py (by simpa using JJ) (by simpa using JK) λh1 z1 o1 i1 j1 p1 Fn=>⟨_,rfl,?_⟩
  refine Rl (s:={s with heap:=h1}) z1 λh2 z2 s2=>?_
  have lt:∀{c o},s.heap.get? c=Z o->c≠s.heap.objs.size:=λe=>Lg (B1 e);have nz:s.heap.objs.size≠z:=(lt F).symm;have JL:∃o,s.heap.get? i=Z o:=hi.lt.imp λ_ h=>h.1;have JM:∃o,s.heap.get? j=Z o:=L.lt.imp λ_ h=>h.1;have up:∀c o,c≠z->h1.get? c=Z o->h2.get? c=Z o:=λc o n e=>s2.extBut _ _ n e;have IL:Inv X pins σ (upd H s.heap.objs.size (.tup [x,y])) {s with heap:=s.heap.push {cls:=.type "tuple",data:=.seq #[ux,uy]},toks:=s.toks}:=I.laid (λb o e=>hQ _ e) (KO _) ⟨by rw[A0];simp,[ux,uy],.cons rux (.cons ruy .nil),Qk _ _⟩
  have fr:∀c∈[z,T,O,i,j],c≠s.heap.objs.size:=λc B=>by
   simp only[D1,Lb,or_false]at B
   rcases B with rfl|rfl|rfl|rfl|rfl
   ·exact lt F
   ·exact lt G
   ·exact lt J
   ·obtain⟨o,e⟩:=JL;exact lt e
   ·obtain⟨o,e⟩:=JM;exact lt e
  have un:∀c∈[z,T,O,i,j],upd H s.heap.objs.size (.tup [x,y]) c=Y:=λc B=>by rw[am (fr c B)];exact(hf c B).1
  have kk:∀c o,c∉[z,T,O,i,j]->(s.heap.push {cls:=.type "tuple",data:=.seq #[ux,uy]}).get? c=Z o->h2.get? c=Z o:=λc o B e=>by
   simp only[D1,Lb,or_false,not_or]at B
   rcases QG e with⟨rfl,rfl⟩|e
   ·exact up _ _ nz p1
   ·exact up _ _ B.1 (Fn c o B.1 B.2.2.1 B.2.2.2.1 B.2.2.2.2 e)
  have I2:Inv X pins σ (upd H s.heap.objs.size (.tup [x,y])) {s with heap:=h2,toks:=s.toks}:=(Inv.turnedL (s:={s with heap:=s.heap.push {cls:=.type "tuple",data:=.seq #[ux,uy]},toks:=s.toks}) (h':=h2) (t':=s.toks) (fp:=[z,T,O,i,j]) IL (λc B=>⟨un c B,(hf c B).2⟩) kk)
  refine⟨.ref s.heap.objs.size,_,I2,rfl,⟨_,x,y,I.hok.fresh (KO _),rfl,rfl,λxs' ys' q1 q2=>?_⟩,⟨z2,up _ _ D.TIz (Fn _ _ D.TIz D.TITO D.TIi1 D.TIi2 G),⟨_,_,up _ _ D.TOz o1⟩,i1.up λo e=>up _ o D.i1z e,j1.up λo e=>up _ o D.i2z e⟩,un⟩;rw[I.sqv_inj q1 qx,I.sqv_inj q2 qy];exact⟨ex,ey⟩
 done:=by
  intro X fv hw hK B k pins s σ H E I hf st hg;subst fv hw hK;obtain⟨F,G,⟨p,r,J⟩,hi,L⟩:=st;obtain⟨xs,ys,qx,qy,U⟩:=hg;obtain⟨is,rx,px⟩:=I.sqv qx;obtain⟨js,ry,py⟩:=I.sqv qy;have lx:=rx.length;have ly:=ry.length;refine Zp.nxt_end (I.ok.hd B) D F G J hi L px py (U.imp (λe=>by simp;lia) (λe=>by simp;lia)) λh1 Fn=>⟨rfl,I.turnedL (t':=s.toks) hf λc o B e=>?_⟩
  simp only[D1,Lb,or_false,not_or]at B;exact Fn c o B.1 B.2.2.1 B.2.2.2.1 B.2.2.2.2 e
 self:=λA k s Q E st h=>Qs st.1 h
section
variable{X:Cx}
noncomputable def Hq(K:Frag)(ta:TA):TI:=λσ H R=>ta σ H λvs H1=>∃a b t u xs ys,vs=[.ref a,.ref b]/\SqV K t H1 a xs/\SqV K u H1 b ys/\R (Itz K t u a b) H1
theorem E4{cx}{a b:Expr}(G:Gl X "zip")(hm:X.mg "zip"=Y)(J:PA X [a,b] ta)(hs:KU [a,b] X.env=[(Wj,eval a X.env),(Wj,eval b X.env)])(j:KU [b] X.env=[(Wj,eval b X.env)]):
 PI X (.Tuple elts cx pos) (.Call (.Name "zip" p) [a,b] [] pos') (Hq X.K ta):=by
 intro pins s σ H R I h;refine Call_ (bL I G hm (u:=.type "zip") (by decide +kernel) (Ln (thn (J pos' pins s σ H _ I h) λus s1 g9=>?_) (by rw[hs,j]) (by rw[j];rfl)));obtain⟨vs,H1,z,L,O⟩:=g9
 obtain⟨a',b',t,u,xs,ys,rfl,qx,qy,q⟩:=O
 cases L with
 |cons r rr=>
  cases rr with
  |cons r' rr=>
   cases rr
   cases r
   cases r'
   obtain⟨is,rx,px⟩:=z.sqv qx;obtain⟨js,ry,py⟩:=z.sqv qy;refine Zp.call_zip px py λh1 B t1 U Fn fv sz k1=>?_;refine Qs B ?_;have la:a'<s1.heap.objs.size:=by cases t<;>(obtain⟨o,e,_⟩:=px;exact B1 e)
   have lb:b'<s1.heap.objs.size:=by cases u<;>(obtain⟨o,e,_⟩:=py;exact B1 e)
   have D:T9 (s1.heap.objs.size+4) (s1.heap.objs.size+2) (s1.heap.objs.size+3) s1.heap.objs.size (s1.heap.objs.size+1) a' b':=by constructor<;>(intro e;subst_vars;first|lia|(simp only[Wk]at *;lia))
   refine⟨_,_,_,_,H1,rfl,z.kept (t':=s1.toks) k1,yK (t:=t) (u:=u) D,⟨B,t1,⟨_,_,U⟩,Fn,fv⟩,λc F=>?_,q⟩;have hle:s1.heap.objs.size<=c:=by
    simp only[D1,Lb,or_false]at F
    rcases F with rfl|rfl|rfl|rfl|rfl<;>lia
   exact z.fpOk hle (z.hok.fresh hle)
end
end
namespace Zp
noncomputable abbrev bQ(h:Heap)(T:Wk)(a b c:h8):Prop:=h.get? T=Z {cls:=.type "tuple",data:=.seq #[a,b,c]}
structure Z3(t u v:Bool)(n a b c:Wk)(f0:h8)(k:Nat)(h:Heap):Prop where
 z:Pf h (n+5) (n+3) (n+4) f0
 T:bQ h (n+3) (.ref n) (.ref (n+1)) (.ref (n+2))
 O:∃p q r,bQ h (n+4) p q r
 i:At t h n a k
 j:At u h (n+1) b k
 l:At v h (n+2) c k
variable{a b c:Wk}{x:h8}{n:Nat}{u v:Bool}{xs ys zs:Array h8}
section
variable{prog:L4}{w:Lq}{A:Lv}{E:h8->r0->Prop}{s:r0}
theorem fq{T:Wk}{a b c:h8}{k:Nat}{Q:Unit->r0->Prop}(j:bQ s.heap T a b c)(h:∀h',h'.get? T=Z {cls:=.type "tuple",data:=.seq ((#[a,b,c]:Array h8).setIfInBounds k x)}->Mg T s.heap h'->Q () {s with heap:=h'}):
 KN (model prog w) A (updateSeq T (·.setIfInBounds k x)) Q E s:=by
 refine wpAny_updateSeq j rfl (h _ ?_ (QV ..));rw[Qh _ j rfl];simp[N4]
theorem gN{a k:Nat}(h:a<n):a≠n+k:=∅
theorem kN{j k:Nat}(h:j≠k):n+j≠n+k:=∅
theorem oN{k:Nat}(h:k≠0):n≠n+k:=∅
theorem pN{k:Nat}(h:k≠0):n+k≠n:=∅
open Builtin.SmallTypes in
theorem By {n:Wk}{t:Bool}{k:Nat}{y e:h8}{Q:h8->r0->Prop}(la:a<n)(lb:b<n)(lc:c<n)(fv:Z3 t u v n a b c .none k s.heap)(ha:Sq t s.heap a xs)(hb:Sq u s.heap b ys)(hc:Sq v s.heap c zs)(hx:xs[k]?=Z x)(hy:ys[k]?=Z y)(he:zs[k]?=Z e)(q:∀h',Z3 t u v n a b c (MQ s.heap.objs.size) (k+1) h'->bQ h' s.heap.objs.size x y e->
   (∀c o,c≠n->c≠n+1->c≠n+2->c≠n+4->c≠n+5->s.heap.get? c=Z o->h'.get? c=Z o)->Q (.ref s.heap.objs.size) {s with heap:=h'}):
 KN (model prog w) A (Mh.«zip.__next__» ⟨[.ref (n+5)],[]⟩) (λfin s'=>∃v,fin=.done (.ret v)/\Q v s') E s:=by
 obtain⟨J,hT,⟨p1,p2,L,hO⟩,hi,hj,hl⟩:=fv;refine gV (m:=field (.ref (n+5)) 2) (Lc J rfl (x:=.bool Wj) rfl ?_);refine gV (m:=field (.ref (n+5)) 3) (Lc J rfl (x:=.ref (n+3)) rfl ?_);refine gV (LJ hT rfl ?_);refine gV (m:=ownedTupleIsFree (.ref (n+5))) ?_;unfold ownedTupleIsFree;refine gV (Lc J rfl (x:=.none) rfl (tv ?_));simp only[if_true];refine gV (Mw (gV (Lc J rfl (x:=.ref (n+4)) rfl (gV (KS J (by simp) λg1 z1 s1=>?_)))))
 have Z1:Pf g1 (n+5) (n+3) (n+4) .ellipsis:=z1;clear z1;refine gV ?_;simp only[Qq,QQ,NI,Pe];refine gV (gV (Np (gV (m:=nextOf (.ref n)) ?_)));refine nx_item (hi.up λo e=>s1.extBut _ o (oN (by decide)) e) (ha.up λo e=>s1.extBut _ o (gN la) e) hx λg2 Fn s2=>tv ?_
 have O2:bQ g2 (n+4) p1 p2 L:=s2.extBut _ _ (pN (by decide)) (s1.extBut _ _ (kN (by decide)) hO)
 refine gV (LJ O2 rfl (gV (fq O2 λg3 o3 s3=>?_)));have O3:bQ g3 (n+4) x p2 L:=o3;clear o3;have k3:∀c o,c≠n->c≠n+4->c≠n+5->s.heap.get? c=Z o->g3.get? c=Z o:=λc o z F B e=>s3.extBut _ _ F (s2.extBut _ _ z (s1.extBut _ _ B e));refine gV (Oo (tv (gV (gV (Np (gV (m:=nextOf (.ref (n+1))) ?_))))));refine nx_item (hj.up λo e=>k3 _ o (pN (by decide)) (kN (by decide)) (kN (by decide)) e) (hb.up λo e=>k3 _ o (gN (k:=0) lb) (gN lb) (gN lb) e) hy λg4 JJ s4=>tv ?_
 have O4:bQ g4 (n+4) x p2 L:=s4.extBut _ _ (kN (by decide)) O3
 refine gV (LJ O4 rfl (gV (fq O4 λg5 o5 s5=>?_)));have O5:bQ g5 (n+4) x y L:=o5;clear o5;have k5:∀c o,c≠n->c≠n+1->c≠n+4->c≠n+5->s.heap.get? c=Z o->g5.get? c=Z o:=λc o z F B G e=>s5.extBut _ _ B (s4.extBut _ _ F (k3 c o z B G e));refine gV (Oo (tv (gV (gV (Np (gV (m:=nextOf (.ref (n+2))) ?_))))));refine nx_item (hl.up λo e=>k5 _ o (pN (by decide)) (kN (by decide)) (kN (by decide)) (kN (by decide)) e) (hc.up λo e=>k5 _ o (gN (k:=0) lc) (gN lc) (gN lc) (gN lc) e) he λg6 JK s6=>tv ?_
 have O6:bQ g6 (n+4) x y L:=s6.extBut _ _ (kN (by decide)) O5
 refine gV (LJ O6 rfl (gV (fq O6 λj o7 s7=>?_)));have O7:bQ j (n+4) x y e:=o7;clear o7;refine gV (Oo (tv (tv (gV (LJ O7 rfl (gV (Pg ?_)))))));have sz:j.objs.size=s.heap.objs.size:=by rw[s7.1,s6.1,s5.1,s4.1,s3.1,s2.1,s1.1]
 have k7:∀c o,c≠n->c≠n+1->c≠n+2->c≠n+4->c≠n+5->s.heap.get? c=Z o->j.get? c=Z o:=λc o z F B G O e=>s7.extBut _ _ G (s6.extBut _ _ B (k5 c o z F G O e));have Z7:Pf j (n+5) (n+3) (n+4) .ellipsis:=s7.extBut _ _ (kN (by decide)) (s6.extBut _ _ (kN (by decide)) (s5.extBut _ _ (kN (by decide)) (s4.extBut _ _ (kN (by decide)) (s3.extBut _ _ (kN (by decide)) (s2.extBut _ _ (pN (by decide)) Z1)))))
 have T7:=k7 _ _ (pN (by decide)) (kN (by decide)) (kN (by decide)) (kN (by decide)) (kN (by decide)) hT
 have I7:At t j n a (k+1):=Fn.up λo e=>s7.extBut _ o (oN (by decide)) (s6.extBut _ o (oN (by decide)) (s5.extBut _ o (oN (by decide)) (s4.extBut _ o (oN (by decide)) (s3.extBut _ o (oN (by decide)) e))))
 have J7:At u j (n+1) b (k+1):=JJ.up λo e=>s7.extBut _ o (kN (by decide)) (s6.extBut _ o (kN (by decide)) (s5.extBut _ o (kN (by decide)) e))
 have L7:At v j (n+2) c (k+1):=JK.up λo e=>s7.extBut _ o (kN (by decide)) e
 have zl:n+5<j.objs.size:=B1 Z7;refine gV (m:=ownedTupleHandOut (.ref (n+5)) (.ref j.objs.size)) ?_;unfold ownedTupleHandOut;refine gV (KS (hQ _ Z7) (by simp) λg8 z8 s8=>?_)
 have Z8:Pf g8 (n+5) (n+3) (n+4) (MQ j.objs.size):=z8;clear z8;refine KS Z8 (by simp) λU z9 s9=>?_
 have Z9:Pf U (n+5) (n+3) (n+4) (MQ j.objs.size):=z9;clear z9;have up:∀c o,c≠n+5->j.get? c=Z o->U.get? c=Z o:=λc o z e=>s9.extBut _ _ z (s8.extBut _ _ z (hQ _ e));have P9:bQ U j.objs.size x y e:=s9.extBut _ _ (LL zl) (s8.extBut _ _ (LL zl) (A2 _ rfl));rw[sz]at Z9 P9;refine tv ⟨_,rfl,?_⟩;show Q (.ref j.objs.size) _;rw[sz];exact q U ⟨Z9,up _ _ (kN (by decide)) T7,⟨_,_,_,up _ _ (kN (by decide)) O7⟩,I7.up λo e=>up _ o (oN (by decide)) e,J7.up λo e=>up _ o (kN (by decide)) e,L7.up λo e=>up _ o (kN (by decide)) e⟩ P9 λc o z F B G O e=>up c o O (k7 c o z F B G O e)
open Builtin.SmallTypes in
theorem E5{n:Wk}{t:Bool}{k:Nat}{Q:Fin->r0->Prop}(hn:A.handled=Y)(la:a<n)(lb:b<n)(lc:c<n)(fv:Z3 t u v n a b c .none k s.heap)(ha:Sq t s.heap a xs)(hb:Sq u s.heap b ys)(hc:Sq v s.heap c zs)(U:xs[k]?=Y∨ys[k]?=Y∨zs[k]?=Y)(q:∀h' e,(∀c o,c≠n->c≠n+1->c≠n+2->c≠n+4->c≠n+5->s.heap.get? c=Z o->h'.get? c=Z o)->(∃o,h'.get? e=Z o/\o.cls=.type "StopIteration")->E (.ref e) {s with heap:=h'}):
 KN (model prog w) A (Mh.«zip.__next__» ⟨[.ref (n+5)],[]⟩) Q E s:=by
 obtain⟨Fn,hT,⟨p1,p2,p3,hO⟩,hi,hj,hl⟩:=fv;refine gV (m:=field (.ref (n+5)) 2) (Lc Fn rfl (x:=.bool Wj) rfl ?_);refine gV (m:=field (.ref (n+5)) 3) (Lc Fn rfl (x:=.ref (n+3)) rfl ?_);refine gV (LJ hT rfl ?_);refine gV (m:=ownedTupleIsFree (.ref (n+5))) ?_;unfold ownedTupleIsFree;refine gV (Lc Fn rfl (x:=.none) rfl (tv ?_));simp only[if_true];refine gV (Mw (gV (Lc Fn rfl (x:=.ref (n+4)) rfl (gV (KS Fn (by simp) λg1 z1 s1=>?_)))))
 have Z1:Pf g1 (n+5) (n+3) (n+4) .ellipsis:=z1;clear z1;refine gV ?_;simp only[Qq,QQ,NI,Pe];refine gV (gV (Np (gV (m:=nextOf (.ref n)) ?_)));have JJ:At t g1 n a k:=hi.up λo e=>s1.extBut _ o (oN (by decide)) e
 have JK:Sq t g1 a xs:=ha.up λo e=>s1.extBut _ o (gN la) e;have fin:∀{h':Heap} {e:Wk} {o:Obj},(∀c o,c≠n->c≠n+1->c≠n+2->c≠n+4->c≠n+5->s.heap.get? c=Z o->h'.get? c=Z o)->Pf h' (n+5) (n+3) (n+4) .ellipsis->h'.get? e=Z o->o.cls=.type "StopIteration"->KN (model prog w) A (setField (.ref (n+5)) 0 .none) (λ_ s'=>E (.ref e) s') E {s with heap:=h'}:=λ{h' e o} kk fv j B=>by
  have ez:e≠n+5:=λx=>by subst x;rw[fv]at j;cases j;simp at B
  exact KS fv (by simp) λg3 _ s3=>q g3 e (λc o F G J O L x=>s3.extBut _ _ L (kk c o F G J O L x)) ⟨o,s3.extBut _ _ ez j,B⟩
 cases hx:xs[k]? with
 |none=>refine nx_end hn JJ JK hx λg2 e s2 he=>?_;obtain⟨oe,j,B⟩:=he;exact fin (λc o F _ _ _ L x=>s2 _ _ F (s1.extBut _ _ L x)) (s2 _ _ (pN (by decide)) Z1) j B
 |some x=>
  refine nx_item JJ JK hx λg2 JN s2=>tv ?_;have O2:bQ g2 (n+4) p1 p2 p3:=s2.extBut _ _ (pN (by decide)) (s1.extBut _ _ (kN (by decide)) hO)
  refine gV (LJ O2 rfl (gV (fq O2 λg3 o3 s3=>?_)));have O3:bQ g3 (n+4) x p2 p3:=o3;clear o3;have k3:∀c o,c≠n->c≠n+4->c≠n+5->s.heap.get? c=Z o->g3.get? c=Z o:=λc o F G J e=>s3.extBut _ _ G (s2.extBut _ _ F (s1.extBut _ _ J e));have Z3:Pf g3 (n+5) (n+3) (n+4) .ellipsis:=s3.extBut _ _ (kN (by decide)) (s2.extBut _ _ (pN (by decide)) Z1)
  refine gV (Oo (tv (gV (gV (Np (gV (m:=nextOf (.ref (n+1))) ?_))))));have JL:At u g3 (n+1) b k:=hj.up λo e=>k3 _ o (pN (by decide)) (kN (by decide)) (kN (by decide)) e
  have JM:Sq u g3 b ys:=hb.up λo e=>k3 _ o (gN (k:=0) lb) (gN lb) (gN lb) e
  cases hy:ys[k]? with
  |none=>refine nx_end hn JL JM hy λg4 e s4 he=>?_;obtain⟨oe,j,B⟩:=he;exact fin (λc o F G _ O L x=>s4 _ _ G (k3 c o F O L x)) (s4 _ _ (kN (by decide)) Z3) j B
  |some y=>
   refine nx_item JL JM hy λg4 JO s4=>tv ?_;have O4:bQ g4 (n+4) x p2 p3:=s4.extBut _ _ (kN (by decide)) O3
   refine gV (LJ O4 rfl (gV (fq O4 λg5 o5 s5=>?_)));have k5:∀c o,c≠n->c≠n+1->c≠n+4->c≠n+5->s.heap.get? c=Z o->g5.get? c=Z o:=λc o F G J O e=>s5.extBut _ _ J (s4.extBut _ _ G (k3 c o F J O e));have Z5:Pf g5 (n+5) (n+3) (n+4) .ellipsis:=s5.extBut _ _ (kN (by decide)) (s4.extBut _ _ (kN (by decide)) Z3)
   refine gV (Oo (tv (gV (gV (Np (gV (m:=nextOf (.ref (n+2))) ?_))))));refine nx_end hn (hl.up λo e=>k5 _ o (pN (by decide)) (kN (by decide)) (kN (by decide)) (kN (by decide)) e) (hc.up λo e=>k5 _ o (gN (k:=0) lc) (gN lc) (gN lc) (gN lc) e) ?_ λg6 e s6 he=>?_
   ·rcases U with z|z|z
    ·rw[hx]at z;cases z
    ·rw[hy]at z;cases z
    ·exact z
   ·obtain⟨oe,j,B⟩:=he;exact fin (λc o F G J O L x=>s6 _ _ J (k5 c o F G O L x)) (s6 _ _ (kN (by decide)) Z5) j B
theorem nxt3_item {n:Wk}{t:Bool}{k:Nat}{y e:h8}{Q:Option h8->r0->Prop}(la:a<n)(lb:b<n)(lc:c<n)(fv:Z3 t u v n a b c .none k s.heap)(j:Sq t s.heap a xs)(B:Sq u s.heap b ys)(G:Sq v s.heap c zs)(hx:xs[k]?=Z x)(J:ys[k]?=Z y)(he:zs[k]?=Z e)(q:∀h',Z3 t u v n a b c (MQ s.heap.objs.size) (k+1) h'->bQ h' s.heap.objs.size x y e->
   (∀c o,c≠n->c≠n+1->c≠n+2->c≠n+4->c≠n+5->s.heap.get? c=Z o->h'.get? c=Z o)->Q (Z (.ref s.heap.objs.size)) {s with heap:=h'}):
 KN (model prog w) A (MZ (.ref (n+5))) Q E s:=by
 have ty:s.TypeIs (.ref (n+5)) "zip":=⟨_,fv.z,rfl⟩;unfold MZ;exact gV (MB (L6 (name:=Lf "__next__") ty NJ (Le NJ ty Qr
  (By la lb lc fv j B G hx J he λh' a1 a2 L=>tv (q h' a1 a2 L)) (Q5 _))))
theorem nxt3_end{n:Wk}{t:Bool}{k:Nat}{Q:Option h8->r0->Prop}(G:A.handled=Y)(la:a<n)(lb:b<n)(lc:c<n)(fv:Z3 t u v n a b c .none k s.heap)(J:Sq t s.heap a xs)(L:Sq u s.heap b ys)(B:Sq v s.heap c zs)(j:xs[k]?=Y∨ys[k]?=Y∨zs[k]?=Y)(q:∀h',(∀c o,c≠n->c≠n+1->c≠n+2->c≠n+4->c≠n+5->s.heap.get? c=Z o->h'.get? c=Z o)->Q Y {s with heap:=h'}):KN (model prog w) A (MZ (.ref (n+5))) Q E s:=by
 have ty:s.TypeIs (.ref (n+5)) "zip":=⟨_,fv.z,rfl⟩;unfold MZ;refine gV (MB (L6 (name:=Lf "__next__") ty NJ (Le NJ ty Qr
  (E5 G la lb lc fv J L B j λh' e O he=>?_) (Q5 _))))
 obtain⟨o,ho,B⟩:=he;exact gV (Ng (T:="StopIteration") (b:=F2) ⟨o,ho,B⟩ Ph (tv (q _ O)))
theorem li(a b c:h8):checkTypeCall "zip" ⟨[a,b,c],[]⟩=pure ():=by kernel_rfl
theorem nU(a b c:h8):S2 "zip.__new__" ⟨[.type "zip",a,b,c],[]⟩=pure ():=by kernel_rfl
theorem gR(a b c d:h8):Sx "object.__init__" ⟨[a,b,c,d],[]⟩:=by unfold Sx;rw[signature?_of (id:="object.__init__") (n:=['_','_','t','i','n','i','_','_']) (o:=['t','c','e','j','b','o']) (by kernel_rfl) F.owner_object];kernel_rfl
noncomputable def yH1(h:Heap)(a:Wk):Heap:=h.push (itO F2 a)
noncomputable def yH2(h:Heap)(a b:Wk):Heap:=(yH1 h a).push (itO Wj b)
noncomputable def yH3(h:Heap)(a b c:Wk):Heap:=(yH2 h a b).push (itO F2 c)
noncomputable def yH4(h:Heap)(a b c:Wk):Heap:=(yH3 h a b c).push {cls:=.type "tuple",data:=.seq #[.ref h.objs.size,.ref (yH1 h a).objs.size,.ref (yH2 h a b).objs.size]}
noncomputable def yH5(h:Heap)(a b c:Wk):Heap:=(yH4 h a b c).push {cls:=.type "tuple",data:=.seq #[.none,.none,.none]}
noncomputable def yH6(h:Heap)(a b c:Wk):Heap:=(yH5 h a b c).push {cls:=.type "zip",data:=.fields #[.none,.bool Wj,.bool Wj,.ref (yH3 h a b c).objs.size,.ref (yH4 h a b c).objs.size]}
theorem tZ(a b c:Wk)(xs ys zs:Array h8):
 Meets (Mh.«zip.__new__» ⟨[.type "zip",.ref a,.ref b,.ref c],[]⟩) (λ_ R s=>s.heap.IsTuple a xs/\s.heap.IsList b ys/\s.heap.IsTuple c zs/\R (.ok (.ret (.ref (yH5 s.heap a b c).objs.size))) {s with heap:=yH6 s.heap a b c}):=
 .of_wp λprog w A R s h=>by
  obtain⟨j,g,d,tk,os⟩:=s;obtain⟨z,B,F,h⟩:=h;have hs:=sub_zip;have e1:Pm (Nr ⟨j,g,d,tk,os⟩) a xs:=z;have e2:Rx (Nr ⟨j.push {cls:=.type "tuple_iterator",data:=.fields #[.ref a,.int 0 0]},g,d,tk,os⟩) b ys:=S0 B _;have G:Pm (Nr ⟨(j.push {cls:=.type "tuple_iterator",data:=.fields #[.ref a,.int 0 0]}).push {cls:=.type "list_iterator",data:=.fields #[.ref b,.int 0 0]},g,d,tk,os⟩) c zs:=Q7 (Q7 F _) _
  wp_walk using My e1,NA e2,My G
  exact⟨_,rfl,h⟩
theorem call_zip3{Q:h8->r0->Prop}(ha:s.heap.IsTuple a xs)(hb:s.heap.IsList b ys)(hc:s.heap.IsTuple c zs)(q:∀h',Z3 F2 Wj F2 s.heap.objs.size a b c .none 0 h'->(∀c o,s.heap.get? c=Z o->h'.get? c=Z o)->Q (.ref (s.heap.objs.size+5)) {s with heap:=h'}):
 KN (model prog w) A (call (.type "zip") [.ref a,.ref b,.ref c]) Q E s:=by
 refine Ux F.called_zip (by decide) (li _ _ _) (nU _ _ _) (λobj=>gR obj _ _ _) Vp (tZ a b c xs ys zs) ⟨ha,hb,hc,?_⟩
 have j:(yH1 s.heap a).objs.size=s.heap.objs.size+1:=LI ..;have z:(yH2 s.heap a b).objs.size=s.heap.objs.size+2:=by unfold yH2;rw[LI,j]
 have B:(yH3 s.heap a b c).objs.size=s.heap.objs.size+3:=by unfold yH3;rw[LI,z]
 have G:(yH4 s.heap a b c).objs.size=s.heap.objs.size+4:=by unfold yH4;rw[LI,B]
 have L:(yH5 s.heap a b c).objs.size=s.heap.objs.size+5:=by unfold yH5;rw[LI,G]
 have O:∀{x o},(yH5 s.heap a b c).get? x=Z o->(yH6 s.heap a b c).get? x=Z o:=λe=>hQ _ e;have U:∀{x o},(yH4 s.heap a b c).get? x=Z o->(yH6 s.heap a b c).get? x=Z o:=λe=>O (hQ _ e);have Fn:∀{x o},(yH3 s.heap a b c).get? x=Z o->(yH6 s.heap a b c).get? x=Z o:=λe=>U (hQ _ e);have fv:∀{x o},(yH2 s.heap a b).get? x=Z o->(yH6 s.heap a b c).get? x=Z o:=λe=>Fn (hQ _ e);have k2:∀{x o},(yH1 s.heap a).get? x=Z o->(yH6 s.heap a b c).get? x=Z o:=λe=>fv (hQ _ e);have J:(yH6 s.heap a b c).get? (yH5 s.heap a b c).objs.size=Z _:=A2 _ rfl;have g5:(yH6 s.heap a b c).get? (yH4 s.heap a b c).objs.size=Z _:=O (A2 _ rfl);have g4:(yH6 s.heap a b c).get? (yH3 s.heap a b c).objs.size=Z _:=U (A2 _ rfl);have g3:(yH6 s.heap a b c).get? (yH2 s.heap a b).objs.size=Z _:=Fn (A2 _ rfl);have g2:(yH6 s.heap a b c).get? (yH1 s.heap a).objs.size=Z _:=fv (A2 _ rfl);have g1:(yH6 s.heap a b c).get? s.heap.objs.size=Z _:=k2 (A2 _ rfl);rw[B,G,L]at J;rw[G]at g5;rw[j,z,B]at g4;rw[z]at g3;rw[j]at g2;show _/\_;rw[L];exact⟨⟨_,J,rfl⟩,q _ ⟨J,g4,⟨_,_,_,g5⟩,at_new g1,at_new g2,at_new g3⟩ λx o e=>k2 (hQ _ e)⟩
end
end Zp
noncomputable def yL(K:Frag)(t u v:Bool)(a b c:Wk):It:=
 ⟨λi H=>∃xs ys zs x y z,SqV K t H a xs/\SqV K u H b ys/\SqV K v H c zs/\xs[i]?=Z x/\ys[i]?=Z y/\zs[i]?=Z z,
  λi H r H'=>∃p x y z,H p=Y/\r=.ref p/\H'=upd H p (.tup [x,y,z])/\∀xs ys zs,SqV K t H a xs->SqV K u H b ys->SqV K v H c zs->xs[i]?=Z x/\ys[i]?=Z y/\zs[i]?=Z z,
  λi H=>∃xs ys zs,SqV K t H a xs/\SqV K u H b ys/\SqV K v H c zs/\(xs.length<=i∨ys.length<=i∨zs.length<=i)⟩
theorem vW{cx}{t u v:Bool}{n:Wk}(la:a<n)(lb:b<n)(lc:c<n):
 fM P w K (.Tuple elts cx pos) (yL K t u v a b c) [n+5,n+3,n+4,n,n+1,n+2] (n+5) (Zp.Z3 t u v n a b c .none) where
 mem:=by simp
 obj:=λk h fv x hx=>by
  obtain⟨p,q,r,G⟩:=fv.O;simp only[D1,Lb,or_false]at hx
  rcases hx with rfl|rfl|rfl|rfl|rfl|rfl
  ·exact⟨_,fv.z,λv e=>by cases e⟩
  ·exact⟨_,fv.T,λv e=>by cases e⟩
  ·exact⟨_,G,λv e=>by cases e⟩
  ·exact fv.i.lt
  ·exact fv.j.lt
  ·exact fv.l.lt
 keep:=λk h h' fv kk=>⟨kk _ (by simp) _ fv.z,kk _ (by simp) _ fv.T,let⟨p,q,r,G⟩:=fv.O; ⟨p,q,r,kk _ (by simp) _ G⟩,fv.i.up λo e=>kk _ (by simp) o e,fv.j.up λo e=>kk _ (by simp) o e,fv.l.up λo e=>kk _ (by simp) o e⟩
 item:=by
  intro X U hw Fn J k pins s σ H E I hf fv hg;subst U hw Fn;obtain⟨xs,ys,zs,x,y,z,qx,qy,qz,ex,ey,ez⟩:=hg;obtain⟨is,rx,px⟩:=I.sqv qx;obtain⟨js,ry,py⟩:=I.sqv qy;obtain⟨ks,rz,pz⟩:=I.sqv qz;obtain⟨ux,JJ,rux⟩:=rx.get ex;obtain⟨uy,JK,ruy⟩:=ry.get ey;obtain⟨uz,JL,ruz⟩:=rz.get ez;refine Zp.nxt3_item la lb lc fv px py pz (by simpa using JJ) (by simpa using JK) (by simpa using JL) λh1 F p1 k1=>⟨_,rfl,?_⟩
  refine Rl (s:={s with heap:=h1}) F.z λh2 z2 s2=>?_
  have up:∀c o,c≠n+5->h1.get? c=Z o->h2.get? c=Z o:=λc o n e=>s2.extBut _ _ n e;have IL:Inv X pins σ (upd H s.heap.objs.size (.tup [x,y,z])) {s with heap:=s.heap.push {cls:=.type "tuple",data:=.seq #[ux,uy,uz]},toks:=s.toks}:=I.laid (λb o e=>hQ _ e) (KO _) ⟨by rw[A0];simp,[ux,uy,uz],.cons rux (.cons ruy (.cons ruz .nil)),Qk _ _⟩
  have JM:n+5<s.heap.objs.size:=B1 fv.z;have fr:∀c∈[n+5,n+3,n+4,n,n+1,n+2],c<s.heap.objs.size:=λc B=>by
   simp only[D1,Lb,or_false]at B
   rcases B with rfl|rfl|rfl|rfl|rfl|rfl<;>first|lia|(simp only[Wk]at *;lia)
  have un:∀c∈[n+5,n+3,n+4,n,n+1,n+2],upd H s.heap.objs.size (.tup [x,y,z]) c=Y:=λc B=>by rw[am (Lg (fr c B))];exact(hf c B).1
  have kk:∀c o,c∉[n+5,n+3,n+4,n,n+1,n+2]->(s.heap.push {cls:=.type "tuple",data:=.seq #[ux,uy,uz]}).get? c=Z o->h2.get? c=Z o:=λc o B e=>by
   simp only[D1,Lb,or_false,not_or]at B
   rcases QG e with⟨rfl,rfl⟩|e
   ·exact up _ _ (LL JM) p1
   ·exact up _ _ B.1 (k1 c o B.2.2.2.1 B.2.2.2.2.1 B.2.2.2.2.2 B.2.2.1 B.1 e)
  have I2:Inv X pins σ (upd H s.heap.objs.size (.tup [x,y,z])) {s with heap:=h2,toks:=s.toks}:=(Inv.turnedL (s:={s with heap:=s.heap.push {cls:=.type "tuple",data:=.seq #[ux,uy,uz]},toks:=s.toks}) (h':=h2) (t':=s.toks) (fp:=[n+5,n+3,n+4,n,n+1,n+2]) IL (λc B=>⟨un c B,(hf c B).2⟩) kk)
  obtain⟨p,q,r,G⟩:=F.O;refine⟨.ref s.heap.objs.size,_,I2,rfl,⟨_,x,y,z,I.hok.fresh (KO _),rfl,rfl,λxs' ys' zs' q1 q2 q3=>?_⟩,⟨z2,up _ _ (Zp.kN (by decide)) F.T,⟨p,q,r,up _ _ (Zp.kN (by decide)) G⟩,F.i.up λo e=>up _ o (Zp.oN (by decide)) e,F.j.up λo e=>up _ o (Zp.kN (by decide)) e,F.l.up λo e=>up _ o (Zp.kN (by decide)) e⟩,un⟩
  rw[I.sqv_inj q1 qx,I.sqv_inj q2 qy,I.sqv_inj q3 qz];exact⟨ex,ey,ez⟩
 done:=by
  intro X U hw Fn J k pins s σ H E I hf fv hg;subst U hw Fn;obtain⟨xs,ys,zs,qx,qy,qz,L⟩:=hg;obtain⟨is,rx,px⟩:=I.sqv qx;obtain⟨js,ry,py⟩:=I.sqv qy;obtain⟨ks,rz,pz⟩:=I.sqv qz;have lx:=rx.length;have ly:=ry.length;have lz:=rz.length;refine Zp.nxt3_end (I.ok.hd J) la lb lc fv px py pz (L.imp (λe=>by simp;lia) (λe=>e.imp (λe=>by simp;lia) (λe=>by simp;lia))) λh1 k1=>⟨rfl,I.turnedL (t':=s.toks) hf λc o B e=>?_⟩
  simp only[D1,Lb,or_false,not_or]at B;exact k1 c o B.2.2.2.1 B.2.2.2.2.1 B.2.2.2.2.2 B.2.2.1 B.1 e
 self:=λA k s Q E fv h=>Qs fv.z h
section
variable{X:Cx}
noncomputable def FV(K:Frag)(ta:TA):TI:=λσ H R=>ta σ H λvs H1=>∃a b c xs ys zs,vs=[.ref a,.ref b,.ref c]/\SqT K H1 a xs/\SqL K H1 b ys/\SqT K H1 c zs/\R (yL K F2 Wj F2 a b c) H1
theorem Bz{cx}{a b c:Expr}(G:Gl X "zip")(hm:X.mg "zip"=Y)(J:PA X [a,b,c] ta)(hs:KU [a,b,c] X.env=[(Wj,eval a X.env),(Wj,eval b X.env),(Wj,eval c X.env)])(B:KU [b,c] X.env=[(Wj,eval b X.env),(Wj,eval c X.env)]):
 PI X (.Tuple elts cx pos) (.Call (.Name "zip" p) [a,b,c] [] pos') (FV X.K ta):=by
 intro pins s σ H R I h;refine Call_ (bL I G hm (u:=.type "zip") (by decide +kernel) (Ln (thn (J pos' pins s σ H _ I h) λus s1 g9=>?_) (by rw[hs,B]) (by rw[B];rfl)));obtain⟨vs,H1,j,L,O⟩:=g9
 obtain⟨a',b',c',xs,ys,zs,rfl,qx,qy,qz,q⟩:=O
 cases L with
 |cons r rr=>
  cases rr with
  |cons r' rr=>
   cases rr with
   |cons r'' rr=>
    cases rr
    cases r
    cases r'
    cases r''
    obtain⟨is,rx,px,_⟩:=j.tuple qx;obtain⟨js,ry,py,_⟩:=j.list qy;obtain⟨ks,rz,pz,_⟩:=j.tuple qz;refine Zp.call_zip3 px py.isList pz λh1 F U=>?_;refine Qs F.z ?_;have la:a'<s1.heap.objs.size:=by obtain⟨o,e,_⟩:=px;exact B1 e
    have lb:b'<s1.heap.objs.size:=by obtain⟨o,e,_⟩:=py.isList;exact B1 e
    have lc:c'<s1.heap.objs.size:=by obtain⟨o,e,_⟩:=pz;exact B1 e
    refine⟨_,_,_,_,H1,rfl,j.kept (t':=s1.toks) U,vW (t:=F2) (u:=Wj) (v:=F2) la lb lc,F,λx hx=>?_,q⟩;have hle:s1.heap.objs.size<=x:=by
     simp only[D1,Lb,or_false]at hx
     rcases hx with rfl|rfl|rfl|rfl|rfl|rfl<;>lia
    exact j.fpOk hle (j.hok.fresh hle)
end
namespace En
variable{z i a:Wk}{xs:Array h8}{old:h8}
section
variable{prog:L4}{w:Lq}{A:Lv}{E:h8->r0->Prop}{s:r0}
open Builtin.SmallTypes Zp in
theorem E6 {t:Bool}{k:Nat}{x:h8}{Q:h8->r0->Prop}(U:Sy s.heap z i k old)(hi:At t s.heap i a k)(ha:Sq t s.heap a xs)(hx:xs[k]?=Z x)(j:z≠i)(q:∀h',UT h' z i ((k:Int)+1) x s.heap.objs.size->At t h' i a (k+1)->h'.get? s.heap.objs.size=Z {cls:=.type "tuple",data:=.seq #[.int k s.toks,x]}->
   (∀b o,b≠z->b≠i->s.heap.get? b=Z o->h'.get? b=Z o)->Q (.ref s.heap.objs.size) {s with heap:=h',toks:=s.toks+1}):
 KN (model prog w) A (Mh.«enumerate.__next__» ⟨[.ref z],[]⟩) (λfin s'=>∃v,fin=.done (.ret v)/\Q v s') E s:=by
 obtain⟨B,g,d,tk,os⟩:=s;refine gV (m:=field (.ref z) 2) (Lc U rfl (x:=.ref i) rfl (gV (nx_item hi ha hx λg1 i1 s1=>?_)));have S1:Mg i B g1:=s1;clear s1;have Fn:Sy g1 z i k old:=(S1.2 z j).trans U;refine gV (m:=field (.ref z) 3) (Lc (s:=⟨g1,g,d,tk,os⟩) Fn rfl (x:=MQ k) rfl ?_);refine gV (m:=field (.ref z) 4) (Lc (s:=⟨g1,g,d,tk,os⟩) Fn rfl (x:=.none) rfl ?_);refine gV (m:=mkInt k) (wpAny_mkInt ?_);refine gV (m:=setField (.ref z) 3 (MQ ((k:Int)+1))) (KS (s:=⟨g1,g,d,tk+1,os⟩) Fn (by simp) λg2 z2 s2=>?_)
 have fv:Mg z g1 g2:=s2;have Z2:Sy g2 z i ((k:Int)+1) old:=z2;clear s2 z2;refine gV (m:=setField (.ref z) 4 .none) (KS (s:=⟨g2,g,d,tk+1,os⟩) Z2 (by simp) λg3 z3 s3=>?_)
 have S3:Mg z g2 g3:=s3;have Z3:Sy g3 z i ((k:Int)+1) old:=z3;clear s3 z3;refine gV (m:=Uw [.int k tk,x]) (Pg ?_);have G:Sy (g3.push {cls:=.type "tuple",data:=.seq #[.int k tk,x]}) z i ((k:Int)+1) old:=hQ _ Z3;have sz:g3.objs.size=B.objs.size:=by rw[S3.1,fv.1,S1.1]
 have zl:z<B.objs.size:=B1 U;have T4:(g3.push {cls:=.type "tuple",data:=.seq #[.int k tk,x]}).get? B.objs.size=Z {cls:=.type "tuple",data:=.seq #[.int k tk,x]}:=by rw[<-sz];exact A2 _ rfl
 have K4:∀b o,b≠z->b≠i->B.get? b=Z o->(g3.push {cls:=.type "tuple",data:=.seq #[.int k tk,x]}).get? b=Z o:=λb o bz bi e=>hQ _ (S3.extBut b o bz (fv.extBut b o bz (S1.extBut b o bi e)))
 have I4:At t (g3.push {cls:=.type "tuple",data:=.seq #[.int k tk,x]}) i a (k+1):=i1.up λo e=>hQ _ (S3.extBut i o j.symm (fv.extBut i o j.symm e));rw[sz];generalize g3.push {cls:=.type "tuple",data:=.seq #[.int k tk,x]}=F at G T4 K4 I4;refine gV (m:=ownedTupleIsFree (.ref z)) ?_;unfold ownedTupleIsFree;refine gV (Lc (s:=⟨F,g,d,tk+1,os⟩) G rfl (x:=.none) rfl (tv ?_));simp only[if_true];refine gV (Mw (gV (Lc (s:=⟨F,g,d,tk+1,os⟩) G rfl (x:=old) rfl (gV (KS (s:=⟨F,g,d,tk+1,os⟩) G (by simp) λJ z5 s5=>?_)))))
 have S5:Mg z F J:=s5;have Z5:Sy J z i ((k:Int)+1) x:=z5;clear s5 z5;refine gV (m:=ownedTupleHandOut (.ref z) (.ref B.objs.size)) ?_;unfold ownedTupleHandOut;refine gV (KS (s:=⟨J,g,d,tk+1,os⟩) Z5 (by simp) λL z6 s6=>?_)
 have S6:Mg z J L:=s6;have Z6:UT L z i ((k:Int)+1) x B.objs.size:=z6;clear s6 z6;refine KS (s:=⟨L,g,d,tk+1,os⟩) Z6 (by simp) λO z7 s7=>?_
 have S7:Mg z L O:=s7;have Z7:UT O z i ((k:Int)+1) x B.objs.size:=z7;clear s7 z7;have up:∀b o,b≠z->F.get? b=Z o->O.get? b=Z o:=λb o bz e=>S7.extBut b o bz (S6.extBut b o bz (S5.extBut b o bz e));exact gV (Oo (tv ⟨_,rfl,q O Z7 (I4.up λo e=>up i o j.symm e) (up _ _ (LL zl) T4) λb o bz bi e=>up b o bz (K4 b o bz bi e)⟩))
theorem nxt_item {t:Bool}{k:Nat}{x:h8}{Q:Option h8->r0->Prop}(B:Sy s.heap z i k old)(hi:Zp.At t s.heap i a k)(G:Zp.Sq t s.heap a xs)(hx:xs[k]?=Z x)(j:z≠i)(q:∀h',UT h' z i ((k:Int)+1) x s.heap.objs.size->Zp.At t h' i a (k+1)->h'.get? s.heap.objs.size=Z {cls:=.type "tuple",data:=.seq #[.int k s.toks,x]}->
   (∀b o,b≠z->b≠i->s.heap.get? b=Z o->h'.get? b=Z o)->Q (Z (.ref s.heap.objs.size)) {s with heap:=h',toks:=s.toks+1}):
 KN (model prog w) A (MZ (.ref z)) Q E s:=by
 have ty:s.TypeIs (.ref z) "enumerate":=⟨_,B,rfl⟩;unfold MZ;exact gV (MB (L6 (name:=Lf "__next__") ty OY (Le OY ty Sz
  (E6 B hi G hx j λh' a1 a2 J L=>tv (q h' a1 a2 J L)) (S4 _))))
theorem nxt_end{t:Bool}{k:Nat}{Q:Option h8->r0->Prop}(B:A.handled=Y)(j:Sy s.heap z i k old)(hi:Zp.At t s.heap i a k)(G:Zp.Sq t s.heap a xs)(hx:xs[k]?=Y)(q:∀h',Vf i s.heap h'->Q Y {s with heap:=h'}):KN (model prog w) A (MZ (.ref z)) Q E s:=by have ty:s.TypeIs (.ref z) "enumerate":=⟨_,j,rfl⟩;unfold MZ;refine gV (MB (L6 (name:=Lf "__next__") ty OY (Le OY ty Sz ?_ (S4 _))));refine gV (m:=field (.ref z) 2) (Lc j rfl (x:=.ref i) rfl (gV (Zp.nx_end B hi G hx λh' x he hs=>?_)));obtain⟨o,ho,J⟩:=hs;exact gV (Ng (T:="StopIteration") (b:=F2) ⟨o,ho,J⟩ Ph (tv (q _ he)))
open AutoSeq1 (wpAny_loadPart') in
theorem BA(l:Wk)(items:Array h8)(n:Nat)(dct:Option Wk)(sl:Array (Option h8)):
 Meets (Mh.«enumerate.__new__» ⟨[.type "enumerate",.ref l],[]⟩) (λ_ R s=>s.heap.get? l=Z {cls:=.type "tuple",dict:=dct,data:=.seq items n,slots:=sl} /\
  R (.ok (.ret (.ref (s.heap.push (Zp.itO F2 l)).objs.size))) {s with heap:=(s.heap.push (Zp.itO F2 l)).push {cls:=.type "enumerate",data:=.fields #[.none,.bool Wj,.ref s.heap.objs.size,MQ 0,.none,.none]}}):=
 .of_wp λprog w A R s h=>by
  obtain⟨F,g,d,tk,os⟩:=s;obtain⟨j,h⟩:=h;have z:=sub_enumerate;have B:Pm (Nr ⟨F,g,d,tk,os⟩) l items:=⟨_,j,rfl,n,rfl⟩
  wp_walk using OS j
  refine wpAny_stack_any λst=>tv ?_
  split
  ·rename_i c _ _ _ _ _
   cases(c==Lw "enumerate")<;>(wp_walk using OS j,My B;exact⟨_,rfl,h⟩)
  ·wp_walk using OS j,My B
   exact⟨_,rfl,h⟩
theorem call_enum{t:Bool}{l:Wk}{items:Array h8}{Q:h8->r0->Prop}(B:Zp.Sq t s.heap l items)(q:∀h',Sy h' (s.heap.objs.size+1) s.heap.objs.size 0 .none->Zp.At t h' s.heap.objs.size l 0->(∀b o,s.heap.get? b=Z o->h'.get? b=Z o)->Q (.ref (s.heap.objs.size+1)) {s with heap:=h'}):
 KN (model prog w) A (call (.type "enumerate") [.ref l]) Q E s:=by
 cases t with
 |false=>exact call_enumerate_list B λh' a b _ k=>q h' a b k
 |true=>
  obtain⟨⟨c,dct,dt,sl⟩,J,L,n,hd⟩:=B;have j:c=.type "tuple":=L;have z:dt=.seq items n:=hd;subst j z;refine Ux F.called_enumerate (by decide) (F.typeCall_enumerate_1 _) (F.newCall_enumerate_1 _) (λobj=>F.args_object_init_2 obj _) F.entry_enumerate_new (BA l items n dct sl) ⟨J,?_⟩
  have G:(s.heap.push (Zp.itO F2 l)).objs.size=s.heap.objs.size+1:=LI ..;have e:((s.heap.push (Zp.itO F2 l)).push {cls:=.type "enumerate",data:=.fields #[.none,.bool Wj,.ref s.heap.objs.size,MQ 0,.none,.none]}).get? (s.heap.push (Zp.itO F2 l)).objs.size=Z _:=A2 _ rfl;rw[G]at e;show _/\_;rw[G];exact⟨⟨_,e,rfl⟩,q _ e (Zp.at_new (hQ _ (A2 _ rfl))) λb o x=>hQ _ (hQ _ x)⟩
end
end En
noncomputable def Ite(K:Frag)(t:Bool)(a:Wk):It:=
 ⟨λi H=>∃xs x,SqV K t H a xs/\xs[i]?=Z x,
  λi H v H'=>∃p x,H p=Y/\v=.ref p/\H'=upd H p (.tup [.int (i:Nat),x])/\∀xs,SqV K t H a xs->xs[i]?=Z x,
  λi H=>∃xs,SqV K t H a xs/\xs.length<=i⟩
theorem vX{cx}{t:Bool}{z i:Wk}(F:z≠i):
 fM P w K (.Tuple elts cx pos) (Ite K t a) [z,i] z (λk h=>(∃old,Sy h z i k old)/\Zp.At t h i a k) where
 mem:=by simp
 obj:=λk h ⟨⟨old,B⟩,hi⟩ c j=>by
  simp only[D1,Lb,or_false]at j
  rcases j with rfl|rfl
  ·exact⟨_,B,λv e=>by cases e⟩
  ·exact hi.lt
 keep:=λk h h' G kk=>(by obtain⟨⟨old,B⟩,hi⟩:=G;exact⟨⟨old,kk z (by simp) _ B⟩,hi.up λo e=>kk i (by simp) o e⟩)
 item:=by
  intro X J hw L j k pins s σ H E I hf st hg;subst J hw L;obtain⟨⟨old,B⟩,hi⟩:=st;obtain⟨xs,x,qx,ex⟩:=hg;obtain⟨is,rx,px⟩:=I.sqv qx;obtain⟨ux,O,rux⟩:=rx.get ex;refine En.nxt_item B hi px (by simpa using O) F λh1 z1 i1 p1 U=>⟨_,rfl,?_⟩
  refine wpAny_letOwnedTupleGo_enum (s:={s with heap:=h1,toks:=s.toks+1}) z1 λh2 z2 s2=>?_
  have lt:∀{c o},s.heap.get? c=Z o->c≠s.heap.objs.size:=λe=>Lg (B1 e);have nz:s.heap.objs.size≠z:=(lt B).symm;have Fn:∃o,s.heap.get? i=Z o:=hi.lt.imp λ_ h=>h.1;have up:∀c o,c≠z->h1.get? c=Z o->h2.get? c=Z o:=λc o n e=>s2.extBut _ _ n e;have IL:Inv X pins σ (upd H s.heap.objs.size (.tup [.int (k:Nat),x])) {s with heap:=s.heap.push {cls:=.type "tuple",data:=.seq #[.int k s.toks,ux]},toks:=s.toks+1}:=I.laid (λb o e=>hQ _ e) (KO _) ⟨by rw[A0];simp,[.int k s.toks,ux],.cons ⟨_,rfl⟩ (.cons rux .nil),Qk _ _⟩
  have fr:∀c∈[z,i],c≠s.heap.objs.size:=λc j=>by
   simp only[D1,Lb,or_false]at j
   rcases j with rfl|rfl
   ·exact lt B
   ·obtain⟨o,e⟩:=Fn;exact lt e
  have un:∀c∈[z,i],upd H s.heap.objs.size (.tup [.int (k:Nat),x]) c=Y:=λc j=>by rw[am (fr c j)];exact(hf c j).1
  have kk:∀c o,c∉[z,i]->(s.heap.push {cls:=.type "tuple",data:=.seq #[.int k s.toks,ux]}).get? c=Z o->h2.get? c=Z o:=λc o j e=>by
   simp only[D1,Lb,or_false,not_or]at j
   rcases QG e with⟨rfl,rfl⟩|e
   ·exact up _ _ nz p1
   ·exact up _ _ j.1 (U c o j.1 j.2 e)
  have I2:Inv X pins σ (upd H s.heap.objs.size (.tup [.int (k:Nat),x])) {s with heap:=h2,toks:=s.toks+1}:=Inv.turnedL (s:={s with heap:=s.heap.push {cls:=.type "tuple",data:=.seq #[.int k s.toks,ux]},toks:=s.toks+1}) (h':=h2) (t':=s.toks+1) (fp:=[z,i]) IL (λc j=>⟨un c j,(hf c j).2⟩) kk
  refine⟨.ref s.heap.objs.size,_,I2,rfl,⟨_,x,I.hok.fresh (KO _),rfl,rfl,λxs' q1=>?_⟩,⟨⟨ux,by simpa using z2⟩,i1.up λo e=>up _ o F.symm e⟩,un⟩
  rw[I.sqv_inj q1 qx];exact ex
 done:=by
  intro X J hw L j k pins s σ H E I hf st hg;subst J hw L;obtain⟨⟨old,B⟩,hi⟩:=st;obtain⟨xs,qx,fv⟩:=hg;obtain⟨is,rx,px⟩:=I.sqv qx;have lx:=rx.length;refine En.nxt_end (I.ok.hd j) B hi px (by simp;lia) λh1 U=>⟨rfl,I.turnedL (t':=s.toks) hf λc o j e=>?_⟩
  simp only[D1,Lb,or_false,not_or]at j;exact U c o j.2 e
 self:=λA k s Q E G h=>(by obtain⟨⟨old,B⟩,_⟩:=G;exact Uy B h)
section
variable{X:Cx}
noncomputable def FW(K:Frag)(ta:TA):TI:=λσ H R=>ta σ H λvs H1=>∃a t xs,vs=[.ref a]/\SqV K t H1 a xs/\R (Ite K t a) H1
theorem BB{cx}{a:Expr}(F:Gl X "enumerate")(hm:X.mg "enumerate"=Y)(G:PA X [a] ta)(hs:KU [a] X.env=[(Wj,eval a X.env)]):
 PI X (.Tuple elts cx pos) (.Call (.Name "enumerate" p) [a] [] pos') (FW X.K ta):=by
 intro pins s σ H R I h;refine Call_ (bL I F hm (u:=.type "enumerate") boot_enumerate (Ln (thn (G pos' pins s σ H _ I h) λus s1 g9=>?_) hs rfl));obtain⟨vs,H1,j,J,L⟩:=g9;obtain⟨a',t,xs,rfl,qx,q⟩:=L
 cases J with
 |cons r rr=>
  cases rr
  cases r
  obtain⟨is,rx,px⟩:=j.sqv qx;refine En.call_enum px λh1 z O U=>?_;refine Uy z ?_;refine⟨_,_,_,_,H1,rfl,j.kept (t':=s1.toks) U,vX (t:=t) (a:=a') (by simp),⟨⟨_,z⟩,O⟩,λc B=>?_,q⟩
  have hle:s1.heap.objs.size<=c:=by
   simp only[D1,Lb,or_false]at B
   rcases B with rfl|rfl<;>lia
  exact j.fpOk hle (j.hok.fresh hle)
end
namespace Rv
theorem rZ:mroOf (.type "reversed")=pure [.type "reversed",.type "object"]:=by rw[mroOf_type];kernel_rfl
theorem yM:U7 (.type "reversed") "__new__"=pure (Z (.builtin "reversed.__new__")):=by rw[PQ,Oc];kernel_rfl
theorem yN:Bind.madeBy (.type "reversed")=pure (Z "reversed.__new__"):=madeBy_type rZ yM (by decide +kernel)
theorem BC:isSubtype (.type "list_reverseiterator") (.type "reversed")=pure Wj:=by rw[Nt];kernel_rfl
theorem BD:isSubtype (.type "reversed") (.type "reversed")=pure F2:=by rw[Nt];kernel_rfl
theorem vY:Uz table "reversed.__new__"=Z Mh.«reversed.__new__»:=Qt (by kernel_rfl)
theorem BE(a:h8):checkTypeCall "reversed" ⟨[a],[]⟩=pure ():=by kernel_rfl
theorem yO(a:h8):S2 "reversed.__new__" ⟨[.type "reversed",a],[]⟩=pure ():=by kernel_rfl
theorem BG:((Manifest.find? "reversed").bind (·.mro.findSome? λt=>(Manifest.find? t).bind λb=>if b.noNew then Z F2 else if b.attrs.any (·.1=="__new__")then Z Wj else Y)).getD Wj=Wj:=by decide +kernel
theorem vZ:plainId "reversed.__new__"=F2:=by decide +kernel
noncomputable def rO(l:Wk)(i:Int):Obj:={cls:=.type "list_reverseiterator",data:=.fields #[.ref l,MQ i]}
theorem w5(l:Wk)(items:Array h8)(n:Nat)(d:Option Wk)(sl:Array (Option h8)):
 Meets (Mh.«list.__reversed__» ⟨[.ref l],[]⟩) (λ_ R s=>s.heap.get? l=Z {cls:=.type "list",dict:=d,data:=.seq items n,slots:=sl}/\R (.ok (.ret (.ref s.heap.objs.size))) {s with heap:=s.heap.push (rO l ((items.size:Nat)-1))}):=
 .of_wp λprog w A R s h=>by obtain⟨j,g,d,tk,os⟩:=s;obtain⟨z,h⟩:=h;wp_walk;exact⟨_,rfl,h⟩
variable{l it:Wk}
section
variable{prog:L4}{w:Lq}{A:Lv}{E:h8->r0->Prop}{s:r0}
theorem FX{items:Array h8}{n:Nat}{dd:Option Wk}{sl:Array (Option h8)}{R:U3->r0->Prop}(j:s.heap.get? l=Z {cls:=.type "list",dict:=dd,data:=.seq items n,slots:=sl})(q:R (.ok (.ret (.ref s.heap.objs.size))) {s with heap:=s.heap.push (rO l ((items.size:Nat)-1))}):KN (model prog w) A.in1 (Mh.«reversed.__new__» ⟨[.type "reversed",.ref l],[]⟩) (λfin s'=>match fin with|.done f=>R (.ok f) s'|.again c'=>c'.quiet=F2/\Ob (model prog w) A c' R s') (λe s'=>R (.error e) s') s:=by
 have h1:=BD;have h2:s.TypeIs (.ref l) "list":=⟨_,j,rfl⟩;have G:=F.slot_list_reversed.lookup;have J:=F.slot_list_reversed.bind (.ref l);unfold Mh.«reversed.__new__»
 repeat (any_goals (first|assumption|wp_step))
 have z:Ob (model prog w) A.in1 (.call (.builtin "list.__reversed__") ⟨[.ref l],[]⟩) (λr s'=>r=.ok (.ret (.ref s.heap.objs.size))/\s'={s with heap:=s.heap.push (rO l ((items.size:Nat)-1))}) s:=QH F.slot_list_reversed.plain F.entry_list_reversed (F.slot_list_reversed.check _ _ _ _ _ _ _ _ h2 (F.args_list_reversed_1 _) (w5 l items n dd sl prog w A.in1 (λr s'=>r=.ok (.ret (.ref s.heap.objs.size))/\s'={s with heap:=s.heap.push (rO l ((items.size:Nat)-1))}) s ⟨j,rfl,rfl⟩))
 refine Nh z λr s1 B=>?_;obtain⟨rfl,rfl⟩:=B;exact tv q
theorem call_rev{items:Array h8}{n:Nat}{dd:Option Wk}{sl:Array (Option h8)}{Q:h8->r0->Prop}(G:s.heap.get? l=Z {cls:=.type "list",dict:=dd,data:=.seq items n,slots:=sl})(q:Q (.ref s.heap.objs.size) {s with heap:=s.heap.push (rO l ((items.size:Nat)-1))}):KN (model prog w) A (call (.type "reversed") [.ref l]) Q E s:=by
 have z:=rZ;have j:=yN;have B:=BC;have h1:(Lw "reversed"==Lw "type")=Wj:=by decide
 have h2:=BG;have J:=BE (.ref l);refine Sl (codeAny_of_tree ?_);show KN _ _ (callAny (.type "reversed") _) _ _ _;refine tv ⟨Rf _ (by decide +kernel),Oi F.entry_type_call ?_⟩
 rw[Ue (weight_type_call_type "reversed" [.ref l] []) (units_type_call_type "reversed" [.ref l] [])]
 repeat (any_goals (first|assumption|wp_step))
 have L:Ob (model prog w) A.in1 (.call (.builtin "reversed.__new__") ⟨[.type "reversed",.ref l],[]⟩) (λr s'=>r=.ok (.ret (.ref s.heap.objs.size))/\s'={s with heap:=s.heap.push (rO l ((items.size:Nat)-1))}) s:=QH vZ vY (Nq (yO _) (FX (R:=λr s'=>r=.ok (.ret (.ref s.heap.objs.size))/\s'={s with heap:=s.heap.push (rO l ((items.size:Nat)-1))}) G ⟨rfl,rfl⟩))
 refine Nh L λr s1 O=>?_;obtain⟨rfl,rfl⟩:=O;have U:RH {s with heap:=s.heap.push (rO l ((items.size:Nat)-1))} (.ref s.heap.objs.size) "list_reverseiterator":=⟨_,A2 _ rfl,rfl⟩
 repeat (any_goals (first|assumption|wp_step))
theorem slot_next:Slot "list_reverseiterator" "__next__" "list_reverseiterator.__next__":=.of (owner:="list_reverseiterator") (n:="__next__") (by rw[PQ,Oc];kernel_rfl) (by decide +kernel) (by decide +kernel) (by decide +kernel) (.inl (by decide +kernel)) (by rw[Nt];kernel_rfl)
theorem mM:Slot "list_reverseiterator" "__iter__" "list_reverseiterator.__iter__":=.of (owner:="list_reverseiterator") (n:="__iter__") (by rw[PQ,Oc];kernel_rfl) (by decide +kernel) (by decide +kernel) (by decide +kernel) (.inl (by decide +kernel)) (by rw[Nt];kernel_rfl)
theorem bq:Uz table "list_reverseiterator.__next__"=Z Mh.«list_reverseiterator.__next__»:=Qt (by kernel_rfl)
theorem u5:Uz table "list_reverseiterator.__iter__"=Z Mh.«dict_keyiterator.__iter__»:=entryFor_alias (id':="dict_keyiterator.__iter__") (by kernel_rfl) (by first|rfl|decide +kernel|(unfold String.splitOn;simp +decide [String.splitOnAux])) (by decide +kernel) (by kernel_rfl)
theorem bE(a:h8):Sx "list_reverseiterator.__next__" ⟨[a],[]⟩:=by unfold Sx;kernel_rfl
theorem w6(a:h8):Sx "list_reverseiterator.__iter__" ⟨[a],[]⟩:=by unfold Sx;kernel_rfl
theorem nx_item{i:Nat}{xs:Array h8}{x:h8}{Q:Option h8->r0->Prop}(hi:s.heap.get? it=Z (rO l i))(B:s.heap.IsList l xs)(hx:xs[i]?=Z x)(q:∀h',h'.get? it=Z (rO l ((i:Int)-1))->Mg it s.heap h'->Q (Z x) {s with heap:=h'}):KN (model prog w) A (MZ (.ref it)) Q E s:=by
 have ty:s.TypeIs (.ref it) "list_reverseiterator":=⟨_,hi,rfl⟩;obtain⟨oq,j,_,nq,z⟩:=B;unfold MZ;refine gV (MB (L6 (name:=Lf "__next__") ty slot_next (Le slot_next ty bq ?_ (bE _))));refine gV (m:=field (.ref it) 1) (Lc hi rfl (x:=.int i 0) rfl ?_);dsimp only;rw[if_neg (show ¬((i:Int)<0) by lia)]
 refine gV (m:=field (.ref it) 0) (Lc hi rfl (x:=.ref l) rfl ?_);refine gV (m:=US (.ref l)) (LJ j z ?_);simp only[J4,hx];refine gV (KS hi (by simp) λh' e' s'=>tv ⟨x,rfl,tv (q h' e' s')⟩)
theorem nx_end{Q:Option h8->r0->Prop}(j:A.handled=Y)(hi:s.heap.get? it=Z (rO l (-1)))(q:∀h',(∀b o,s.heap.get? b=Z o->h'.get? b=Z o)->Q Y {s with heap:=h'}):KN (model prog w) A (MZ (.ref it)) Q E s:=by
 have ty:s.TypeIs (.ref it) "list_reverseiterator":=⟨_,hi,rfl⟩;unfold MZ;refine gV (MB (L6 (name:=Lf "__next__") ty slot_next (Le slot_next ty bq ?_ (bE _))));refine gV (m:=field (.ref it) 1) (Lc hi rfl (x:=.int (-1) 0) rfl ?_);dsimp only;rw[if_pos (show(-1:Int)<0 by lia)]
 refine gV (Mw (gV ?_));unfold Builtin.SmallTypes.stopIteration;refine gV (m:=Ud (.type "StopIteration") []) ?_;simp only[Ud,Uw];refine gV (LN ?_ (by size_fits))
 refine gV (m:=O8 _ _) (Nq (a:=MY) (by first|rfl|(simp only[O8];rfl)) (LN ?_ (by size_fits)))
 simp only[VG];refine gV (RG ?_)
 first|rw[show A.in1.handled=Y from j]|rw[j]
 refine gV (tv (T8 ?_));exact gV (Ng (T:="StopIteration") (b:=F2) ⟨_,A2 _ rfl,rfl⟩ Ph (tv (q _ λb o e=>hQ _ (hQ _ e))))
theorem it_self{i:Int}{Q:h8->r0->Prop}(hi:s.heap.get? it=Z (rO l i))(h:Q (.ref it) s):KN (model prog w) A (SX (.ref it)) Q E s:=by have ty:s.TypeIs (.ref it) "list_reverseiterator":=⟨_,hi,rfl⟩;refine Ry ty mM (Le mM ty u5 ?_ (w6 _));exact tv ⟨_,rfl,"list_reverseiterator",_,ty,slot_next.lookup,h⟩
end
end Rv
section
noncomputable abbrev NK:=List (Int ⊕ List Int)
noncomputable def FY(ks:List Int):Int:=reduceHash (Rm (ks.map hashInt))
noncomputable def FZ:Int ⊕ List Int->Int
 |.inl i=>hashInt i
 |.inr ks=>FY ks
noncomputable def G0(ks:NK):Int:=reduceHash (Rm (ks.map FZ))
noncomputable def AM(a:Wk)(xs:List (NK×Wk×h8)):Heap->Prop:=λh=>xs.length<=KG/\(a==MK)=Wj /\
 ∃o es ep,h.get? a=Z o/\o.ExactDict/\o.data=.dict es ep/\es.toList=xs.map (λx=>(⟨G0 x.1,.ref x.2.1,x.2.2⟩:LW))/\(xs.map (·.1)).Nodup
noncomputable def Kt1(H:Hp):Int ⊕ List Int->V->Prop
 |.inl i,v=>v=.int i
 |.inr ks,v=>∃b,v=.ref b/\H b=Z (.tup (ks.map V.int))
def Kt(H:Hp)(k:NK)(b:Wk):Prop:=∃vs,H b=Z (.tup vs)/\Me (Kt1 H) k vs
theorem Kt.keeps{k:NK}(x:Kt H k b)(j:∀b ys,H b=Z (.tup ys)->H' b=Z (.tup ys)):Kt H' k b:=by
 obtain⟨vs,e,p⟩:=x;refine⟨vs,j _ _ e,W3 p λq v z=>?_⟩
 cases q with
 |inl i=>exact z
 |inr ks=>obtain⟨c,e,q⟩:=z;exact⟨c,e,j _ _ q⟩
end
namespace Mi
variable{a p:Wk}{K:Frag}{H H':Hp}{xs vs:List V}{i:Nat}{v:V}{σ:St}{ho:HO}{X:Cx}{e:Expr}
section
inductive D where
 |non|bl (b:Bool)|int (i:Int)|str (x:Str)|tup (ds:List D)|con (ds:List D)|ref (a:Wk)|fn (x:Str)
inductive O where
 |lst (ds:List D)
 |dct (t:Bool) (kvs:List (D×D))
 |fdc (kvs:List (D×D))
 |dcn (kvs:List (NK×D))
 |fdn (kvs:List (NK×D))
 |tab (pos:Pos) (q:Str)
noncomputable abbrev Mem:=Wk->Option O
noncomputable def fz:Option O->Bool
 |some (.lst _)=>Wj
 |some (.dct _ _)=>Wj
 |some (.dcn _)=>Wj
 |some (.tab _ _)=>Wj
 |_=>F2
noncomputable abbrev aw:=List (Option D)
noncomputable def ag(M:Mem)(a:Wk)(o:O):Mem:=λb=>if b=a then Z o else M b
theorem aa{M:Mem}{o:O}:ag M a o a=Z o:=by unfold ag;rw[if_pos rfl]
theorem aE{M:Mem}{b:Wk}{o:O}(h:b≠a):ag M a o b=M b:=by unfold ag;rw[if_neg h]
def SqF(K:Frag)(H:Hp)(a:Wk)(xs:List V):Prop:=
 (∃o,H a=Z (.frz o (.lst xs))) ∨
  ∃(o:Obj) (its:Array h8) (n:Nat),K.lookup a=Z o/\o.cls=.type "list"/\o.dict=Y/\o.data=.seq its n/\its.size<=KG/\Vals xs its.toList
theorem SqF.sq(h:SqF K H a xs):SqL K H a xs:=by
 rcases h with⟨o,h⟩|h
 ·exact .inl (.inr ⟨o,h⟩)
 ·exact .inr h
noncomputable def fk2:Bool:=F2
noncomputable def fk3:Bool:=Wj
noncomputable def fk:List D->Bool
 |[.int _,.int _,.int _]=>F2
 |[.tup _,_]=>F2
 |[.int _,_]=>fk2
 |[]=>Wj
 |_=>fk3
def TupR(K:Frag)(H:Hp)(ds:List D)(a:Wk)(vs:List V):Prop:=H a=Z (.tup vs)∨(fk ds=Wj/\SqT K H a vs)
theorem TupR.sq{ds:List D}(h:TupR K H ds a vs):SqT K H a vs:=h.elim SqT.of (·.2)
mutual
noncomputable def RD(K:Frag)(H:Hp):D->V->Prop
 |.non,v=>v=.non
 |.bl b,v=>v=.bl b
 |.int i,v=>v=.int i
 |.str x,v=>v=.str x
 |.tup ds,v=>∃a vs,v=.ref a/\TupR K H ds a vs/\RDs K H ds vs
 |.con ds,v=>∃a vs,v=.ref a/\SqF K H a vs/\RDs K H ds vs
 |.ref a,v=>v=.ref a
 |.fn x,v=>∃f,v=.ref f/\R1 K Mf x=Z (Z (.ref f))
noncomputable def RDs(K:Frag)(H:Hp):List D->List V->Prop
 |[],vs=>vs=[]
 |d::ds,vs=>∃v r,vs=v::r/\RD K H d v/\RDs K H ds r
end
structure Stab(H H':Hp):Prop where
 tup:∀a xs,H a=Z (.tup xs)->H' a=Z (.tup xs)
 frz:∀a o u,H a=Z (.frz o u)->H' a=Z (.frz o u)
theorem Stab.sqT(st:Stab H H')(h:SqT K H a xs):SqT K H' a xs:=by
 rcases h with(h|⟨o,h⟩)|h
 ·exact .inl (.inl (st.tup _ _ h))
 ·exact .inl (.inr ⟨o,st.frz _ _ _ h⟩)
 ·exact .inr h
theorem Stab.sqF(st:Stab H H')(h:SqF K H a xs):SqF K H' a xs:=by
 rcases h with⟨o,h⟩|h
 ·exact .inl ⟨o,st.frz _ _ _ h⟩
 ·exact .inr h
mutual
theorem RD.mono{K:Frag}{H H':Hp}(st:Stab H H'):∀{d:D} {v:V},RD K H d v->RD K H' d v
 |.non,_,h=>h
 |.bl _,_,h=>h
 |.int _,_,h=>h
 |.str _,_,h=>h
 |.tup ds,v,h=>by unfold RD at h⊢;obtain⟨a,vs,e,q,r⟩:=h;exact⟨a,vs,e,q.imp (st.tup _ _) (λz=>⟨z.1,st.sqT z.2⟩),RDs.mono st r⟩
 |.con ds,v,h=>by unfold RD at h⊢;obtain⟨a,vs,e,q,r⟩:=h;exact⟨a,vs,e,st.sqF q,RDs.mono st r⟩
 |.ref _,_,h=>h
 |.fn _,_,h=>by unfold RD at h⊢;exact h
theorem RDs.mono{K:Frag}{H H':Hp}(st:Stab H H'):∀{ds:List D} {vs:List V},RDs K H ds vs->RDs K H' ds vs
 |[],_,h=>h
 |d::ds,vs,h=>by unfold RDs at h⊢;obtain⟨v,r,e,h1,h2⟩:=h;exact⟨v,r,e,RD.mono st h1,RDs.mono st h2⟩
end
section
variable{K:Frag}{H H':Hp}
theorem VZ{i:Int}:RD K H (.int i) v↔v=.int i:=by unfold RD;exact Tt
theorem W2{b:Bool}:RD K H (.bl b) v↔v=.bl b:=by unfold RD;exact Tt
theorem W6:RD K H .non v↔v=.non:=by unfold RD;exact Tt
theorem W7{x:Str}:RD K H (.str x) v↔v=.str x:=by unfold RD;exact Tt
theorem W0:RD K H (.ref a) v↔v=.ref a:=by unfold RD;exact Tt
theorem Wb{ds:List D}:RD K H (.tup ds) v↔∃a vs,v=.ref a/\TupR K H ds a vs/\RDs K H ds vs:=by rw[RD]
theorem W8{ds:List D}(h:∃a vs,v=.ref a/\H a=Z (.tup vs)/\RDs K H ds vs):RD K H (.tup ds) v:=Wb.mpr (let⟨a,vs,e,h,r⟩:=h; ⟨a,vs,e,.inl h,r⟩)
theorem W4{ds:List D}(h:RD K H (.tup ds) v):∃a vs,v=.ref a/\SqT K H a vs/\RDs K H ds vs:=let⟨a,vs,e,h,r⟩:=Wb.mp h; ⟨a,vs,e,h.sq,r⟩
theorem Wi{ds:List D}(f:fk ds=F2)(h:RD K H (.tup ds) v):∃a vs,v=.ref a/\H a=Z (.tup vs)/\RDs K H ds vs:=let⟨a,vs,e,h,r⟩:=Wb.mp h; ⟨a,vs,e,h.elim id λz=>(by rw[f]at z;cases z.1),r⟩
theorem W5{ds:List D}:RD K H (.con ds) v↔∃a vs,v=.ref a/\SqF K H a vs/\RDs K H ds vs:=by rw[RD]
theorem RDs.nil_iff:RDs K H [] vs↔vs=[]:=by rw[RDs]
theorem W1{d:D}{ds:List D}:RDs K H (d::ds) vs↔∃v r,vs=v::r/\RD K H d v/\RDs K H ds r:=by rw[RDs]
theorem RDs.nil:RDs K H [] []:=RDs.nil_iff.mpr rfl
theorem RDs.cons{d:D}{ds:List D}{v:V}{vs:List V}(h:RD K H d v)(r:RDs K H ds vs):RDs K H (d::ds) (v::vs):=W1.mpr ⟨v,vs,rfl,h,r⟩
theorem RDs.length:∀{ds:List D} {vs:List V},RDs K H ds vs->vs.length=ds.length
 |[],_,h=>by rw[RDs.nil_iff.mp h];rfl
 |d::ds,_,h=>by obtain⟨v,r,rfl,_,h2⟩:=W1.mp h;simp[RDs.length h2]
theorem RDs.get:∀{ds:List D} {vs:List V} {i:Nat} {d:D},RDs K H ds vs->ds[i]?=Z d->∃v,vs[i]?=Z v/\RD K H d v
 |[],_,_,_,_,e=>by simp at e
 |d::ds,_,0,d',h,e=>by obtain⟨v,r,rfl,h1,h2⟩:=W1.mp h;simp at e;subst e;exact⟨v,rfl,h1⟩
 |d::ds,_,i+1,d',h,e=>by
  obtain⟨v,r,rfl,h1,h2⟩:=W1.mp h;obtain⟨u,j,z⟩:=RDs.get (i:=i) (d:=d') h2 (by simpa using e)
  exact⟨u,by simpa using j,z⟩
theorem RDs.getV{ds:List D}(h:RDs K H ds vs)(e:vs[i]?=Z v):∃d,ds[i]?=Z d/\RD K H d v:=by
 have B:=h.length;have hi:i<vs.length:=(KQ.mp e).1;obtain⟨d,hd⟩:∃d,ds[i]?=Z d:=⟨ds[i]'∅,z0 ∅⟩
 obtain⟨u,j,z⟩:=h.get hd;rw[e]at j;cases j;exact⟨d,hd,z⟩
theorem RDs.append:∀{ds es:List D} {vs us:List V},RDs K H ds vs->RDs K H es us->RDs K H (ds++es) (vs++us)
 |[],_,_,_,h,q=>by rw[RDs.nil_iff.mp h];exact q
 |d::ds,_,_,_,h,q=>by obtain⟨v,r,rfl,h1,h2⟩:=W1.mp h;exact RDs.cons h1 (RDs.append h2 q)
theorem RDs.take:∀{ds:List D} {vs:List V} (n:Nat),RDs K H ds vs->RDs K H (ds.take n) (vs.take n)
 |[],_,n,h=>by rw[RDs.nil_iff.mp h];simp;exact RDs.nil
 |_::_,_,0,h=>by simp;exact RDs.nil
 |d::ds,_,n+1,h=>by obtain⟨v,r,rfl,h1,h2⟩:=W1.mp h;exact RDs.cons h1 (RDs.take n h2)
theorem RDs.drop:∀{ds:List D} {vs:List V} (n:Nat),RDs K H ds vs->RDs K H (ds.drop n) (vs.drop n)
 |[],_,n,h=>by rw[RDs.nil_iff.mp h];simp;exact RDs.nil
 |d::ds,_,0,h=>h
 |d::ds,_,n+1,h=>by obtain⟨v,r,rfl,h1,h2⟩:=W1.mp h;exact RDs.drop n h2
theorem RDs.set:∀{ds:List D} {vs:List V} (n:Nat) {d:D} {v:V},RD K H d v->RDs K H ds vs->RDs K H (ds.set n d) (vs.set n v)
 |[],_,n,_,_,_,h=>by rw[RDs.nil_iff.mp h];exact RDs.nil
 |d::ds,_,0,_,_,q,h=>by obtain⟨v,r,rfl,h1,h2⟩:=W1.mp h;exact RDs.cons q h2
 |d::ds,_,n+1,_,_,q,h=>by obtain⟨v,r,rfl,h1,h2⟩:=W1.mp h;exact RDs.cons h1 (RDs.set n q h2)
theorem RDs.reverse{ds:List D}(h:RDs K H ds vs):RDs K H ds.reverse vs.reverse:=by
 induction ds generalizing vs with
 |nil=>rw[RDs.nil_iff.mp h];exact RDs.nil
 |cons d ds ih=>obtain⟨v,r,rfl,h1,h2⟩:=W1.mp h;rw[P5,P5];exact(ih h2).append (RDs.cons h1 RDs.nil)
theorem RDs.rep{ds:List D}(h:RDs K H ds vs):∀k:Nat,RDs K H (z4 k ds).flatten (z4 k vs).flatten
 |0=>RDs.nil
 |k+1=>by rw[Ms,Ms,Nz,Nz];exact h.append (h.rep k)
theorem RDs.ints:∀(ns:List Int),RDs K H (ns.map D.int) (ns.map V.int)
 |[]=>RDs.nil
 |n::ns=>RDs.cons (VZ.mpr rfl) (RDs.ints ns)
end
mutual
noncomputable def D.eqb:D->D->Bool
 |.non,.non=>F2
 |.bl a,.bl b=>a==b
 |.int a,.int b=>decide (a=b)
 |.str a,.str b=>decide (a=b)
 |.tup a,.tup b=>D.eqbs a b
 |.con a,.con b=>D.eqbs a b
 |.ref a,.ref b=>decide (a=b)
 |.fn a,.fn b=>decide (a=b)
 |_,_=>Wj
noncomputable def D.eqbs:List D->List D->Bool
 |[],[]=>F2
 |a::r,b::s=>D.eqb a b&&D.eqbs r s
 |_,_=>Wj
end
mutual
theorem Wh:∀(a b:D),D.eqb a b=F2->a=b
 |.non,b,h=>by cases b<;>first|rfl|cases h
 |.bl a,b,h=>by cases b<;>first|exact congrArg D.bl (eq_of_beq h)|cases h
 |.int a,b,h=>by cases b<;>first|exact congrArg D.int (of_decide_eq_true h)|cases h
 |.str a,b,h=>by cases b<;>first|exact congrArg D.str (of_decide_eq_true h)|cases h
 |.tup a,b,h=>by cases b<;>first|exact congrArg D.tup (Wc a _ h)|cases h
 |.con a,b,h=>by cases b<;>first|exact congrArg D.con (Wc a _ h)|cases h
 |.ref a,b,h=>by cases b<;>first|exact congrArg D.ref (of_decide_eq_true h)|cases h
 |.fn a,b,h=>by cases b<;>first|exact congrArg D.fn (of_decide_eq_true h)|cases h
theorem Wc:∀(a b:List D),D.eqbs a b=F2->a=b
 |[],b,h=>by cases b<;>first|rfl|cases h
 |a::r,b,h=>by
  cases b with
  |nil=>cases h
  |cons b s=>have h:=(p0 _ _).mp h;rw[Wh a b h.1,Wc r s h.2]
end
mutual
theorem Wf:∀(a:D),D.eqb a a=F2
 |.non=>rfl
 |.bl a=>beq_self_eq_true a
 |.int _=>decide_eq_true rfl
 |.str _=>decide_eq_true rfl
 |.tup a=>W9 a
 |.con a=>W9 a
 |.ref _=>decide_eq_true rfl
 |.fn _=>decide_eq_true rfl
theorem W9:∀(a:List D),D.eqbs a a=F2
 |[]=>rfl
 |a::r=>(p0 _ _).mpr ⟨Wf a,W9 r⟩
end
noncomputable instance:DecidableEq D:=λa b=>if h:D.eqb a b=F2 then isTrue (Wh a b h)else isFalse λe=>h (by rw[e];exact Wf b)
noncomputable def RKey:D->Key->Prop
 |.int i,k=>k=.inl i
 |.str x,k=>k=.inr x
 |_,_=>False
noncomputable def RKeys:D->List Key->Prop
 |.tup ds,ks=>Me RKey ds ks
 |_,_=>False
noncomputable def dget(kvs:List (D×D))(k:D):Option D:=(kvs.find? λp=>decide (p.1=k)).map (·.2)
noncomputable def eY(kvs:List (D×D))(k v:D):List (D×D):=if(kvs.any λp=>decide (p.1=k))=F2 then kvs.map (λp=>if p.1=k then(p.1,v)else p)else kvs++[(k,v)]
noncomputable def fT:D->Bool
 |.int _=>F2
 |.str _=>F2
 |_=>Wj
noncomputable def ee:D->Bool
 |.tup ds=>ds.all fT&&fk ds
 |_=>Wj
noncomputable def eJ(t:Bool)(k:D):Bool:=if t then ee k else fT k
theorem pK{k:D}(h:fT k=F2):∃q,RKey k q:=by cases k<;>first|(simp[fT]at h;done)|exact⟨_,rfl⟩
theorem sd:∀{ds:List D},ds.all fT=F2->∃ks,Me RKey ds ks
 |[],_=>⟨[],.nil⟩
 |d::ds,h=>by simp only[Nk,p0]at h;obtain⟨k,j⟩:=pK h.1;obtain⟨ks,hs⟩:=sd h.2;exact⟨k::ks,.cons j hs⟩
theorem se{k:D}(h:ee k=F2):∃q,RKeys k q:=by cases k<;>first|(simp[ee]at h;done)|exact sd (QI.mp h).1
theorem sg{ds:List D}(h:ee (.tup ds)=F2):fk ds=F2:=(QI.mp h).2
noncomputable def RO(K:Frag)(H:Hp)(a:Wk):O->Prop
 |.lst ds=>∃vs,H a=Z (.lst vs)/\RDs K H ds vs
 |.dct Wj kvs=>∃ps,H a=Z (.dK ps)/\Me (λ(p:D×D) (q:Key×V)=>RKey p.1 q.1/\RD K H p.2 q.2) kvs ps
 |.dct F2 kvs=>∃ps,H a=Z (.dT ps)/\Me (λ(p:D×D) (q:List Key×V)=>RKeys p.1 q.1/\RD K H p.2 q.2) kvs ps
 |.fdc kvs=>∃o ps,H a=Z (.frz o (.dT ps))/\Me (λ(p:D×D) (q:List Key×V)=>RKeys p.1 q.1/\RD K H p.2 q.2) kvs ps
 |.dcn kvs=>∃xs,H a=Z (.ext (AM a xs))/\Me (λ(p:NK×D) (q:NK×Wk×h8)=>p.1=q.1/\Kt H q.1 q.2.1/\∃v,RelV v q.2.2/\RD K H p.2 v) kvs xs
 |.fdn kvs=>∃o xs,H a=Z (.frz o (.ext (AM a xs)))/\Me (λ(p:NK×D) (q:NK×Wk×h8)=>p.1=q.1/\Kt H q.1 q.2.1/\∃v,RelV v q.2.2/\RD K H p.2 v) kvs xs
 |.tab pos q=>pJ H a pos q
def RM(K:Frag)(M:Mem)(H:Hp):Prop:=∀a o,M a=Z o->RO K H a o
def RS(K:Frag)(H:Hp)(σ:St)(ρ:aw):Prop:=σ.length=ρ.length/\∀(i:Nat) (d:D),ρ[i]?=Z (Z d)->∃v,σ[i]?=Z (Z v)/\RD K H d v
structure Ext(M:Mem)(H:Hp)(M':Mem)(H':Hp):Prop where
 kp:∀a o,fz (M a)=F2->H a=Z o->H' a=Z o
 nw:∀a o,fz (M a)=F2->H a=Z o->M' a=M a
section
variable{K:Frag}{M M' M'':Mem}{H H' H'':Hp}
theorem Ext.keep(x:Ext M H M' H')(a:Wk)(o:HO)(n:M a=Y)(e:H a=Z o):H' a=Z o:=x.kp a o (by rw[n];rfl) e
theorem Ext.new(x:Ext M H M' H')(a:Wk)(o:HO)(n:M a=Y)(e:H a=Z o):M' a=Y:=(x.nw a o (by rw[n];rfl) e).trans n
theorem Ext.refl:Ext M H M H:=⟨λ_ _ _ h=>h,λ_ _ _ _=>rfl⟩
theorem Ext.trans(a:Ext M H M' H')(b:Ext M' H' M'' H''):Ext M H M'' H'':=⟨λc o n h=>b.kp c o (by rw[a.nw c o n h];exact n) (a.kp c o n h),λc o n h=>(b.nw c o (by rw[a.nw c o n h];exact n) (a.kp c o n h)).trans (a.nw c o n h)⟩
theorem RM.mut(r:RM K M H){o:O}(h:M a=Z o):∃ho,H a=Z ho/\(∀xs,ho≠.tup xs)/\(fz (Z o)=Wj->∀ob u,ho≠.frz ob u):=by
 have q:=r a o h
 cases o with
 |lst ds=>obtain⟨vs,e,_⟩:=q;exact⟨_,e,λ_ z=>(by cases z),λ_ _ _ z=>(by cases z)⟩
 |dct t kvs=>
  cases t with
  |false=>obtain⟨ps,e,_⟩:=q;exact⟨_,e,λ_ z=>(by cases z),λ_ _ _ z=>(by cases z)⟩
  |true=>obtain⟨ps,e,_⟩:=q;exact⟨_,e,λ_ z=>(by cases z),λ_ _ _ z=>(by cases z)⟩
 |fdc kvs=>obtain⟨ob,ps,e,_⟩:=q;exact⟨_,e,λ_ z=>(by cases z),λz=>(by cases z)⟩
 |fdn kvs=>obtain⟨ob,ps,e,_⟩:=q;exact⟨_,e,λ_ z=>(by cases z),λz=>(by cases z)⟩
 |dcn kvs=>obtain⟨xs,e,_⟩:=q;exact⟨_,e,λ_ z=>(by cases z),λ_ _ _ z=>(by cases z)⟩
 |tab pos u=>obtain⟨ps,e,_⟩:=q;exact⟨_,e,λ_ z=>(by cases z),λ_ _ _ z=>(by cases z)⟩
theorem RM.fzT(r:RM K M H)(e:H a=Z (.tup xs)):M a=Y:=by
 cases q:M a with
 |none=>rfl
 |some o=>obtain⟨ho,j,z,_⟩:=r.mut q;rw[e]at j;cases j;exact absurd rfl (z xs)
theorem RM.fzF(r:RM K M H){ob:Obj}{u:HO}(e:H a=Z (.frz ob u)):fz (M a)=F2:=by
 cases q:M a with
 |none=>rfl
 |some o=>
  obtain⟨ho,j,_,B⟩:=r.mut q;rw[e]at j;cases j
  cases z:fz (Z o)with
  |true=>rfl
  |false=>exact absurd rfl (B z ob u)
theorem RM.out(r:RM K M H)(h:H a=Y):M a=Y:=by
 cases e:M a with
 |none=>rfl
 |some o=>obtain⟨ho,q,_⟩:=r.mut e;rw[h]at q;cases q
theorem Ext.stab(r:RM K M H)(x:Ext M H M' H'):Stab H H' where
 tup:=λa xs e=>x.keep a _ (r.fzT e) e
 frz:=λa o u e=>x.kp a _ (r.fzF e) e
theorem RS.mono(st:Stab H H'){ρ:aw}(h:RS K H σ ρ):RS K H' σ ρ:=⟨h.1,λi d e=>let⟨v,q,r⟩:=h.2 i d e; ⟨v,q,r.mono st⟩⟩
theorem RS.set{ρ:aw}(h:RS K H σ ρ)(i:Nat){d:D}(r:RD K H d v):RS K H (σ.set i (Z v)) (ρ.set i (Z d)):=by
 refine⟨by simp[h.1],λj e q=>?_⟩
 by_cases hij:i=j
 ·subst hij;have hi:i<ρ.length:=by
   have:=(KQ.mp q).1;simpa using this
  rw[NR hi]at q
  cases q
  exact⟨v,by rw[NR (by rw[h.1];exact hi)],r⟩
 ·rw[P7 hij]at q⊢;exact h.2 j e q
noncomputable def u6(fr:List (Option Nat))(ρ:aw):aw:=fr.map λo=>o.bind λj=>(ρ[j]?).join
theorem RS.inh{ρ:aw}(h:RS K H σ ρ)(fr:List (Option Nat)):RS K H (inh fr σ) (u6 fr ρ):=by
 refine⟨by simp[L2.inh,u6],λi d e=>?_⟩
 unfold u6 at e;unfold L2.inh;rw[KL]at e⊢
 cases q:fr[i]? with
 |none=>rw[q]at e;cases e
 |some o=>
  rw[q]at e
  cases o with
  |none=>cases e
  |some j=>
   have e':Z ((ρ[j]?).join)=Z (Z d):=e
   cases q':ρ[j]? with
   |none=>rw[q']at e';cases e'
   |some w=>
    rw[q']at e'
    cases e'
    obtain⟨v,v1,v2⟩:=h.2 j d q';exact⟨v,by simp[v1],v2⟩
theorem RO.mono(st:Stab H H'){o:O}(h:RO K H a o)(e:∀ho,H a=Z ho->H' a=Z ho):RO K H' a o:=by
 cases o with
 |lst ds=>obtain⟨vs,q,r⟩:=h;exact⟨vs,e _ q,r.mono st⟩
 |dct t kvs=>
  cases t with
  |false=>obtain⟨ps,q,r⟩:=h;exact⟨ps,e _ q,W3 r λ_ _ z=>⟨z.1,z.2.mono st⟩⟩
  |true=>obtain⟨ps,q,r⟩:=h;exact⟨ps,e _ q,W3 r λ_ _ z=>⟨z.1,z.2.mono st⟩⟩
 |fdc kvs=>obtain⟨ob,ps,q,r⟩:=h;exact⟨ob,ps,e _ q,W3 r λ_ _ z=>⟨z.1,z.2.mono st⟩⟩
 |fdn kvs=>obtain⟨ob,xs,q,r⟩:=h;exact⟨ob,xs,e _ q,W3 r λ_ _ j=>(by obtain⟨B,F,v,G,J⟩:=j;exact⟨B,F.keeps st.tup,v,G,J.mono st⟩)⟩
 |dcn kvs=>obtain⟨xs,q,r⟩:=h;exact⟨xs,e _ q,W3 r λ_ _ j=>(by obtain⟨B,F,v,G,J⟩:=j;exact⟨B,F.keeps st.tup,v,G,J.mono st⟩)⟩
 |tab pos u=>obtain⟨ps,L,U⟩:=h;exact⟨ps,e _ L,U.imp_right λj=>(by obtain⟨c',oc,vs,t,B,F,G⟩:=j;exact⟨c',oc,vs,t,B,st.frz _ _ _ F,G⟩)⟩
theorem RM.new(r:RM K M H)(n:H p=Y):RM K M (upd H p ho):=λa o e=>by
 have ne:a≠p:=λz=>by subst z;obtain⟨_,q,_⟩:=r.mut e;rw[n]at q;cases q
 refine(r a o e).mono ⟨λb xs q=>?_,λb o u q=>?_⟩ λj q=>by rw[am ne];exact q
 ·rw[am (b8 q n)];exact q
 ·rw[am (b8 q n)];exact q
theorem Wa(n:H p=Y):Ext M H M (upd H p ho):=⟨λa o _ e=>by rw[am (b8 e n)];exact e,λ_ _ _ _=>rfl⟩
theorem RM.lay{o:O}(r:RM K M H)(n:H p=Y)(h:RO K (upd H p ho) p o):RM K (ag M p o) (upd H p ho):=λa o' e=>by
 by_cases z:a=p
 ·subst z;rw[aa]at e;cases e;exact h
 ·rw[aE z]at e;exact r.new n a o' e
theorem Ext.lay{o:O}(n:H p=Y):Ext M H (ag M p o) (upd H p ho):=⟨λa u _ e=>by rw[am (b8 e n)];exact e,λa u m e=>by rw[aE (b8 e n)]⟩
theorem RM.put{o o0:O}(r:RM K M H)(m:M p=Z o0)(h:RO K (upd H p ho) p o)(w:fz (Z o0)=Wj:=by rfl):RM K (ag M p o) (upd H p ho):=λa o' e=>by
 by_cases z:a=p
 ·subst z;rw[aa]at e;cases e;exact h
 ·rw[aE z]at e;obtain⟨J,j,B,F⟩:=r.mut m;refine(r a o' e).mono ⟨λb xs q=>?_,λb o u q=>?_⟩ λG q=>by rw[am z];exact q
  ·rw[am (λz=>by subst z;rw[j]at q;cases q;exact B xs rfl)];exact q
  ·rw[am (λz=>by subst z;rw[j]at q;cases q;exact F w o u rfl)];exact q
theorem Ext.put{o o0:O}(m:M p=Z o0)(w:fz (Z o0)=Wj:=by rfl):Ext M H (ag M p o) (upd H p ho):=⟨λa u n e=>by rw[am (λz=>by subst z;rw[m,w]at n;cases n)];exact e,λa u n e=>aE (λz=>by subst z;rw[m,w]at n;cases n)⟩
theorem RM.stabPut{o0:O}(r:RM K M H)(m:M p=Z o0)(w:fz (Z o0)=Wj:=by rfl):Stab H (upd H p ho):=(Ext.put (o:=o0) (ho:=ho) m w).stab r
end
noncomputable abbrev QD:=D->Mem->Prop
noncomputable abbrev TEd:=aw->Mem->QD->Prop
noncomputable abbrev TTd:=aw->Mem->(Bool->Mem->Prop)->Prop
noncomputable abbrev TAd:=aw->Mem->(List D->Mem->Prop)->Prop
structure bX where
 nx:aw->Mem->Prop
 rt:QD
 bk:aw->Mem->Prop:=λ_ _=>False
 ct:aw->Mem->Prop:=λ_ _=>False
noncomputable abbrev TSd:=bX->aw->Mem->Prop
def ad(T:TEd):Prop:=∀ρ M Q Q',(∀d M',Q d M'->Q' d M')->T ρ M Q->T ρ M Q'
def aI(T:TTd):Prop:=∀ρ M Q Q',(∀d M',Q d M'->Q' d M')->T ρ M Q->T ρ M Q'
def aL(T:TAd):Prop:=∀ρ M Q Q',(∀d M',Q d M'->Q' d M')->T ρ M Q->T ρ M Q'
structure LeD(a b:bX):Prop where
 nx:∀ρ M,a.nx ρ M->b.nx ρ M
 rt:∀d M,a.rt d M->b.rt d M
 bk:∀ρ M,a.bk ρ M->b.bk ρ M
 ct:∀ρ M,a.ct ρ M->b.ct ρ M
def aJ(T:TSd):Prop:=∀a b ρ M,LeD a b->T a ρ M->T b ρ M
noncomputable def KE'(K:Frag)(M:Mem)(H:Hp)(Q:VK):QD:=λd M'=>∀v H',Ext M H M' H'->RM K M' H'->RD K H' d v->Q v H'
noncomputable def KT'(K:Frag)(M:Mem)(H:Hp)(Q:Bool->Hp->Prop):Bool->Mem->Prop:=λb M'=>∀H',Ext M H M' H'->RM K M' H'->Q b H'
noncomputable def KA'(K:Frag)(M:Mem)(H:Hp)(Q:List V->Hp->Prop):List D->Mem->Prop:=λds M'=>∀vs H',Ext M H M' H'->RM K M' H'->RDs K H' ds vs->Q vs H'
noncomputable def lE(K:Frag)(T:TEd):TE:=λσ H Q=>∃ρ M,RS K H σ ρ/\RM K M H/\T ρ M (KE' K M H Q)
noncomputable def lT(K:Frag)(T:TTd):TT:=λσ H Q=>∃ρ M,RS K H σ ρ/\RM K M H/\T ρ M (KT' K M H Q)
noncomputable def lA(K:Frag)(T:TAd):TA:=λσ H Q=>∃ρ M,RS K H σ ρ/\RM K M H/\T ρ M (KA' K M H Q)
structure Link(K:Frag)(M:Mem)(H:Hp)(a:bX)(b:bK):Prop where
 nx:∀ρ M' σ H',Ext M H M' H'->RS K H' σ ρ->RM K M' H'->a.nx ρ M'->b.nx σ H'
 rt:∀d M' v H',Ext M H M' H'->RM K M' H'->RD K H' d v->a.rt d M'->b.rt v H'
 bk:∀ρ M' σ H',Ext M H M' H'->RS K H' σ ρ->RM K M' H'->a.bk ρ M'->b.bk σ H'
 ct:∀ρ M' σ H',Ext M H M' H'->RS K H' σ ρ->RM K M' H'->a.ct ρ M'->b.ct σ H'
noncomputable def lS(K:Frag)(T:TSd):TS:=λD σ H=>∃ρ M A,RS K H σ ρ/\RM K M H/\Link K M H A D/\T A ρ M
theorem Link.ext{M M':Mem}{a:bX}{b:bK}(l:Link K M H a b)(x:Ext M H M' H'):Link K M' H' a b:=⟨λρ M2 σ H2 y=>l.nx ρ M2 σ H2 (x.trans y),λd M2 v H2 y=>l.rt d M2 v H2 (x.trans y),λρ M2 σ H2 y=>l.bk ρ M2 σ H2 (x.trans y),λρ M2 σ H2 y=>l.ct ρ M2 σ H2 (x.trans y)⟩
theorem PE.imp{t t':TE}(h:PE X e t)(i:∀σ H Q,t' σ H Q->t σ H Q):PE X e t':=λpins s σ H Q I q=>h pins s σ H Q I (i _ _ _ q)
theorem PT.imp{t t':TT}(h:PT X e t)(i:∀σ H Q,t' σ H Q->t σ H Q):PT X e t':=λpins s σ H Q I q=>h pins s σ H Q I (i _ _ _ q)
theorem PW.imp{t t':TT}(h:PW X e t)(i:∀σ H Q,t' σ H Q->t σ H Q):PW X e t':=λwh pins s σ H Q I q=>h wh pins s σ H Q I (i _ _ _ q)
theorem PA.imp{e:List Expr}{t t':TA}(h:PA X e t)(i:∀σ H Q,t' σ H Q->t σ H Q):PA X e t':=λp pins s σ H Q I q=>h p pins s σ H Q I (i _ _ _ q)
theorem PS.imp{e:Stmt}{t t':TS}(h:PS X e t)(i:∀D σ H,t' D σ H->t D σ H):PS X e t':=λpins s σ H D I q=>h pins s σ H D I (i _ _ _ q)
theorem PSs.imp{e:List Stmt}{t t':TS}(h:PSs X e t)(i:∀D σ H,t' D σ H->t D σ H):PSs X e t':=λpins s σ H D I q=>h pins s σ H D I (i _ _ _ q)
end
variable{M M':Mem}{d:D}{Q:VK}{ta:TEd}{tr:TAd}{j:Nat}{es:List Expr}
section
theorem KE'.ext{M2:Mem}{H2:Hp}(x:Ext M H M2 H2)(h:KE' K M H Q d M'):KE' K M2 H2 Q d M':=λv H' y=>h v H' (x.trans y)
theorem KT'.ext{M2:Mem}{H2:Hp}{Q:Bool->Hp->Prop}{d:Bool}(x:Ext M H M2 H2)(h:KT' K M H Q d M'):KT' K M2 H2 Q d M':=λH' y=>h H' (x.trans y)
noncomputable abbrev R2d:=D->D->Mem->QD->Prop
noncomputable abbrev R1d:=D->Mem->QD->Prop
noncomputable abbrev RAd:=List D->Mem->QD->Prop
def aG(r:R2d):Prop:=∀x y M Q Q',(∀d M',Q d M'->Q' d M')->r x y M Q->r x y M Q'
def u7(r:R1d):Prop:=∀x M Q Q',(∀d M',Q d M'->Q' d M')->r x M Q->r x M Q'
def aM(r:RAd):Prop:=∀x M Q Q',(∀d M',Q d M'->Q' d M')->r x M Q->r x M Q'
noncomputable def l2(K:Frag)(rd:R2d):R2:=λv u H Q=>∃x y M,RM K M H/\RD K H x v/\RD K H y u/\rd x y M (KE' K M H Q)
noncomputable def l1(K:Frag)(rd:R1d):V->Hp->VK->Prop:=λv H Q=>∃x M,RM K M H/\RD K H x v/\rd x M (KE' K M H Q)
noncomputable def lR(K:Frag)(rd:RAd):List V->Hp->VK->Prop:=λvs H Q=>∃ds M,RM K M H/\RDs K H ds vs/\rd ds M (KE' K M H Q)
noncomputable def lMt(K:Frag)(rd:D->List D->Mem->QD->Prop):V->List V->Hp->VK->Prop:=λv vs H Q=>∃x ds M,RM K M H/\RD K H x v/\RDs K H ds vs/\rd x ds M (KE' K M H Q)
noncomputable def dD(i:Nat):TEd:=λρ M Q=>∃d,ρ[i]?=Z (Z d)/\Q d M
noncomputable def wC(d:D):TEd:=λ_ M Q=>Q d M
noncomputable def wOp(rd:R2d)(ta tb:TEd):TEd:=λρ M Q=>ta ρ M λx M1=>tb ρ M1 λy M2=>rd x y M2 Q
noncomputable def wUn(rd:R1d)(ta:TEd):TEd:=λρ M Q=>ta ρ M λx M1=>rd x M1 Q
noncomputable def aW:TAd:=λ_ M Q=>Q [] M
noncomputable def au(ta:TEd)(tr:TAd):TAd:=λρ M Q=>ta ρ M λx M1=>tr ρ M1 λxs M2=>Q (x::xs) M2
noncomputable def wAr(rd:RAd)(t:TAd):TEd:=λρ M Q=>t ρ M λds M1=>rd ds M1 Q
theorem yP:ad (dD i):=λ_ _ _ _ h j=>(by obtain⟨d,e,q⟩:=j;exact⟨d,e,h _ _ q⟩)
theorem pM:ad (wC d):=λ_ _ _ _ h q=>h _ _ q
theorem fu{rd:R2d}{tb:TEd}(j:aG rd)(z:ad ta)(B:ad tb):ad (wOp rd ta tb):=λρ M Q Q' h q=>z _ _ _ _ (λx J F=>B _ _ _ _ (λy M2 G=>j _ _ _ _ _ h G) F) q
theorem BH{rd:R1d}(j:u7 rd)(z:ad ta):ad (wUn rd ta):=λρ M Q Q' h q=>z _ _ _ _ (λx F B=>j _ _ _ _ h B) q
theorem aq:aL aW:=λ_ _ _ _ h q=>h _ _ q
theorem aj(j:ad ta)(z:aL tr):aL (au ta tr):=λρ M Q Q' h q=>j _ _ _ _ (λx G B=>z _ _ _ _ (λxs M2 F=>h _ _ F) B) q
theorem fA{rd:RAd}{t:TAd}(j:aM rd)(z:aL t):ad (wAr rd t):=λρ M Q Q' h q=>z _ _ _ _ (λds F B=>j _ _ _ _ h B) q
section
variable{X:Cx}{a b:Expr}{ta tb:TEd}{pos:Pos}
theorem E7{x:Str}(B:X.N[i]?=Z x)(j:Vis X.env.scope x)(hd:(x==("__debug__":Str))=Wj)(z:(x==("__classdict__":Str))=Wj):PE X (.Name x pos) (lE X.K (dD i)):=by refine PE.imp (oW B j hd z) λσ H Q h=>?_;obtain⟨ρ,M,rs,rm,d,e,q⟩:=h;obtain⟨v,j,rd⟩:=rs.2 i d e;exact⟨v,j,q v H Ext.refl rm rd⟩
theorem E8{i:Int}:PE X (.Constant (.int i) j pos) (lE X.K (wC (.int i))):=PE.imp Ds λσ H Q g9=>(by obtain⟨ρ,M,rs,rm,q⟩:=g9;exact q _ H Ext.refl rm (VZ.mpr rfl))
theorem G1{i:Bool}:PE X (.Constant (.bool i) j pos) (lE X.K (wC (.bl i))):=PE.imp Fy λσ H Q g9=>(by obtain⟨ρ,M,rs,rm,q⟩:=g9;exact q _ H Ext.refl rm (W2.mpr rfl))
theorem E9:PE X (.Constant .none j pos) (lE X.K (wC .non)):=PE.imp Dt λσ H Q g9=>(by obtain⟨ρ,M,rs,rm,q⟩:=g9;exact q _ H Ext.refl rm (W6.mpr rfl))
theorem ir{rd:R2d}(L:aG rd)(ma:ad ta)(mb:ad tb)(σ:St)(H:Hp)(Q:VK)(h:lE K (wOp rd ta tb) σ H Q):tOp (l2 K rd) (lE K ta) (lE K tb) σ H Q:=by obtain⟨ρ,M,rs,rm,q⟩:=h;refine⟨ρ,M,rs,rm,ma _ _ _ _ (λx O U v H1 G j z=>?_) q⟩;refine⟨ρ,O,rs.mono (G.stab rm),j,mb _ _ _ _ (λy M2 Fn u H2 J B F=>?_) U⟩;exact⟨x,y,M2,B,z.mono (J.stab j),F,L _ _ _ _ _ (λd M' k=>k.ext (G.trans J)) Fn⟩
theorem G2{op:Pa}{rd:R2d}(ho:OpR X (MR op) (l2 X.K rd))(j:aG rd)(ma:ad ta)(mb:ad tb)(z:PE X a (lE X.K ta))(B:PE X b (lE X.K tb)):PE X (.BinOp a op b pos) (lE X.K (wOp rd ta tb)):=PE.imp (FJ ho z B) (ir j ma mb)
theorem Ea{op:CmpOp}{rd:R2d}(ho:OpR X (Na op) (l2 X.K rd))(j:aG rd)(ma:ad ta)(mb:ad tb)(z:PE X a (lE X.K ta))(B:PE X b (lE X.K tb))(hm:PH op b=Wj):PE X (.Compare a [op] [b] pos) (lE X.K (wOp rd ta tb)):=PE.imp (Bo ho z B hm) (ir j ma mb)
noncomputable def fU(t:TEd):TTd:=λρ M Q=>t ρ M λx M1=>∃k,x=.bl k/\Q k M1
theorem yQ{t:TEd}(h:ad t):aI (fU t):=λρ M Q Q' i q=>h _ _ _ _ (λx B j=>(by obtain⟨k,e,z⟩:=j;exact⟨k,e,i _ _ z⟩)) q
theorem yR{t:TEd}(m:ad t)(σ:St)(H:Hp)(Q:Bool->Hp->Prop)(h:lT K (fU t) σ H Q):AD (lE K t) σ H Q:=by obtain⟨ρ,M,rs,rm,q⟩:=h;refine⟨ρ,M,rs,rm,m _ _ _ _ (λx G g9 v H1 F j z=>?_) q⟩;obtain⟨k,e,B⟩:=g9;subst e;exact⟨k,W2.mp z,B H1 F j⟩
theorem Eb{op:CmpOp}{rd:R2d}(ho:OpR X (Na op) (l2 X.K rd))(j:aG rd)(ma:ad ta)(mb:ad tb)(z:PE X a (lE X.K ta))(B:PE X b (lE X.K tb))(hm:PH op b=Wj):
 PT X (.Compare a [op] [b] pos) (lT X.K (fU (wOp rd ta tb))):=
 PT.imp (Bp ho z B hm) λσ H Q h=>by have h1:=yR (fu j ma mb) σ H Q h;exact ir j ma mb σ H _ h1
theorem G3{op:UnaryOp}{rd:R1d}(ho:UnR X (unaryOp op) (l1 X.K rd))(B:u7 rd)(ma:ad ta)(F:PE X a (lE X.K ta)):PE X (.UnaryOp op a pos) (lE X.K (wUn rd ta)):=PE.imp (FK ho F) λσ H Q g9=>(by obtain⟨ρ,M,rs,rm,q⟩:=g9;exact⟨ρ,M,rs,rm,ma _ _ _ _ (λx G J v H1 L j z=>⟨x,G,j,z,B _ _ _ _ (λd M' k=>k.ext L) J⟩) q⟩)
theorem G4{rd:R2d}(ho:IxR X (l2 X.K rd))(j:aG rd)(ma:ad ta)(mb:ad tb)(z:PE X a (lE X.K ta))(B:PE X b (lE X.K tb))(hs:lf b):PE X (.Subscript a b pos) (lE X.K (wOp rd ta tb)):=PE.imp (FQ ho z B hs) (ir j ma mb)
theorem cC:PA X [] (lA X.K aW):=PA.imp p8 λσ H Q g9=>(by obtain⟨ρ,M,rs,rm,q⟩:=g9;exact q _ H Ext.refl rm RDs.nil)
theorem mN(ma:ad ta)(mr:aL tr)(σ:St)(H:Hp)(Q:List V->Hp->Prop)(h:lA K (au ta tr) σ H Q):tT (lE K ta) (lA K tr) σ H Q:=by obtain⟨ρ,M,rs,rm,q⟩:=h;refine⟨ρ,M,rs,rm,ma _ _ _ _ (λx L O v H1 G j z=>?_) q⟩;refine⟨ρ,L,rs.mono (G.stab rm),j,mr _ _ _ _ (λxs M2 U vs H2 J B F=>?_) O⟩;exact U (v::vs) H2 (G.trans J) B (RDs.cons (z.mono (J.stab j)) F)
theorem aU(ma:ad ta)(mr:aL tr)(j:PE X e (lE X.K ta))(z:PA X es (lA X.K tr))(hs:KU (e::es) X.env=(Wj,eval e X.env)::KU es X.env):PA X (e::es) (lA X.K (au ta tr)):=PA.imp (ip j z hs) (mN ma mr)
theorem cq{rd:RAd}{t:TAd}(B:aM rd)(mt:aL t)(σ:St)(H:Hp)(Q:VK)(h:lE K (wAr rd t) σ H Q):tCB (lR K rd) (lA K t) σ H Q:=by obtain⟨ρ,M,rs,rm,q⟩:=h;exact⟨ρ,M,rs,rm,mt _ _ _ _ (λds F G vs H1 J j z=>⟨ds,F,j,z,B _ _ _ _ (λd M' k=>k.ext J) G⟩) q⟩
noncomputable def u8:RAd:=λds M Q=>ds.length<=KG/\Q (.tup ds) M
noncomputable def u9:RAd:=λds M Q=>ds.length<=KG/\∀p,M p=Y->Q (.ref p) (ag M p (.lst ds))
theorem w8:aM u8:=λ_ _ _ _ h j=>(by obtain⟨z,q⟩:=j;exact⟨z,h _ _ q⟩)
theorem w9:aM u9:=λ_ _ _ _ h j=>(by obtain⟨z,q⟩:=j;exact⟨z,λp n=>h _ _ (q p n)⟩)
theorem dS{ds:List D}(rm:RM K M H)(rd:RDs K H ds vs)(q:KE' K M H Q (.tup ds) M)(n:H p=Y):Q (.ref p) (upd H p (.tup vs)):=by have x:Ext M H M (upd H p (.tup vs)):=Wa n;exact q (.ref p) _ x (rm.new n) (W8 ⟨p,vs,rfl,aD,rd.mono (x.stab rm)⟩)
theorem bV{ds:List D}(rm:RM K M H)(rd:RDs K H ds vs)(q:∀p,M p=Y->KE' K M H Q (.ref p) (ag M p (.lst ds)))(n:H p=Y):Q (.ref p) (upd H p (.lst vs)):=by have x:Ext M H (ag M p (.lst ds)) (upd H p (.lst vs)):=Ext.lay n;have x0:Ext M H M (upd H p (.lst vs)):=Wa n;exact q p (rm.out n) (.ref p) _ x (rm.lay n ⟨vs,aD,rd.mono (x0.stab rm)⟩) (W0.mpr rfl)
theorem Ec{t:TAd}{k:Nat}(mt:aL t)(h:PA X es (lA X.K t)):PE X (.Tuple es k pos) (lE X.K (wAr u8 t)):=PE.imp (DR h) λσ H Q B=>(by obtain⟨ρ,M,rs,rm,q⟩:=B;exact⟨ρ,M,rs,rm,mt _ _ _ _ (λds L B vs H1 G F j=>(by obtain⟨z,J⟩:=B;exact⟨by rw[j.length];exact z,λp n=>dS F j (J.ext G) n⟩)) q⟩)
theorem Ed{t:TAd}(mt:aL t)(h:PA X es (lA X.K t)):PE X (.List es pos) (lE X.K (wAr u9 t)):=PE.imp (DS h) λσ H Q B=>(by obtain⟨ρ,M,rs,rm,q⟩:=B;exact⟨ρ,M,rs,rm,mt _ _ _ _ (λds L B vs H1 G F j=>(by obtain⟨z,J⟩:=B;exact⟨by rw[j.length];exact z,λp n=>bV F j (λp' n'=>(J p' n').ext G) n⟩)) q⟩)
end
end
end Mi
variable{e:Expr}{p2:Pos}
section
section
variable{X:Cx}
theorem ef:∀{ns:List Int} {ys:List h8},CarriedAll ys (ns.map PyData.int)->Vals (ns.map V.int) ys
 |[],ys,h=>by cases h;exact .nil
 |n::ns,ys,h=>by
  rw[KI]at h
  cases h with
  |cons h1 h2=>
   refine .cons ?_ (ef h2)
   cases h1
   exact⟨_,rfl⟩
theorem BI{j:Pos}(O:X.calm=F2)(he:PE X e te)(U:Gl X "list")(hm:X.mg "list"=Y)(G:Gl X "range")(J:X.mg "range"=Y)(hs:KU [e] X.env=[(Wj,eval e X.env)]):
 PE X (.Call (.Name "list" p) [.Call (.Name "range" p2) [e] [] j] [] pos) (λσ H Q=>te σ H λx H1=>∃n:Nat,x=.int (n:Nat)/\n<=1000000/\∀q,H1 q=Y->Q (.ref q) (upd H1 q (.lst ((q7 n).map λi=>V.int (i:Nat))))):=by
 intro pins s σ H Q I h;refine LO (bL I U hm (u:=.type "list") (by decide +kernel) ?_ (by decide) (by decide))
 refine Ln ?_ rfl rfl;refine N3 ?_;refine LO (bL I G J (u:=.type "range") U1 ?_ (by decide) (by decide))
 refine Ln ?_ (by rw[hs];rfl) rfl
 rw[hs];refine N3 (thn (he pins s σ H _ I h) λu s1 Fn=>?_);obtain⟨x,H1,B,fv,q1⟩:=Fn;obtain⟨n,rfl,hn,q⟩:=q1;obtain⟨t,rfl⟩:=fv;refine Ny ?_;refine call_range_1 (Ny ?_);have I2:Inv X pins σ H1 {s1 with heap:=s1.heap.push {cls:=.type "range",data:=.fields #[.int 0 s1.toks,.int (n:Nat) t,.int 1 (s1.toks+1)]},toks:=s1.toks+1+1}:=B.kept (t':=s1.toks+1+1) λb ob q=>hQ _ q
 obtain⟨m,F⟩:=I2.fr;have hsz:Nw 0 (n:Nat) 1=((n:Nat):Int):=by
  unfold Nw;rw[if_pos (by decide)]
  by_cases h0:(0:Int)<(n:Nat)
  ·rw[if_pos h0];lia
  ·rw[if_neg h0];lia
 refine list_rangeD (news:=[]) (B.ok.hd O) F (λ_ hp=>by cases hp) (A2 _ rfl) ?_ hsz ∅ λh' tk ys _ _ kp _ _ np car=>?_
 ·unfold Builtin.Range.small;rw[hsz];have f:∀z:Int,0<=z->z<=1000001->R3 z=F2:=fun z h1 h2=>by
   unfold R3;simp only[p0,decide_eq_true_eq];lia
  rw[f 0 ∅ ∅,f (n:Nat) ∅ ∅,f 1 ∅ ∅,if_pos (by decide),f ((n:Nat)+(1-1)) ∅ ∅]
  simp
 ·have L:=ef car;have er:(UU 0 1 n).map V.int=(q7 n).map fun i=>V.int (i:Nat):=by
   unfold UU;rw[LC];exact L8 λi _=>by simp
  rw[er]at L;obtain⟨⟨c',e'⟩,_⟩:=np;have e2:(s1.heap.push {cls:=.type "range",data:=.fields #[.int 0 s1.toks,.int (n:Nat) t,.int 1 (s1.toks+1)]}).objs.size=s1.heap.objs.size+1:=LI ..;have kp':∀b o,s1.heap.get? b=Z o->h'.get? b=Z o:=λb o e=>kp b o (hQ _ e);refine⟨.ref (s1.heap.push {cls:=.type "range",data:=.fields #[.int 0 s1.toks,.int (n:Nat) t,.int 1 (s1.toks+1)]}).objs.size,_,B.laid (t':=tk) (o:=.lst ((q7 n).map λi=>V.int (i:Nat))) kp' (by rw[e2];lia) ?_,rfl,q _ (B.hok.fresh (by rw[e2];lia))⟩
  exact⟨by rw[m1,Ld,A0];lia,ys,c',L,e'⟩
end
namespace Mi
section
variable{X:Cx}
noncomputable def nZ(ta:TEd):TEd:=λρ M Q=>ta ρ M λx M1=>∃n:Nat,x=.int (n:Nat)/\n<=1000000/\∀p,M1 p=Y->Q (.ref p) (ag M1 p (.lst ((q7 n).map λi=>D.int (i:Nat))))
theorem wa{ta:TEd}(h:ad ta):ad (nZ ta):=λρ M Q Q' i q=>h _ _ _ _ (λx B j=>(by obtain⟨n,e,e1,z⟩:=j;exact⟨n,e,e1,λp n=>i _ _ (z p n)⟩)) q
theorem wb{K:Frag}{H:Hp}(n:Nat):RDs K H ((q7 n).map λi=>D.int (i:Nat)) ((q7 n).map λi=>V.int (i:Nat)):=by have:=RDs.ints (K:=K) (H:=H) ((q7 n).map λi=>((i:Nat):Int));rw[LC,LC]at this;exact this
theorem BJ{e:Expr}{ta:TEd}{p p2 pos j:Pos}(m:ad ta)(J:X.calm=F2)(he:PE X e (lE X.K ta))(L:Gl X "list")(hm:X.mg "list"=Y)(B:Gl X "range")(F:X.mg "range"=Y)(hs:KU [e] X.env=[(Wj,eval e X.env)]):
 PE X (.Call (.Name "list" p) [.Call (.Name "range" p2) [e] [] j] [] pos) (lE X.K (nZ ta)):=by
 refine PE.imp (BI J he L hm B F hs) λσ H Q h=>?_;obtain⟨ρ,M,rs,rm,q⟩:=h;refine⟨ρ,M,rs,rm,m _ _ _ _ (λx fv g9 v H1 Fn G rd1=>?_) q⟩;obtain⟨n,e,O,U⟩:=g9;subst e
 cases VZ.mp rd1
 exact⟨n,rfl,O,λp z=>bV G (wb n) (λp' n'=>(U p' n').ext Fn) z⟩
end
end Mi
end
section
theorem jb:fillsNumberSlot (.type "tuple") "mul"=pure Wj:=PyProof.Rows.fillsNumberSlot_seq (id:="tuple.__mul__") (r:=Z (.builtin "tuple.__rmul__")) F.slot_tuple_mul.lookup (by decide +kernel) F.slot_tuple_rmul.lookup (by decide +kernel)
theorem pO:seqRepeat? (.type "tuple")=pure (Z (.builtin "tuple.__mul__")):=by
 unfold seqRepeat?;rw[S8 (T:="tuple") (name:="__mul__") (id:="tuple.__mul__") F.slot_tuple_mul.lookup (by decide +kernel),S8 (T:="tuple") (name:="__rmul__") (id:="tuple.__rmul__") F.slot_tuple_rmul.lookup (by decide +kernel)]
 rfl
theorem lj(a:Int)(t:Tok)(l:Wk)(items:Array h8)(n:Nat)(d:Option Wk)(sl:Array (Option h8)):
 Meets (Mh.«int.__rmul__» ⟨[.int a t,.ref l],[]⟩) (λ_ R s=>s.heap.get? l=Z {cls:=.type "tuple",dict:=d,data:=.seq items n,slots:=sl}/\R (.ok (.ret Value.notImplemented)) s):=
 .of_wp λprog w A R s h=>by obtain⟨j,g,d,tk,os⟩:=s;obtain⟨z,h⟩:=h;wp_walk;exact⟨_,rfl,h⟩
open AutoSeq1 (wpAny_loadPart') in
theorem wc(l:Wk)(items:Array h8)(n:Nat)(dd:Option Wk)(sl:Array (Option h8))(x:Int)(u:Tok)(h1:-(2^63)<=x)(h2:x<2^63)(B:items.size*x.toNat<=KG):
 Meets (Mh.«tuple.__mul__» ⟨[.ref l,.int x u],[]⟩) (λ_ R s=>s.heap.get? l=Z {cls:=.type "tuple",dict:=dd,data:=.seq items n,slots:=sl} /\
  (if items.isEmpty || x==1 then R (.ok (.ret (.ref l))) s else R (.ok (.ret (.ref s.heap.objs.size))) {s with heap:=s.heap.push {cls:=.type "tuple",data:=.seq ((z4 x.toNat items).foldl (· ++ ·) #[])}})):=
 .of_wp λprog w A R s h=>by
  obtain⟨U,g,d,tk,os⟩:=s;obtain⟨j,h⟩:=h;have f1:=AutoSeq1.idx_int;have F:(decide (x < -(2^63)) || decide (x≥2^63))=Wj:=by rw[decide_eq_false ∅,decide_eq_false ∅];rfl
  wp_walk using OS j
  refine OT (decide_eq_false (by rw[F];decide)) ?_
  dsimp only
  by_cases e1:(items.isEmpty || x==1)=F2
  ·rw[if_pos e1]at h
   wp_walk using OS j
   exact⟨_,rfl,h⟩
  ·rw[if_neg e1]at h
   wp_walk using OS j
   simp only[QR,not_or]at e1
   by_cases e2:x<=0
   ·have z:(decide (x<=0) || items.isEmpty)=F2:=by rw[decide_eq_true e2];rfl
    rw[if_pos z];have G:x.toNat=0:=∅
    rw[G]at h
    wp_walk
    exact⟨_,rfl,h⟩
   ·have z:¬(decide (x<=0) || items.isEmpty)=F2:=by simp;exact⟨∅,by simpa using e1.1⟩
    rw[if_neg z];have hx:((items.size:Nat):Int)*x=((items.size*x.toNat:Nat):Int):=by rw[Mp,OB ∅]
    have hs:KG=16777216:=A0;have J:¬((items.size:Nat):Int)*x > (2^63-1) / 8:=by rw[hx];lia
    rw[if_neg J];have L:¬Rg (((items.size:Nat):Int)*x)=F2:=by rw[hx];unfold Rg;intro O;have Fn:=of_decide_eq_true O;lia
    rw[if_neg L]
    wp_walk
    have hsz:((z4 x.toNat items).foldl (· ++ ·) #[]).size<=KG:=by
     have:∀(k:Nat) (a:Array h8),((z4 k items).foldl (· ++ ·) a).size=a.size+items.size*k:=by
      intro k;induction k with
      |zero=>intro a;simp
      |succ k ih=>intro a;rw[Ms,Vn,ih,Array.size_append,Nat.mul_succ];lia
     rw[this];simpa using B
    refine OT (decide_eq_false (VF.mpr hsz)) ?_
    wp_walk
    exact⟨_,rfl,h⟩
end
section
section
variable{X:Cx}
noncomputable def AN(K:Frag):R2:=λx y H Q=>∃l k xs,x=.ref l/\y=.int k/\SqT K H l xs /\ -(2^63)<=k/\k<2^63/\xs.length*k.toNat<=KG /\
 ((xs=[]∨k=1)->Q (.ref l) H)/\(¬(xs=[]∨k=1)->∀p,H p=Y->Q (.ref p) (upd H p (.tup (z4 k.toNat xs).flatten)))
theorem BK:OpR X (MR .Mult) (AN X.K):=by
 intro pins s σ H x y v u Q I rx ry h;obtain⟨l,k,xs,rfl,rfl,G,h1,h2,j,J,L⟩:=h
 cases rx
 obtain⟨t,rfl⟩:=ry;obtain⟨its,r,O,_⟩:=I.tuple G;have Fn:=r.length;obtain⟨⟨cls,dd,dat,sl⟩,e,B,n,hd⟩:=O;dsimp only at B hd;subst B hd;have hlen:its.toArray.size*k.toNat<=KG:=by rw[KJ,<-Fn];exact j
 have f0:∀m:Nat,U9 (λfv x2=>fv++x2) #[] (z4 m its.toArray)=(z4 m its).flatten.toArray:=λm=>by have:=gO its m [];rw[QN]at this;exact this
 refine Rk (T:="tuple") (U:="int") (by decide) ⟨_,e,rfl⟩ (λs'=>Su s' k t) jb Vo QO pO F.slot_int_index.lookup
  (Qn QO (Su s k t) UO (Us _ _) (lj k t l its.toArray n dd sl)
    ⟨e,rfl,⟨_,e,rfl⟩,Qn F.slot_tuple_mul ⟨_,e,rfl⟩ F.entry_tuple_mul (F.args_tuple_mul_2 _ _) (wc l its.toArray n dd sl k t h1 h2 hlen) ⟨e,?_⟩⟩)
 have hi:(its.toArray.isEmpty || k==1)=F2↔(xs=[]∨k=1):=by rw[<-r.nil_iff];simp
 split
 ·next c=>exact⟨.ref l,H,I,rfl,J (hi.mp c)⟩
 ·next c=>rw[f0];refine⟨.ref s.heap.objs.size,_,I.laid (t':=s.toks) (o:=.tup (z4 k.toNat xs).flatten) (λb ob q=>hQ _ q) (KO _) ?_,rfl,L (λz=>c (hi.mpr z)) _ (I.hok.fresh (KO _))⟩;exact⟨by rw[rW,OI];exact j,_,r.rep k.toNat,Qk _ _⟩
end
end
section
section
variable{X:Cx}
theorem BM:OpR X (MR .Add) (λx y H Q=>∃a b ys,x=.ref a/\y=.ref b/\SqT X.K H a []/\SqT X.K H b ys/\Q (.ref b) H):=by
 intro pins s σ H x y v u Q I rx ry h;obtain⟨a,b,ys,rfl,rfl,U,Fn,q⟩:=h
 cases rx
 cases ry
 obtain⟨its,fv,p1,_⟩:=I.tuple U;obtain⟨j,r2,p2,_⟩:=I.tuple Fn;have e0:its=[]:=fv.nil_iff.mpr rfl;obtain⟨⟨cls,dd,data,sl⟩,ho,L,n,hd⟩:=id p1;obtain⟨⟨O,G,data2,J⟩,z,B,n2,hd2⟩:=id p2;simp only at L hd B hd2;subst L hd B hd2;exact Uo ⟨_,ho,rfl⟩ ⟨_,z,rfl⟩ RW TH Q3 PX (PJ _ _)
  (tuple_addW0 a b its.toArray j.toArray n n2 dd G sl J (by simp[e0])) ⟨ho,z,⟨.ref b,H,I,rfl,q⟩⟩
end
end
namespace Mi
variable{K:Frag}{M:Mem}{H:Hp}{Q:VK}{v:V}
section
def MulOk(i j:Int):Prop:=(-(2^64)<i/\i<2^64)∨(-(2^64)<j/\j<2^64)∨(Py i<=2^20/\Py j<=2^20)
theorem MulOk.ok{i j:Int}(h:MulOk i j):IntMulOk i j:=by
 rcases h with h|h|h
 ·exact IntMulOk.of_left (intBits_le_64 h.1 h.2)
 ·exact IntMulOk.of_right (intBits_le_64 h.1 h.2)
 ·exact IntMulOk.of_bits h.1 h.2
noncomputable def eZ:R2d
 |.int i,.int j,M,Q=>Q (.int (i+j)) M
 |.tup a,.tup b,M,Q=>(a≠[]∨True)/\a.length+b.length<=KG/\Q (.tup (a++b)) M
 |.ref a,.ref b,M,Q=>∃xs ys,M a=Z (.lst xs)/\M b=Z (.lst ys)/\xs.length+ys.length<=KG/\∀p,M p=Y->Q (.ref p) (ag M p (.lst (xs++ys)))
 |.str x,.str y,M,Q=>x.length+y.length<=KG/\Q (.str (x++y)) M
 |_,_,_,_=>False
noncomputable def pQ:R2d
 |.int i,.int j,M,Q=>Q (.int (i-j)) M
 |_,_,_,_=>False
noncomputable def fV:R2d
 |.int i,.int j,M,Q=>MulOk i j/\Q (.int (i*j)) M
 |.ref a,.int k,M,Q=>∃xs,M a=Z (.lst xs) /\ -(2^63)<=k/\k<2^63/\xs.length*k.toNat<=KG/\∀p,M p=Y->Q (.ref p) (ag M p (.lst (z4 k.toNat xs).flatten))
 |.tup ds,.int k,M,Q=>-(2^63)<=k/\k<2^63/\ds.length*k.toNat<=KG/\Q (.tup (z4 k.toNat ds).flatten) M
 |_,_,_,_=>False
noncomputable def jM:R2d
 |.int i,.int j,M,Q=>0<j/\j<2^256/\Q (.int (i / j)) M
 |_,_,_,_=>False
noncomputable def pS:R2d
 |.int i,.int j,M,Q=>0<j/\Q (.int (i%j)) M
 |_,_,_,_=>False
noncomputable def pT:R2d
 |.int i,.int j,M,Q=>0<=j/\j<=1000000/\i.natAbs<2^64/\Q (.int (i^j.toNat)) M
 |_,_,_,_=>False
theorem pU:aG eZ:=by
 intro x y M Q Q' h q
 cases x<;>cases y<;>first
  |exact q.elim
  |exact h _ _ q
  |exact⟨q.1,h _ _ q.2⟩
  |exact⟨q.1,q.2.1,h _ _ q.2.2⟩
  |(obtain⟨xs,ys,e1,e2,z,q⟩:=q;exact⟨xs,ys,e1,e2,z,λp n=>h _ _ (q p n)⟩)
theorem yS:aG pQ:=by
 intro x y M Q Q' h q
 cases x<;>cases y<;>first|exact q.elim|exact h _ _ q
theorem yT:aG fV:=by
 intro x y M Q Q' h q
 cases x<;>cases y<;>first
  |exact q.elim
  |exact⟨q.1,h _ _ q.2⟩
  |exact⟨q.1,q.2.1,q.2.2.1,h _ _ q.2.2.2⟩
  |(obtain⟨xs,e1,j,z,B,q⟩:=q;exact⟨xs,e1,j,z,B,λp n=>h _ _ (q p n)⟩)
theorem wd:aG jM:=by
 intro x y M Q Q' h q
 cases x<;>cases y<;>first|exact q.elim|exact⟨q.1,q.2.1,h _ _ q.2.2⟩
theorem yU:aG pS:=by
 intro x y M Q Q' h q
 cases x<;>cases y<;>first|exact q.elim|exact⟨q.1,h _ _ q.2⟩
theorem yV:aG pT:=by
 intro x y M Q Q' h q
 cases x<;>cases y<;>first|exact q.elim|exact⟨q.1,q.2.1,q.2.2.1,h _ _ q.2.2.2⟩
section
variable{X:Cx}
theorem OpR.of{f:h8->h8->Sem h8}{r r':R2}(h:OpR X f r)(i:∀v u H Q,r' v u H Q->r v u H Q):OpR X f r':=λpins s σ H x y v u Q I rx ry q=>h pins s σ H x y v u Q I rx ry (i _ _ _ _ q)
theorem IxR.of{r r':R2}(h:IxR X r)(i:∀v u H Q,r' v u H Q->r v u H Q):IxR X r':=λa b pins s σ H x y v u Q I rx ry q=>h a b pins s σ H x y v u Q I rx ry (i _ _ _ _ q)
theorem CallR.of{f:h8}{r r':List V->Hp->VK->Prop}(h:CallR X f r)(i:∀vs H Q,r' vs H Q->r vs H Q):CallR X f r':=λpins s σ H xs us Q I rx q=>h pins s σ H xs us Q I rx (i _ _ _ q)
theorem G5{a b:List D}{u:V}(rm:RM K M H)(rx:RD K H (.tup a) v)(ry:RD K H (.tup b) u)(q:eZ (.tup a) (.tup b) M (KE' K M H Q)):AH K v u H Q∨∃a b ys,v=.ref a/\u=.ref b/\SqT K H a []/\SqT K H b ys/\Q (.ref b) H:=by
 obtain⟨a',vs,rfl,z,j⟩:=W4 rx;obtain⟨b',us,rfl,B,F⟩:=W4 ry;obtain⟨_,J,q⟩:=q;have l1:=j.length;have l2:=F.length
 by_cases G:a=[]
 ·subst G;have:vs=[]:=RDs.nil_iff.mp j;subst this;exact .inr ⟨a',b',us,rfl,rfl,z,B,q _ H Ext.refl rm ry⟩
 refine .inl ⟨a',b',vs,us,rfl,rfl,z,B,λe=>G (NB.mp (by rw[<-l1,e];rfl)),∅,λe=>?_,λ_ p n=>dS rm (j.append F) q n⟩
 have eb:b=[]:=NB.mp (by rw[<-l2,e];rfl)
 subst eb;rw[Mz]at q;exact q _ H Ext.refl rm rx
theorem pV:OpR X (MR .Add) (l2 X.K eZ):=by
 refine OpR.of (op_add.or ((op_catT.or BM).or (op_cat.or tS))) λv u H Q h=>?_;obtain⟨x,y,M,rm,rx,ry,q⟩:=h
 cases x<;>cases y<;>first
  |exact q.elim
  |(cases VZ.mp rx;cases VZ.mp ry;exact .inl ⟨_,_,rfl,rfl,q _ H Ext.refl rm (VZ.mpr rfl)⟩)
  |exact .inr (.inl (G5 rm rx ry q))
  | (cases W0.mp rx;cases W0.mp ry
     obtain⟨xs,ys,e1,e2,z,q⟩:=q;obtain⟨vs,h1,j⟩:=rm _ _ e1;obtain⟨us,h2,B⟩:=rm _ _ e2;have l1:=j.length;have l2:=B.length;refine .inr (.inr (.inl ⟨_,_,vs,us,rfl,rfl,h1,h2,∅,λp n=>bV rm (j.append B) q n⟩)))
  |(cases W7.mp rx;cases W7.mp ry;exact .inr (.inr (.inr ⟨_,_,rfl,rfl,q.1,q.2 _ H Ext.refl rm (W7.mpr rfl)⟩)))
theorem yW:OpR X (MR .Sub) (l2 X.K pQ):=by
 refine OpR.of DN λv u H Q h=>?_;obtain⟨x,y,M,rm,rx,ry,q⟩:=h
 cases x<;>cases y<;>first
  |exact q.elim
  |(cases VZ.mp rx;cases VZ.mp ry;exact⟨_,_,rfl,rfl,q _ H Ext.refl rm (VZ.mpr rfl)⟩)
theorem op_mul_i:OpR X (MR .Mult) (rI MulOk λi j=>.int (i*j)):=opI λ_ _ _ _ _ _ _ z q=>mul_int q z.ok
theorem G6{a:List D}{k:Int}{u:V}(rm:RM K M H)(rx:RD K H (.tup a) v)(ry:RD K H (.int k) u)(q:fV (.tup a) (.int k) M (KE' K M H Q)):AN K v u H Q:=by
 obtain⟨a',vs,rfl,z,j⟩:=W4 rx
 cases VZ.mp ry
 obtain⟨B,F,G,q⟩:=q;have l1:=j.length;refine⟨a',k,vs,rfl,rfl,z,B,F,by rw[l1];exact G,λe=>?_,λ_ p n=>dS rm (j.rep _) q n⟩
 have ea:(z4 k.toNat a).flatten=a:=by
  rcases e with e|e
  ·have:a=[]:=NB.mp (by rw[<-l1,e];rfl)
   subst this;simp
  ·subst e;simp
 rw[ea]at q;exact q _ H Ext.refl rm rx
theorem yX:OpR X (MR .Mult) (l2 X.K fV):=by
 refine OpR.of (op_mul_i.or (op_rep.or BK)) λv u H Q h=>?_;obtain⟨x,y,M,rm,rx,ry,q⟩:=h
 cases x<;>cases y<;>first
  |exact q.elim
  |(cases VZ.mp rx;cases VZ.mp ry;exact .inl ⟨_,_,rfl,rfl,q.1,q.2 _ H Ext.refl rm (VZ.mpr rfl)⟩)
  | (cases W0.mp rx;cases VZ.mp ry
     obtain⟨xs,e1,z,B,F,q⟩:=q;obtain⟨vs,h1,j⟩:=rm _ _ e1;have l1:=j.length;exact .inr (.inl ⟨_,_,vs,rfl,rfl,h1,z,B,by rw[l1];exact F,λp n=>bV rm (j.rep _) q n⟩))
  |exact .inr (.inr (G6 rm rx ry q))
theorem yY:OpR X (MR .FloorDiv) (rI (λ_ j=>0<j/\j<2^256) λi j=>.int (i / j)):=L2.opI λi j _ _ _ _ _ z q=>by
 have h1:(0:Int)<j:=z.1;have h2:j<2^256:=z.2;have B:j.natAbs.log2<256:=(Nat.log2_lt ∅).mpr ∅
 exact floordiv_int ∅ (by rw[Int.fdiv_eq_ediv_of_nonneg i ∅];exact q) (.inl (PyProof.noPylong_of_log2 ∅))
theorem we:OpR X (MR .FloorDiv) (l2 X.K jM):=by
 refine OpR.of yY λv u H Q h=>?_;obtain⟨x,y,M,rm,rx,ry,q⟩:=h
 cases x<;>cases y<;>first
  |exact q.elim
  |(cases VZ.mp rx;cases VZ.mp ry;exact⟨_,_,rfl,rfl,⟨q.1,q.2.1⟩,q.2.2 _ H Ext.refl rm (VZ.mpr rfl)⟩)
theorem yZ:OpR X (MR .Mod) (l2 X.K pS):=by
 refine OpR.of DO λv u H Q h=>?_;obtain⟨x,y,M,rm,rx,ry,q⟩:=h
 cases x<;>cases y<;>first
  |exact q.elim
  |(cases VZ.mp rx;cases VZ.mp ry;exact⟨_,_,rfl,rfl,q.1,q.2 _ H Ext.refl rm (VZ.mpr rfl)⟩)
theorem za:OpR X (MR .Pow) (l2 X.K pT):=by
 refine OpR.of DP λv u H Q h=>?_;obtain⟨x,y,M,rm,rx,ry,q⟩:=h
 cases x<;>cases y<;>first
  |exact q.elim
  |(cases VZ.mp rx;cases VZ.mp ry;exact⟨_,_,rfl,rfl,⟨q.1,q.2.1,q.2.2.1⟩,q.2.2.2 _ H Ext.refl rm (VZ.mpr rfl)⟩)
noncomputable def pW:R1d
 |.int i,M,Q=>Q (.int (-i)) M
 |_,_,_=>False
theorem pX:u7 pW:=by
 intro x M Q Q' h q
 cases x<;>first|exact q.elim|exact h _ _ q
theorem UnR.of{f:h8->Sem h8}{r r':V->Hp->VK->Prop}(h:UnR X f r)(i:∀v H Q,r' v H Q->r v H Q):UnR X f r':=λpins s σ H x v Q I rx q=>h pins s σ H x v Q I rx (i _ _ _ q)
theorem zb:UnR X (unaryOp .USub) (l1 X.K pW):=by
 refine UnR.of DQ λv H Q h=>?_;obtain⟨x,M,rm,rx,q⟩:=h
 cases x<;>first
  |exact q.elim
  |(cases VZ.mp rx;exact⟨_,rfl,q _ H Ext.refl rm (VZ.mpr rfl)⟩)
noncomputable def bF{α β:Type}(f:α->Option β):List α->Option (List β)
 |[]=>Z []
 |x::xs=>(f x).bind λy=>(bF f xs).map (y :: ·)
noncomputable def rb:Nat->Mem->D->Option Mq
 |_,_,.non=>Z .none
 |_,_,.bl b=>Z (.bool b)
 |_,_,.int i=>Z (.int i)
 |_,_,.str x=>if PyData.strOk x=F2 then Z (.str x)else Y
 |n+1,M,.tup ds=>(bF (rb n M) ds).map PyData.tuple
 |n+1,M,.con ds=>(bF (rb n M) ds).map PyData.list
 | n+1,M,.ref a=>match M a with
   |some (.lst ds)=>(bF (rb n M) ds).map PyData.list
   |_=>Y
 |0,_,.tup _=>Y
 |0,_,.con _=>Y
 |0,_,.ref _=>Y
 |_,_,.fn _=>Y
theorem dJ{n:Nat}{M:Mem}(ih:∀d p,rb n M d=Z p->p.depth<=n/\p.canLay0=F2):∀{ds:List D} {ps:List Mq},bF (rb n M) ds=Z ps->NL ps<=n/\Mv ps=F2
 |[],ps,h=>by simp[bF]at h;subst h;exact⟨N7 _,rfl⟩
 |d::ds,ps,h=>by
  simp only[bF]at h
  cases e1:rb n M d with
  |none=>rw[e1]at h;cases h
  |some p=>
   rw[e1]at h
   cases e2:bF (rb n M) ds with
   |none=>simp[e2]at h
   |some qs=>
    simp[e2]at h;subst h;obtain⟨a1,a2⟩:=ih d p e1;obtain⟨z,j⟩:=dJ ih e2;refine⟨?_,?_⟩
    ·show max p.depth (NL qs)<=n;lia
    ·show(p.canLay0&&Mv qs)=F2;rw[a2,j];rfl
theorem cJ{M:Mem}:∀(n:Nat) (d:D) (p:Mq),rb n M d=Z p->p.depth<=n/\p.canLay0=F2
 |n,.non,p,h=>by simp[rb]at h;subst h;exact⟨N7 _,rfl⟩
 |n,.bl b,p,h=>by simp[rb]at h;subst h;exact⟨N7 _,rfl⟩
 |n,.int b,p,h=>by simp[rb]at h;subst h;exact⟨N7 _,rfl⟩
 |n,.str x,p,h=>by simp[rb]at h;obtain⟨h1,h2⟩:=h;subst h2;exact⟨N7 _,h1⟩
 |0,.tup _,p,h=>by simp[rb]at h
 |0,.con _,p,h=>by simp[rb]at h
 |0,.ref _,p,h=>by simp[rb]at h
 |n,.fn _,p,h=>by simp[rb]at h
 |n+1,.tup ds,p,h=>by
  simp only[rb]at h
  cases e:bF (rb n M) ds with
  |none=>rw[e]at h;cases h
  |some ps=>rw[e]at h;cases h;obtain⟨a,b⟩:=dJ (cJ n) e;exact⟨S9 a,b⟩
 |n+1,.con ds,p,h=>by
  simp only[rb]at h
  cases e:bF (rb n M) ds with
  |none=>rw[e]at h;cases h
  |some ps=>rw[e]at h;cases h;obtain⟨a,b⟩:=dJ (cJ n) e;exact⟨S9 a,b⟩
 |n+1,.ref a,p,h=>by
  simp only[rb]at h
  cases e0:M a with
  |none=>rw[e0]at h;cases h
  |some o=>
   rw[e0]at h
   cases o with
   |dct _ _=>cases h
   |fdc _=>cases h
   |dcn _=>cases h
   |tab _ _=>cases h
   |fdn _=>cases h
   |lst ds=>
    simp only at h
    cases e:bF (rb n M) ds with
    |none=>rw[e]at h;cases h
    |some ps=>rw[e]at h;cases h;obtain⟨a,b⟩:=dJ (cJ n) e;exact⟨S9 a,b⟩
theorem dL{K:Frag}{H:Hp}{n:Nat}{M:Mem}{h:Heap}(ih:∀d p v u,rb n M d=Z p->RD K H d v->RelV v u->∃as,PM h u p as):
 ∀{ds:List D} {ps:List Mq} {vs:List V} {us:List h8},bF (rb n M) ds=Z ps->RDs K H ds vs->Vals vs us->∃as,Ta h us ps as
 |[],ps,vs,us,hm,r,rv=>by
  simp[bF]at hm;subst hm;rw[RDs.nil_iff.mp r]at rv
  cases rv
  exact⟨_,.nil⟩
 |d::ds,ps,vs,us,hm,r,rv=>by
  obtain⟨v,vr,rfl,j,z⟩:=W1.mp r
  cases rv with
  |cons B F=>
   simp only[bF]at hm
   cases e1:rb n M d with
   |none=>rw[e1]at hm;cases hm
   |some p=>
    rw[e1]at hm
    cases e2:bF (rb n M) ds with
    |none=>simp[e2]at hm
    |some qs=>simp[e2]at hm;subst hm;obtain⟨as,ra⟩:=ih d p v _ e1 j B;obtain⟨bs,rbs⟩:=dL ih e2 z F;exact⟨_,.cons ra rbs⟩
theorem bH{pins:List (Wk×Obj)}{σ:St}{H:Hp}{s:r0}{M:Mem}(I:Inv X pins σ H s)(rm:RM X.K M H):∀(n:Nat) (d:D) (p:Mq) (v:V) (u:h8),rb n M d=Z p->RD X.K H d v->RelV v u->∃as,PM s.heap u p as
 |n,.non,p,v,u,h,r,q=>by simp[rb]at h;subst h;cases W6.mp r;cases q;exact⟨_,.none⟩
 |n,.bl b,p,v,u,h,r,q=>by simp[rb]at h;subst h;cases W2.mp r;cases q;exact⟨_,.bool b⟩
 |n,.int b,p,v,u,h,r,q=>by simp[rb]at h;subst h;cases VZ.mp r;obtain⟨t,rfl⟩:=q;exact⟨_,.int b t⟩
 |n,.str x,p,v,u,h,r,q=>by simp[rb]at h;obtain⟨_,h2⟩:=h;subst h2;cases W7.mp r;obtain⟨t,rfl⟩:=q;exact⟨_,.str x t⟩
 |0,.tup _,p,_,_,h,_,_=>by simp[rb]at h
 |0,.con _,p,_,_,h,_,_=>by simp[rb]at h
 |0,.ref _,p,_,_,h,_,_=>by simp[rb]at h
 |n,.fn _,p,_,_,h,_,_=>by simp[rb]at h
 |n+1,.tup ds,p,v,u,h,r,q=>by
  simp only[rb]at h
  cases e:bF (rb n M) ds with
  |none=>rw[e]at h;cases h
  |some ps=>
   rw[e]at h;cases h;obtain⟨a,vs,rfl,j,rs⟩:=W4 r
   cases q
   obtain⟨its,rv,⟨o,ho,z,k,hd⟩,_⟩:=I.tuple j;obtain⟨as,ra⟩:=dL (bH I rm n) e rs rv;exact⟨_,.tuple ho z hd (by simpa using ra)⟩
 |n+1,.con ds,p,v,u,h,r,q=>by
  simp only[rb]at h
  cases e:bF (rb n M) ds with
  |none=>rw[e]at h;cases h
  |some ps=>
   rw[e]at h;cases h;obtain⟨a,vs,rfl,j,rs⟩:=W5.mp r
   cases q
   obtain⟨its,rv,⟨o,k,ho,z,_,hd⟩,_⟩:=I.list j.sq;obtain⟨as,ra⟩:=dL (bH I rm n) e rs rv;exact⟨_,.list ho z hd (by simpa using ra)⟩
 |n+1,.ref a,p,v,u,h,r,q=>by
  simp only[rb]at h
  cases e0:M a with
  |none=>rw[e0]at h;cases h
  |some o=>
   rw[e0]at h
   cases o with
   |dct _ _=>cases h
   |fdc _=>cases h
   |dcn _=>cases h
   |tab _ _=>cases h
   |fdn _=>cases h
   |lst ds=>
    simp only at h
    cases e:bF (rb n M) ds with
    |none=>rw[e]at h;cases h
    |some ps=>
     rw[e]at h;cases h
     cases W0.mp r
     cases q
     obtain⟨vs,j,rs⟩:=rm _ _ e0;obtain⟨its,rv,⟨o,k,ho,z,_,hd⟩,_⟩:=I.list (SqL.of j);obtain⟨as,ra⟩:=dL (bH I rm n) e rs rv;exact⟨_,.list ho z hd (by simpa using ra)⟩
noncomputable def wEq:R2d:=λx y M Q=>∃p q,rb 16 M x=Z p/\rb 16 M y=Z q/\Q (.bl (Mu p q)) M
noncomputable def wNe:R2d:=λx y M Q=>∃p q,rb 16 M x=Z p/\rb 16 M y=Z q/\Q (.bl (!PyData.eqv p q)) M
theorem BN:aG wEq:=λ_ _ _ _ _ h j=>(by obtain⟨p,q,a,b,c⟩:=j;exact⟨p,q,a,b,h _ _ c⟩)
theorem BO:aG wNe:=λ_ _ _ _ _ h j=>(by obtain⟨p,q,a,b,c⟩:=j;exact⟨p,q,a,b,h _ _ c⟩)
theorem BP(F:X.A.units+16<Ol):OpR X (Na .Eq) (l2 X.K wEq):=by intro pins s σ H x y v u Q I rx ry h;obtain⟨d,e,M,rm,rd,re,p,q,j,z,k⟩:=h;obtain⟨as,ra⟩:=bH I rm _ _ _ _ _ j rd rx;obtain⟨bs,rb'⟩:=bH I rm _ _ _ _ _ z re ry;obtain⟨G,p2⟩:=cJ _ _ _ j;obtain⟨J,B⟩:=cJ _ _ _ z;exact SeqAt.compareEq_reads ra rb' p2 B ∅ ⟨.bl _,H,I,rfl,k _ H Ext.refl rm (W2.mpr rfl)⟩
theorem BQ(F:X.A.units+16<Ol):OpR X (Na .NotEq) (l2 X.K wNe):=by intro pins s σ H x y v u Q I rx ry h;obtain⟨d,e,M,rm,rd,re,p,q,j,z,k⟩:=h;obtain⟨as,ra⟩:=bH I rm _ _ _ _ _ j rd rx;obtain⟨bs,rb'⟩:=bH I rm _ _ _ _ _ z re ry;obtain⟨G,p2⟩:=cJ _ _ _ j;obtain⟨J,B⟩:=cJ _ _ _ z;exact SeqAt.compareNe_reads ra rb' p2 B ∅ ⟨.bl _,H,I,rfl,k _ H Ext.refl rm (W2.mpr rfl)⟩
noncomputable def wLt:R2d
 |.int i,.int j,M,Q=>Q (.bl (decide (i<j))) M
 |_,_,_,_=>False
noncomputable def wGt:R2d
 |.int i,.int j,M,Q=>Q (.bl (decide (j<i))) M
 |_,_,_,_=>False
noncomputable def wGe:R2d
 |.int i,.int j,M,Q=>Q (.bl (decide (j<=i))) M
 |_,_,_,_=>False
theorem BS:aG wLt:=by
 intro x y M Q Q' h q
 cases x<;>cases y<;>first|exact q.elim|exact h _ _ q
theorem BU:aG wGt:=by
 intro x y M Q Q' h q
 cases x<;>cases y<;>first|exact q.elim|exact h _ _ q
theorem BV:aG wGe:=by
 intro x y M Q Q' h q
 cases x<;>cases y<;>first|exact q.elim|exact h _ _ q
theorem BW:OpR X (Na .Lt) (l2 X.K wLt):=by
 refine OpR.of FL λv u H Q h=>?_;obtain⟨x,y,M,rm,rx,ry,q⟩:=h
 cases x<;>cases y<;>first
  |exact q.elim
  |(cases VZ.mp rx;cases VZ.mp ry;exact⟨_,_,rfl,rfl,q _ H Ext.refl rm (W2.mpr rfl)⟩)
theorem BX:OpR X (Na .Gt) (l2 X.K wGt):=by
 refine OpR.of FM λv u H Q h=>?_;obtain⟨x,y,M,rm,rx,ry,q⟩:=h
 cases x<;>cases y<;>first
  |exact q.elim
  |(cases VZ.mp rx;cases VZ.mp ry;exact⟨_,_,rfl,rfl,q _ H Ext.refl rm (W2.mpr rfl)⟩)
theorem BY:OpR X (Na .GtE) (l2 X.K wGe):=by
 refine OpR.of FN λv u H Q h=>?_;obtain⟨x,y,M,rm,rx,ry,q⟩:=h
 cases x<;>cases y<;>first
  |exact q.elim
  |(cases VZ.mp rx;cases VZ.mp ry;exact⟨_,_,rfl,rfl,q _ H Ext.refl rm (W2.mpr rfl)⟩)
end
end
variable{a:Wk}{vs:List V}{d x:D}
section
noncomputable def wIx:R2d:=λx y M Q=>match x with
 |.tup ds=>∃i d,y=.int i/\atI ds i=Z d/\Q d M
 |.con ds=>∃i d,y=.int i/\atI ds i=Z d/\Q d M
 |.ref a=>(∃ds i d,M a=Z (.lst ds)/\y=.int i/\atI ds i=Z d/\Q d M)∨(∃t kvs d,M a=Z (.dct t kvs)/\eJ t y=F2/\dget kvs y=Z d/\Q d M)∨∃kvs d,M a=Z (.fdc kvs)/\ee y=F2/\dget kvs y=Z d/\Q d M
 |_=>False
theorem si:aG wIx:=by
 intro x y M Q Q' h q
 cases x with
 |tup ds=>obtain⟨i,d,e,e2,q⟩:=q;exact⟨i,d,e,e2,h _ _ q⟩
 |con ds=>obtain⟨i,d,e,e2,q⟩:=q;exact⟨i,d,e,e2,h _ _ q⟩
 |ref a=>
  rcases q with⟨ds,i,d,e1,e2,j,q⟩|⟨t,kvs,d,e1,e2,j,q⟩|⟨kvs,d,e1,e2,j,q⟩
  ·exact .inl ⟨ds,i,d,e1,e2,j,h _ _ q⟩
  ·exact .inr (.inl ⟨t,kvs,d,e1,e2,j,h _ _ q⟩)
  ·exact .inr (.inr ⟨kvs,d,e1,e2,j,h _ _ q⟩)
 |_=>exact q.elim
theorem jN{ds:List D}{i:Int}(r:RDs K H ds vs)(e:atI ds i=Z d):∃v,atI vs i=Z v/\RD K H d v:=by
 unfold atI at e⊢;rw[r.length]
 cases q:ixN ds.length i with
 |none=>rw[q]at e;cases e
 |some j=>rw[q]at e;exact r.get e
theorem ll{k:D}{q:Key}(r:RKey k q)(h:RD K H k v):v=kV q:=by
 cases k<;>first
  |exact r.elim
  |(cases(show q=_ from r);first|exact VZ.mp h|exact W7.mp h)
theorem jc{K:Frag}{H:Hp}:∀{ds:List D} {ks:List Key} {vs:List V},Me RKey ds ks->RDs K H ds vs->vs=ks.map kV
 |_,_,vs,.nil,h=>by rw[RDs.nil_iff.mp h];rfl
 |_,_,vs,.cons r t,h=>by obtain⟨v,vr,rfl,h1,h2⟩:=W1.mp h;rw[ll r h1,jc t h2];rfl
theorem RKey.inj{e:D}{k:Key}(a:RKey d k)(b:RKey e k):d=e:=by
 cases d<;>first
  |exact a.elim
  |(cases e<;>first|exact b.elim|(cases(show k=_ from a);injection (show _=_ from b)with z;rw[z])|(cases(show k=_ from a);cases(show _=_ from b)))
theorem RKeysP.inj:∀{d e:List D} {k:List Key},Me RKey d k->Me RKey e k->d=e
 |_,_,_,.nil,.nil=>rfl
 |_,_,_,.cons r t,.cons r' t'=>by rw[r.inj r',RKeysP.inj t t']
theorem RKeys.inj{e:D}{k:List Key}(a:RKeys d k)(b:RKeys e k):d=e:=by
 cases d<;>first
  |exact a.elim
  |(cases e<;>first|exact b.elim|exact congrArg D.tup (RKeysP.inj a b))
theorem RKey.fun{k k':Key}(a:RKey d k)(b:RKey d k'):k=k':=by
 cases d<;>first
  |exact a.elim
  |(cases(show k=_ from a);cases(show k'=_ from b);rfl)
theorem RKeysP.fun:∀{d:List D} {k k':List Key},Me RKey d k->Me RKey d k'->k=k'
 |_,_,_,.nil,.nil=>rfl
 |_,_,_,.cons r t,.cons r' t'=>by rw[r.fun r',RKeysP.fun t t']
theorem RKeys.fun{k k':List Key}(a:RKeys d k)(b:RKeys d k'):k=k':=by
 cases d<;>first
  |exact a.elim
  |exact RKeysP.fun a b
section
variable{κ:Type}[DecidableEq κ]{K:Frag}{H:Hp}{RK:D->κ->Prop}(inj:∀{d e:D} {k:κ},RK d k->RK e k->d=e)(fn:∀{d:D} {k k':κ},RK d k->RK d k'->k=k')
include inj fn
theorem jd{k:D}{q:κ}(j:RK k q):∀{kvs:List (D×D)} {ps:List (κ×V)},Me (λp r=>RK p.1 r.1/\RD K H p.2 r.2) kvs ps->
 (∀d,dget kvs k=Z d->∃v,bW ps q=Z v/\RD K H d v)/\(dget kvs k=Y->bW ps q=Y)
 |_,_,.nil=>⟨λd e=>by simp[dget]at e,λ_=>rfl⟩
 |_,_,.cons (a:=p) (b:=r) (l₂:=ps) B t=>by
  obtain⟨F,G⟩:=jd j t
  by_cases e:p.1=k
  ·have e':r.1=q:=by
    have h1:=B.1;rw[e]at h1;exact fn h1 j
   refine⟨λd he=>?_,λhe=>?_⟩
   ·simp[dget,MA,e]at he;subst he;exact⟨r.2,fP e',B.2⟩
   ·simp[dget,MA,e]at he
  ·have e':¬r.1=q:=fun z=>e (by
    have h1:=B.1;rw[z]at h1;exact inj h1 j)
   have eq1:∀l:List (D×D),dget (p::l) k=dget l k:=λl=>by simp[dget,MA,e]
   have eq2:bW (r::ps) q=bW ps q:=fQ e';refine⟨λd he=>?_,λhe=>?_⟩
   ·rw[eq1]at he;rw[eq2];exact F d he
   ·rw[eq1]at he;rw[eq2];exact G he
end
section
variable{X:Cx}
theorem pY{ps:List (List Key×V)}{kvs:List (D×D)}{k:D}(B:Rd H a (.dT ps))(pr:Me (λ(p:D×D) (q:List Key×V)=>RKeys p.1 q.1/\RD K H p.2 q.2) kvs ps)(ok:ee k=F2)(rk:RD K H k v):
 ∃o,DGet H a v o/\(∀d,dget kvs k=Z d->∃w,o=Z w/\RD K H d w)/\(dget kvs k=Y->o=Y):=by
 obtain⟨q,j⟩:=se ok;obtain⟨g1,g2⟩:=jd (RK:=RKeys) RKeys.inj RKeys.fun j pr;refine⟨bW ps q,?_,g1,g2⟩
 cases k<;>first
  |exact j.elim
  | (obtain⟨b,us,rfl,z,ru⟩:=Wi (sg ok) rk
     rw[jc j ru]at z;exact .inr ⟨ps,q,b,B,rfl,z,rfl⟩)
theorem lr{t:Bool}{kvs:List (D×D)}{k:D}(rm:RM K M H)(e:M a=Z (.dct t kvs))(ok:eJ t k=F2)(rk:RD K H k v):
 ∃o,DGet H a v o/\(∀d,dget kvs k=Z d->∃w,o=Z w/\RD K H d w)/\(dget kvs k=Y->o=Y):=by
 have ro:=rm a _ e
 cases t with
 |false=>obtain⟨ps,j,pr⟩:=ro;obtain⟨q,z⟩:=pK (show fT k=F2 from ok);obtain⟨g1,g2⟩:=jd (RK:=RKey) RKey.inj RKey.fun z pr;refine⟨bW ps q,?_,g1,g2⟩;rw[ll z rk];exact DGet.k j
 |true=>obtain⟨ps,j,pr⟩:=ro;exact pY (.inl j) pr ok rk
theorem BZ(j:X.A.units+1<Ol):IxR X (λx y H Q=>∃a v,x=.ref a/\DGet H a y (Z v)/\Q v H):=by
 intro value slice pins s σ H x y v u Q I rx ry h hs;obtain⟨a,w,rfl,g,q⟩:=h
 cases rx
 have hd:IsD H a:=by
  rcases g with⟨kvs,k,e,_⟩|⟨kvs,k,b,e,_⟩
  ·exact .inl ⟨kvs,e⟩
  ·exact .inr ⟨kvs,e⟩
 obtain⟨z,_⟩:=jH I hd;exact tail_any z PySem.F.slot_dict_getitem.lookup (vP j I g ry λw' s' I' r'=>⟨w,H,I',r',q⟩) hs
theorem Hr(B:X.A.units+1<Ol):IxR X (l2 X.K wIx):=by
 refine IxR.of (ix_list.or (ix_tup.or (BZ B))) λv u H Q h=>?_;obtain⟨x,y,M,rm,rx,ry,q⟩:=h
 cases x with
 |tup ds=>
  obtain⟨i,d,rfl,e,q⟩:=q;obtain⟨a,vs,rfl,j,rs⟩:=W4 rx
  cases VZ.mp ry
  obtain⟨w,hw,rw'⟩:=jN rs e;exact .inr (.inl ⟨a,vs,i,w,rfl,rfl,j,hw,q w H Ext.refl rm rw'⟩)
 |con ds=>
  obtain⟨i,d,rfl,e,q⟩:=q;obtain⟨a,vs,rfl,j,rs⟩:=W5.mp rx
  cases VZ.mp ry
  obtain⟨w,hw,rw'⟩:=jN rs e;exact .inl ⟨a,vs,i,w,rfl,rfl,j.sq,hw,q w H Ext.refl rm rw'⟩
 |ref a=>
  cases W0.mp rx
  rcases q with⟨ds,i,d,e1,rfl,z,q⟩|⟨t,kvs,d,e1,e2,z,q⟩|⟨kvs,d,e1,e2,z,q⟩
  ·cases VZ.mp ry
   obtain⟨vs,j,rs⟩:=rm _ _ e1;obtain⟨w,hw,rw'⟩:=jN rs z;exact .inl ⟨a,vs,i,w,rfl,rfl,SqL.of j,hw,q w H Ext.refl rm rw'⟩
  ·obtain⟨o,g,g1,_⟩:=lr rm e1 e2 ry;obtain⟨w,rfl,rw'⟩:=g1 d z;exact .inr (.inr ⟨a,w,rfl,g,q w H Ext.refl rm rw'⟩)
  ·obtain⟨ob,ps,F,pr⟩:=rm _ _ e1;obtain⟨o,g,g1,_⟩:=pY (.inr ⟨ob,F⟩) pr e2 ry;obtain⟨w,rfl,rw'⟩:=g1 d z;exact .inr (.inr ⟨a,w,rfl,g,q w H Ext.refl rm rw'⟩)
 |_=>exact q.elim
noncomputable def pZ(M:Mem):D->Option Nat
 |.tup ds=>Z ds.length
 |.con ds=>Z ds.length
 |.ref a=>match M a with
  |some (.lst ds)=>Z ds.length
  |_=>Y
 |_=>Y
noncomputable def fW:RAd:=λxs M Q=>∃x n,xs=[x]/\pZ M x=Z n/\Q (.int n) M
theorem q8:aM fW:=λ_ _ _ _ h j=>(by obtain⟨x,n,e,l,q⟩:=j;exact⟨x,n,e,l,h _ _ q⟩)
theorem RDs.one(h:RDs K H [d] vs):∃v,vs=[v]/\RD K H d v:=by obtain⟨v,r,rfl,h1,h2⟩:=W1.mp h;rw[RDs.nil_iff.mp h2];exact⟨v,rfl,h1⟩
theorem RDs.two{e:D}(h:RDs K H [d,e] vs):∃v u,vs=[v,u]/\RD K H d v/\RD K H e u:=by obtain⟨v,r,rfl,h1,h2⟩:=W1.mp h;obtain⟨u,rfl,j⟩:=RDs.one h2;exact⟨v,u,rfl,h1,j⟩
theorem ua:CallR X (.builtin "len") (lR X.K fW):=by
 refine CallR.of yt λvs H Q h=>?_;obtain⟨ds,M,rm,rs,x,n,rfl,l,q⟩:=h;obtain⟨v,rfl,r⟩:=rs.one;refine⟨v,n,rfl,?_,q _ H Ext.refl rm (VZ.mpr rfl)⟩
 cases x with
 |tup ds=>
  cases l
  obtain⟨a,us,rfl,j,ru⟩:=W4 r;exact .inr ⟨us,j,ru.length.symm⟩
 |con ds=>
  cases l
  obtain⟨a,us,rfl,j,ru⟩:=W5.mp r;exact .inl ⟨us,j.sq,ru.length.symm⟩
 |ref a=>
  cases W0.mp r
  simp only[pZ]at l
  cases e:M a with
  |none=>rw[e]at l;cases l
  |some o=>
   rw[e]at l
   cases o with
   |dct _ _=>cases l
   |fdc _=>cases l
   |dcn _=>cases l
   |tab _ _=>cases l
   |fdn _=>cases l
   |lst ds=>
    cases l
    obtain⟨us,j,ru⟩:=rm _ _ e;exact .inl ⟨us,SqL.of j,ru.length.symm⟩
 |_=>cases l
noncomputable def lv:RAd:=λxs M Q=>∃i,xs=[.int i]/\Q (.int (if i<0 then -i else i)) M
noncomputable def jO:RAd:=λxs M Q=>∃i j,xs=[.int i,.int j]/\Q (.int (if j > i then j else i)) M
noncomputable def lw:RAd:=λxs M Q=>(∃i,xs=[.int i]/\Q (.int i) M)∨∃k,xs=[.bl k]/\Q (.int (if k then 1 else 0)) M
theorem q9:aM lv:=λ_ _ _ _ h j=>(by obtain⟨i,e,q⟩:=j;exact⟨i,e,h _ _ q⟩)
theorem mP:aM jO:=λ_ _ _ _ h z=>(by obtain⟨i,j,e,q⟩:=z;exact⟨i,j,e,h _ _ q⟩)
theorem qa:aM lw:=λ_ _ _ _ h q=>q.elim (λj=>(by obtain⟨i,e,q⟩:=j;exact .inl ⟨i,e,h _ _ q⟩)) λj=>(by obtain⟨i,e,q⟩:=j;exact .inr ⟨i,e,h _ _ q⟩)
theorem ub:CallR X (.builtin "abs") (lR X.K lv):=by
 refine CallR.of yr λvs H Q h=>?_;obtain⟨ds,M,rm,rs,i,rfl,q⟩:=h;obtain⟨v,rfl,r⟩:=rs.one
 cases VZ.mp r
 exact⟨i,rfl,q _ H Ext.refl rm (VZ.mpr rfl)⟩
theorem rF(z:X.calm=F2):CallR X (.builtin "max") (lR X.K jO):=by
 refine CallR.of (vI z) λvs H Q h=>?_;obtain⟨ds,M,rm,rs,i,j,rfl,q⟩:=h;obtain⟨v,u,rfl,B,F⟩:=rs.two
 cases VZ.mp B
 cases VZ.mp F
 exact⟨i,j,rfl,q _ H Ext.refl rm (VZ.mpr rfl)⟩
theorem uc:CallR X (.type "int") (lR X.K lw):=by
 refine CallR.of vJ λvs H Q h=>?_;obtain⟨ds,M,rm,rs,⟨i,rfl,q⟩|⟨i,rfl,q⟩⟩:=h
 ·obtain⟨v,rfl,r⟩:=rs.one
  cases VZ.mp r
  exact .inl ⟨i,rfl,q _ H Ext.refl rm (VZ.mpr rfl)⟩
 ·obtain⟨v,rfl,r⟩:=rs.one
  cases W2.mp r
  exact .inr ⟨i,rfl,q _ H Ext.refl rm (VZ.mpr rfl)⟩
noncomputable def aF(M:Mem):D->Option (List D)
 |.tup ds=>Z ds
 |.con ds=>Z ds
 |.ref a=>match M a with
  |some (.lst ds)=>Z ds
  |_=>Y
 |_=>Y
theorem wf{ds:List D}(rm:RM K M H)(r:RD K H x v)(e:aF M x=Z ds):∃p vs,v=.ref p/\(SqL K H p vs∨SqT K H p vs)/\RDs K H ds vs:=by
 cases x with
 |tup es=>
  cases e
  obtain⟨a,us,rfl,j,ru⟩:=W4 r;exact⟨a,us,rfl,.inr j,ru⟩
 |con es=>
  cases e
  obtain⟨a,us,rfl,j,ru⟩:=W5.mp r;exact⟨a,us,rfl,.inl j.sq,ru⟩
 |ref a=>
  cases W0.mp r
  simp only[aF]at e
  cases e0:M a with
  |none=>rw[e0]at e;cases e
  |some o=>
   rw[e0]at e
   cases o with
   |dct _ _=>cases e
   |fdc _=>cases e
   |dcn _=>cases e
   |tab _ _=>cases e
   |fdn _=>cases e
   |lst es=>
    cases e
    obtain⟨us,j,ru⟩:=rm _ _ e0;exact⟨a,us,rfl,.inl (SqL.of j),ru⟩
 |_=>cases e
noncomputable def og:RAd:=λxs M Q=>∃x ds,xs=[x]/\aF M x=Z ds/\∀p,M p=Y->Q (.ref p) (ag M p (.lst ds))
noncomputable def jP:RAd:=λxs M Q=>∃x ds,xs=[x]/\aF M x=Z ds/\Q (.tup ds) M
theorem mQ:aM og:=λ_ _ _ _ h j=>(by obtain⟨x,ds,e,l,q⟩:=j;exact⟨x,ds,e,l,λp n=>h _ _ (q p n)⟩)
theorem jQ:aM jP:=λ_ _ _ _ h j=>(by obtain⟨x,ds,e,l,q⟩:=j;exact⟨x,ds,e,l,h _ _ q⟩)
theorem rG:CallR X (.type "list") (lR X.K og):=by refine CallR.of pC λvs H Q h=>?_;obtain⟨ds,M,rm,rs,x,es,rfl,l,q⟩:=h;obtain⟨v,rfl,r⟩:=rs.one;obtain⟨p,us,rfl,sq,ru⟩:=wf rm r l;exact⟨p,us,rfl,sq,λl' n=>bV rm ru q n⟩
theorem qb:CallR X (.type "tuple") (lR X.K jP):=by
 refine CallR.of nS λvs H Q h=>?_;obtain⟨ds,M,rm,rs,x,es,rfl,l,q⟩:=h;obtain⟨v,rfl,r⟩:=rs.one
 cases x with
 |tup ds'=>
  cases l
  obtain⟨a,us,rfl,j,ru⟩:=W4 r;exact⟨a,us,rfl,.inr ⟨j,q _ H Ext.refl rm r⟩⟩
 |con ds'=>
  cases l
  obtain⟨a,us,rfl,j,ru⟩:=W5.mp r;exact⟨a,us,rfl,.inl ⟨j.sq,λl' n=>dS rm ru q n⟩⟩
 |ref a=>
  cases W0.mp r
  simp only[aF]at l
  cases e0:M a with
  |none=>rw[e0]at l;cases l
  |some o=>
   rw[e0]at l
   cases o with
   |dct _ _=>cases l
   |fdc _=>cases l
   |dcn _=>cases l
   |tab _ _=>cases l
   |fdn _=>cases l
   |lst es'=>
    cases l
    obtain⟨us,j,ru⟩:=rm _ _ e0;exact⟨a,us,rfl,.inl ⟨SqL.of j,λl' n=>dS rm ru q n⟩⟩
 |_=>cases l
end
end
variable{e:Expr}{tA:TTd}
section
section
variable{X:Cx}
theorem RDs.ints_eq{K:Frag}{H:Hp}:∀{ns:List Int} {vs:List V},RDs K H (ns.map D.int) vs->vs=ns.map V.int
 |[],_,h=>RDs.nil_iff.mp h
 |n::ns,_,h=>by obtain⟨v,r,rfl,h1,h2⟩:=W1.mp h;rw[VZ.mp h1,RDs.ints_eq h2];rfl
noncomputable def zc(M:Mem):D->Option Bool
 |.non=>Z Wj
 |.bl b=>Z b
 |.int i=>Z (i != 0)
 |.tup ds=>Z (!ds.isEmpty)
 |.con ds=>Z (!ds.isEmpty)
 |.ref a=>match M a with
  |some (.lst ds)=>Z (!ds.isEmpty)
  |_=>Y
 |_=>Y
noncomputable def ud(t:TEd):TTd:=λρ M Q=>t ρ M λx M1=>∃b,zc M1 x=Z b/\Q b M1
theorem ze{t:TEd}(h:ad t):aI (ud t):=λρ M Q Q' i q=>h _ _ _ _ (λx B j=>(by obtain⟨k,e,z⟩:=j;exact⟨k,e,i _ _ z⟩)) q
theorem Ee{b:Bool}(rm:RM K M H)(r:RD K H x v)(e:zc M x=Z b):yp K v H b:=by
 have emp:∀{ds:List D} {vs:List V},RDs K H ds vs->(!ds.isEmpty) = !vs.isEmpty:=λ{ds vs} h=>by
  have l:=h.length
  cases ds<;>cases vs<;>first|rfl|(simp at l)
 cases x with
 |non=>cases e;cases W6.mp r;rfl
 |bl k=>cases e;cases W2.mp r;rfl
 |int i=>cases e;cases VZ.mp r;rfl
 |tup ds=>
  cases e
  obtain⟨a,vs,rfl,j,rs⟩:=W4 r;exact .inr (.inl ⟨vs,j,emp rs⟩)
 |con ds=>
  cases e
  obtain⟨a,vs,rfl,j,rs⟩:=W5.mp r;exact .inl ⟨vs,j.sq,emp rs⟩
 |ref a=>
  cases W0.mp r
  simp only[zc]at e
  cases e0:M a with
  |none=>rw[e0]at e;cases e
  |some o=>
   rw[e0]at e
   cases o with
   |dct _ _=>cases e
   |fdc _=>cases e
   |dcn _=>cases e
   |tab _ _=>cases e
   |fdn _=>cases e
   |lst ds=>
    cases e
    obtain⟨vs,j,rs⟩:=rm _ _ e0;exact .inl ⟨vs,SqL.of j,emp rs⟩
 |str _=>cases e
 |fn _=>cases e
variable{a b:Expr}{ta tb:TEd}{pos:Pos}
theorem Ef(m:ad ta)(B:PE X a (lE X.K ta))(he:∀whole,isTrue a X.env whole=(do let v <-whole;Rt a.pos;holding [v] (truthy v))):PT X a (lT X.K (ud ta)):=by refine PT.imp (yq B he) λσ H Q h=>?_;obtain⟨ρ,M,rs,rm,q⟩:=h;exact⟨ρ,M,rs,rm,m _ _ _ _ (λx L F v H1 G j z=>(by obtain⟨k,e,J⟩:=F;exact⟨k,Ee j z e,J H1 G j⟩)) q⟩
noncomputable def oh(t:TTd):TTd:=λρ M Q=>t ρ M λc M1=>Q (!c) M1
theorem wg{t:TTd}(h:aI t):aI (oh t):=λρ M Q Q' i q=>h _ _ _ _ (λc z j=>i _ _ j) q
theorem Eg(m:aI tA)(j:PT X a (lT X.K tA)):PT X (.UnaryOp .Not a pos) (lT X.K (oh tA)):=by refine PT.imp (Dw j) λσ H Q h=>?_;obtain⟨ρ,M,rs,rm,q⟩:=h;exact⟨ρ,M,rs,rm,m _ _ _ _ (λc B z=>z) q⟩
noncomputable def oi(t u:TTd):TTd:=λρ M Q=>t ρ M λc M1=>if c=F2 then u ρ M1 Q else Q Wj M1
noncomputable def ue(t u:TTd):TTd:=λρ M Q=>t ρ M λc M1=>if c=F2 then Q F2 M1 else u ρ M1 Q
theorem wj{t u:TTd}(h:aI t)(k:aI u):aI (oi t u):=λρ M Q Q' i q=>h _ _ _ _ (λc z j=>by
 cases c with
 |true=>rw[if_pos rfl]at j⊢;exact k _ _ _ _ i j
 |false=>rw[if_neg B2]at j⊢;exact i _ _ j) q
theorem zf{t u:TTd}(h:aI t)(k:aI u):aI (ue t u):=λρ M Q Q' i q=>h _ _ _ _ (λc z j=>by
 cases c with
 |true=>rw[if_pos rfl]at j⊢;exact i _ _ j
 |false=>rw[if_neg B2]at j⊢;exact k _ _ _ _ i j) q
theorem C0(j:PT X a (lT X.K tA)):PW X (.BoolOp .And [a] pos) (lT X.K tA):=Bg j
theorem Eh(j:PT X a (lT X.K tA)):PW X (.BoolOp .Or [a] pos) (lT X.K tA):=Du j
theorem Ei{tB:TTd}{rest:List Expr}(mA:aI tA)(mB:aI tB)(F:PT X a (lT X.K tA))(G:PW X (.BoolOp .And (b::rest) pos) (lT X.K tB)):PW X (.BoolOp .And (a::b::rest) pos) (lT X.K (oi tA tB)):=by
 refine PW.imp (Dv F G) λσ H Q h=>?_;obtain⟨ρ,M,rs,rm,q⟩:=h;refine⟨ρ,M,rs,rm,mA _ _ _ _ (λc J z H1 B j=>?_) q⟩
 cases c with
 |true=>rw[if_pos rfl]at z⊢;exact⟨ρ,J,rs.mono (B.stab rm),j,mB _ _ _ _ (λd M2 k=>k.ext B) z⟩
 |false=>rw[if_neg B2]at z⊢;exact z H1 B j
theorem G7{tB:TTd}{rest:List Expr}(mA:aI tA)(mB:aI tB)(F:PT X a (lT X.K tA))(G:PW X (.BoolOp .Or (b::rest) pos) (lT X.K tB)):PW X (.BoolOp .Or (a::b::rest) pos) (lT X.K (ue tA tB)):=by
 refine PW.imp (Fz F G) λσ H Q h=>?_;obtain⟨ρ,M,rs,rm,q⟩:=h;refine⟨ρ,M,rs,rm,mA _ _ _ _ (λc J z H1 B j=>?_) q⟩
 cases c with
 |true=>rw[if_pos rfl]at z⊢;exact z H1 B j
 |false=>rw[if_neg B2]at z⊢;exact⟨ρ,J,rs.mono (B.stab rm),j,mB _ _ _ _ (λd M2 k=>k.ext B) z⟩
noncomputable def oj(ta tb:TEd):TEd:=λρ M Q=>ta ρ M λx M1=>∃c,x=.bl c/\if c=F2 then tb ρ M1 Q else Q (.bl Wj) M1
noncomputable def uf(ta tb:TEd):TEd:=λρ M Q=>ta ρ M λx M1=>∃c,x=.bl c/\if c=F2 then Q (.bl F2) M1 else tb ρ M1 Q
noncomputable def om(ta:TEd):TEd:=λρ M Q=>ta ρ M λx M1=>∃c,x=.bl c/\Q (.bl (!c)) M1
theorem wk(h:ad ta)(k:ad tb):ad (oj ta tb):=λρ M Q Q' i q=>h _ _ _ _ (λx z ⟨c,e,j⟩=>⟨c,e,by
 cases c with
 |true=>rw[if_pos rfl]at j⊢;exact k _ _ _ _ i j
 |false=>rw[if_neg B2]at j⊢;exact i _ _ j⟩) q
theorem zg(h:ad ta)(k:ad tb):ad (uf ta tb):=λρ M Q Q' i q=>h _ _ _ _ (λx z ⟨c,e,j⟩=>⟨c,e,by
 cases c with
 |true=>rw[if_pos rfl]at j⊢;exact i _ _ j
 |false=>rw[if_neg B2]at j⊢;exact k _ _ _ _ i j⟩) q
theorem wl(h:ad ta):ad (om ta):=λρ M Q Q' i q=>h _ _ _ _ (λx B j=>(by obtain⟨c,e,z⟩:=j;exact⟨c,e,i _ _ z⟩)) q
theorem wm{op:BoolOp}{t:TEd}(h:PE X a (lE X.K t)):PE X (.BoolOp op [a] pos) (lE X.K t):=Dx h
theorem Ej{rest:List Expr}(ma:ad ta)(mb:ad tb)(G:PE X a (lE X.K ta))(J:PE X (.BoolOp .And (b::rest) pos) (lE X.K tb)):PE X (.BoolOp .And (a::b::rest) pos) (lE X.K (oj ta tb)):=by
 refine PE.imp (Dy G J) λσ H Q h=>?_;obtain⟨ρ,M,rs,rm,q⟩:=h;refine⟨ρ,M,rs,rm,ma _ _ _ _ (λx L g9 v H1 B j F=>?_) q⟩;obtain⟨c,e,z⟩:=g9;subst e;refine⟨c,W2.mp F,?_⟩
 cases c with
 |true=>rw[if_pos rfl]at z⊢;exact⟨ρ,L,rs.mono (B.stab rm),j,mb _ _ _ _ (λd M2 k=>k.ext B) z⟩
 |false=>rw[if_neg B2]at z⊢;exact z _ H1 B j (W2.mpr rfl)
theorem G8{rest:List Expr}(ma:ad ta)(mb:ad tb)(G:PE X a (lE X.K ta))(J:PE X (.BoolOp .Or (b::rest) pos) (lE X.K tb)):PE X (.BoolOp .Or (a::b::rest) pos) (lE X.K (uf ta tb)):=by
 refine PE.imp (FC G J) λσ H Q h=>?_;obtain⟨ρ,M,rs,rm,q⟩:=h;refine⟨ρ,M,rs,rm,ma _ _ _ _ (λx L g9 v H1 B j F=>?_) q⟩;obtain⟨c,e,z⟩:=g9;subst e;refine⟨c,W2.mp F,?_⟩
 cases c with
 |true=>rw[if_pos rfl]at z⊢;exact z _ H1 B j (W2.mpr rfl)
 |false=>rw[if_neg B2]at z⊢;exact⟨ρ,L,rs.mono (B.stab rm),j,mb _ _ _ _ (λd M2 k=>k.ext B) z⟩
theorem Ek(ma:ad ta)(B:PE X a (lE X.K ta)):PE X (.UnaryOp .Not a pos) (lE X.K (om ta)):=by refine PE.imp (Dz B) λσ H Q h=>?_;obtain⟨ρ,M,rs,rm,q⟩:=h;refine⟨ρ,M,rs,rm,ma _ _ _ _ (λx J g9 v H1 G j z=>?_) q⟩;obtain⟨c,e,F⟩:=g9;subst e;exact⟨c,W2.mp z,F _ H1 G j (W2.mpr rfl)⟩
noncomputable def wIf(t:TTd)(ta tb:TEd):TEd:=λρ M Q=>t ρ M λc M1=>if c=F2 then ta ρ M1 Q else tb ρ M1 Q
theorem C2{t:TTd}(h:aI t)(z:ad ta)(B:ad tb):ad (wIf t ta tb):=λρ M Q Q' i q=>h _ _ _ _ (λc F j=>by
 cases c with
 |true=>rw[if_pos rfl]at j⊢;exact z _ _ _ _ i j
 |false=>rw[if_neg B2]at j⊢;exact B _ _ _ _ i j) q
theorem G9{c:Expr}{t:TTd}(mt:aI t)(ma:ad ta)(mb:ad tb)(G:PT X c (lT X.K t))(J:PE X a (lE X.K ta))(L:PE X b (lE X.K tb)):PE X (.IfExp c a b pos) (lE X.K (wIf t ta tb)):=by
 refine PE.imp (yh G J L) λσ H Q h=>?_;obtain⟨ρ,M,rs,rm,q⟩:=h;refine⟨ρ,M,rs,rm,mt _ _ _ _ (λx F z H1 B j=>?_) q⟩
 cases x with
 |true=>rw[if_pos rfl]at z⊢;exact⟨ρ,F,rs.mono (B.stab rm),j,ma _ _ _ _ (λd M2 k=>k.ext B) z⟩
 |false=>rw[if_neg B2]at z⊢;exact⟨ρ,F,rs.mono (B.stab rm),j,mb _ _ _ _ (λd M2 k=>k.ext B) z⟩
noncomputable def ca(xs:List D)(lo hi:Option Int):List D:=(xs.drop (HT.sIx xs.length 0 lo)).take (HT.sIx xs.length xs.length hi-HT.sIx xs.length 0 lo)
theorem qc{ds:List D}(r:RDs K H ds vs)(lo hi:Option Int):RDs K H (ca ds lo hi) (gL vs lo hi):=by unfold ca gL;rw[r.length];exact(r.drop _).take _
noncomputable abbrev TOd:=aw->Mem->(Option Int->Mem->Prop)->Prop
def dM(T:TOd):Prop:=∀ρ M Q Q',(∀d M',Q d M'->Q' d M')->T ρ M Q->T ρ M Q'
noncomputable def iu:TOd:=λ_ M Q=>Q Y M
noncomputable def iw(t:TEd):TOd:=λρ M Q=>t ρ M λx M1=>∃i,x=.int i/\Q (Z i) M1
theorem rH:dM iu:=λ_ _ _ _ h q=>h _ _ q
theorem gT(h:ad ta):dM (iw ta):=λρ M Q Q' i q=>h _ _ _ _ (λx B j=>(by obtain⟨c,e,z⟩:=j;exact⟨c,e,i _ _ z⟩)) q
noncomputable def lO(K:Frag)(T:TOd):TO:=λσ H Q=>∃ρ M,RS K H σ ρ/\RM K M H/\T ρ M (λo M'=>∀H',Ext M H M' H'->RM K M' H'->Q o H')
theorem C3:PO X Y (lO X.K iu):=λpins s σ H Q I h=>by obtain⟨ρ,M,rs,rm,q⟩:=h;exact Br pins s σ H Q I (q H Ext.refl rm)
theorem sj(m:ad ta)(h:PE X e (lE X.K ta)):PO X (Z e) (lO X.K (iw ta)):=λpins s σ H Q I hq=>by obtain⟨ρ,M,rs,rm,q⟩:=hq;refine Bs h pins s σ H Q I ⟨ρ,M,rs,rm,m _ _ _ _ (λx G g9 v H1 F j z=>?_) q⟩;obtain⟨i,e,B⟩:=g9;subst e;exact⟨i,VZ.mp z,B H1 F j⟩
noncomputable def gU:D->Option Int->Option Int->Mem->QD->Prop:=λx lo hi M Q=>match x with
 |.tup ds=>Q (.tup (ca ds lo hi)) M
 |.ref a=>∃ds,M a=Z (.lst ds)/\∀p,M p=Y->Q (.ref p) (ag M p (.lst (ca ds lo hi)))
 |.con ds=>∀p,M p=Y->Q (.ref p) (ag M p (.lst (ca ds lo hi)))
 |_=>False
noncomputable def wSl(te:TEd)(tl th:TOd):TEd:=λρ M Q=>te ρ M λx M1=>tl ρ M1 λl M2=>th ρ M2 λu M3=>gU x l u M3 Q
theorem ug{lo hi:Option Int}{Q Q':QD}(h:∀d M',Q d M'->Q' d M')(q:gU x lo hi M Q):gU x lo hi M Q':=by
 cases x with
 |tup ds=>exact h _ _ q
 |ref a=>obtain⟨ds,e,q⟩:=q;exact⟨ds,e,λp n=>h _ _ (q p n)⟩
 |con ds=>exactλp n=>h _ _ (q p n)
 |_=>exact q.elim
theorem C4{tl th:TOd}(m:ad ta)(ml:dM tl)(mh:dM th):ad (wSl ta tl th):=λρ M Q Q' i q=>m _ _ _ _ (λx F j=>ml _ _ _ _ (λl M2 z=>mh _ _ _ _ (λu G B=>ug i B) z) j) q
theorem Ga{lo hi:Option Expr}{tl th:TOd}{p2:Pos}(m:ad ta)(ml:dM tl)(mh:dM th)(he:PE X e (lE X.K ta))(hl:PO X lo (lO X.K tl))(hu:PO X hi (lO X.K th)):
 PE X (.Subscript e (.Slice lo hi Y p2) pos) (lE X.K (wSl ta tl th)):=by
 refine PE.imp (yx (sl_tup.or (sl_list.or yz)) he hl hu) λσ H Q h=>?_;obtain⟨ρ,M,rs,rm,q⟩:=h;refine⟨ρ,M,rs,rm,m _ _ _ _ (λx M1 q1 v H1 O G U=>?_) q⟩;refine⟨ρ,M1,rs.mono (O.stab rm),G,ml _ _ _ _ (λl M2 q2 H2 Fn L=>?_) q1⟩;refine⟨ρ,M2,(rs.mono (O.stab rm)).mono (Fn.stab G),L,mh _ _ _ _ (λu M3 z H3 fv j=>?_) q2⟩;have B:=O.trans (Fn.trans fv);have F:=(U.mono (Fn.stab G)).mono (fv.stab L)
 cases x with
 |tup ds=>
  obtain⟨a,vs,rfl,J,r⟩:=W4 F
  by_cases hw:HT.sIx vs.length 0 l=0/\HT.sIx vs.length vs.length u=vs.length
  ·refine .inr (.inr ⟨a,vs,rfl,J,hw,?_⟩);have e:ca ds l u=ds:=by
    unfold ca;rw[<-r.length,hw.1,hw.2,r.length];simp
   simp only[gU]at z;rw[e]at z;exact z.ext B _ H3 Ext.refl j F
  ·simp only[gU]at z;exact .inl ⟨a,vs,rfl,J,hw,λp n=>dS j (qc r l u) (z.ext B) n⟩
 |ref a=>
  cases W0.mp F
  obtain⟨ds,e,z⟩:=z;obtain⟨vs,J,r⟩:=j _ _ e;exact .inr (.inl ⟨a,vs,rfl,SqL.of J,λp n=>bV j (qc r l u) (λp' n'=>(z p' n').ext B) n⟩)
 |con ds=>obtain⟨a,vs,rfl,J,r⟩:=W5.mp F;exact .inr (.inl ⟨a,vs,rfl,J.sq,λp n=>bV j (qc r l u) (λp' n'=>(z p' n').ext B) n⟩)
 |_=>exact z.elim
end
end
variable{pos:Pos}{tg:Expr}{ta:TAd}{H1:Hp}
section
section
variable{X:Cx}
noncomputable def wBM(rd:D->List D->Mem->QD->Prop)(to:TEd)(t:TAd):TEd:=λρ M Q=>to ρ M λx M1=>(∃a xs,x=.ref a/\M1 a=Z (.lst xs))/\t ρ M1 λds M2=>rd x ds M2 Q
def jR(rd:D->List D->Mem->QD->Prop):Prop:=∀x ds M Q Q',(∀d M',Q d M'->Q' d M')->rd x ds M Q->rd x ds M Q'
theorem sk{rd:D->List D->Mem->QD->Prop}{to:TEd}{t:TAd}(j:jR rd)(mo:ad to)(mt:aL t):ad (wBM rd to t):=λρ M Q Q' i q=>mo _ _ _ _ (λx G z=>(by obtain⟨e,B⟩:=z;exact⟨e,mt _ _ _ _ (λds M2 F=>j _ _ _ _ _ i F) B⟩)) q
theorem Gb(rm:RM K M H)(r:RD K H x v)(h:∃a xs,x=.ref a/\M a=Z (.lst xs)):tyV K "list" v H:=by
 obtain⟨a,xs,rfl,e⟩:=h
 cases W0.mp r
 obtain⟨vs,j,_⟩:=rm _ _ e;exact .inl ⟨rfl,vs,SqL.of j⟩
theorem sm{rd:D->List D->Mem->QD->Prop}{r:V->List V->Hp->VK->Prop}{to:TEd}{t:TAd}(L:jR rd)(mo:ad to)(mt:aL t)(O:∀v vs H Q,lMt K rd v vs H Q->r v vs H Q)(σ:St)(H:Hp)(Q:VK)(h:lE K (wBM rd to t) σ H Q):tBM K "list" r (lE K to) (lA K t) σ H Q:=by obtain⟨ρ,M,rs,rm,q⟩:=h;refine⟨ρ,M,rs,rm,mo _ _ _ _ (λx U ⟨e,Fn⟩ v H1 G j z=>⟨Gb j z e,?_⟩) q⟩;refine⟨ρ,U,rs.mono (G.stab rm),j,mt _ _ _ _ (λds M2 fv vs H2 J B F=>?_) Fn⟩;exact O v vs H2 Q ⟨x,ds,M2,B,z.mono (J.stab j),F,L _ _ _ _ _ (λd M' k=>k.ext (G.trans J)) fv⟩
noncomputable def iy:D->List D->Mem->QD->Prop:=λx ds M Q=>∃a xs y,x=.ref a/\ds=[y]/\M a=Z (.lst xs)/\xs.length<KG/\Q .non (ag M a (.lst (xs++[y])))
theorem j3:jR iy:=λ_ _ _ _ _ h j=>(by obtain⟨a,xs,y,e1,e2,B,z,q⟩:=j;exact⟨a,xs,y,e1,e2,B,z,h _ _ q⟩)
theorem lD{o0:O}{ds:List D}(rm:RM K M H)(m:M a=Z o0)(rd:RDs K H ds vs)(r:RD K H d v)(q:KE' K M H Q d (ag M a (.lst ds)))(w:fz (Z o0)=Wj:=by rfl):
 Q v (upd H a (.lst vs)):=by
 have st:Stab H (upd H a (.lst vs)):=rm.stabPut m w;exact q v _ (Ext.put m w) (rm.put m ⟨vs,aD,rd.mono st⟩ w) (r.mono st)
theorem zh(v:V)(vs:List V)(H:Hp)(Q:VK)(h:lMt K iy v vs H Q):rV v vs H Q:=by
 obtain⟨x,ds,M,rm,rx,rs,a,xs,y,rfl,rfl,e,z,q⟩:=h
 cases W0.mp rx
 obtain⟨w,rfl,rw'⟩:=rs.one;obtain⟨us,j,ru⟩:=rm _ _ e;exact⟨a,us,w,rfl,rfl,j,by rw[ru.length];exact z,lD rm e (ru.append (RDs.cons rw' RDs.nil)) (W6.mpr rfl) q⟩
noncomputable abbrev BT:=D->aw->Option aw
noncomputable abbrev BTs:=List D->aw->Option aw
noncomputable def cr(i:Nat):BT:=λd ρ=>Z (ρ.set i (Z d))
noncomputable def je:BTs:=λds ρ=>match ds with|[]=>Z ρ|_=>Y
noncomputable def cF(b:BT)(bs:BTs):BTs:=λds ρ=>match ds with|d::r=>(b d ρ).bind λρ'=>bs r ρ'|[]=>Y
noncomputable def zi(bs:BTs):BT:=λd ρ=>match d with|.tup ds=>bs ds ρ|_=>Y
noncomputable def lG(K:Frag)(b:BT):TG:=λv σ H Q=>∃d ρ ρ',RD K H d v/\RS K H σ ρ/\b d ρ=Z ρ'/\∀σ',RS K H σ' ρ'->Q σ' H
noncomputable def lGs(K:Frag)(b:BTs):TGs:=λvs σ H Q=>∃ds ρ ρ',RDs K H ds vs/\RS K H σ ρ/\b ds ρ=Z ρ'/\∀σ',RS K H σ' ρ'->Q σ' H
theorem PG.imp{t t':TG}(h:PG X e t)(i:∀v σ H Q,t' v σ H Q->t v σ H Q):PG X e t':=λpins s σ H v u Q I r q=>h pins s σ H v u Q I r (i _ _ _ _ q)
theorem PGs.imp{e:List Expr}{t t':TGs}(h:PGs X e t)(i:∀v σ H Q,t' v σ H Q->t v σ H Q):PGs X e t':=λpins s σ H v u Q I r q=>h pins s σ H v u Q I r (i _ _ _ _ q)
theorem C5{i:Nat}{x:Str}(j:X.N.Nodup)(hi:X.N[i]?=Z x)(hx:Loc X.env.scope x)(hf:X.fn x=F2∨X.env.scope.names.lookup x=Z .local):PG X (.Name x pos) (lG X.K (cr i)):=
 PG.imp (rQ j hi hx hf) λv σ H Q ⟨d,ρ,ρ',r,rs,e,q⟩=>by
  cases e
  exact q _ (rs.set i r)
theorem C6:PGs X [] (lGs X.K je):=PGs.imp Bk λvs σ H Q ⟨ds,ρ,ρ',r,rs,e,q⟩=>by
 cases ds with
 |nil=>cases e;exact⟨RDs.nil_iff.mp r,q σ rs⟩
 |cons _ _=>cases e
theorem zj{es:List Expr}{b:BT}{bs:BTs}(h1:PG X e (lG X.K b))(h2:PGs X es (lGs X.K bs))(hs:(Mj (e::es) X.env).map (·.2)=assign e X.env::(Mj es X.env).map (·.2)):
 PGs X (e::es) (lGs X.K (cF b bs)):=PGs.imp (yk h1 h2 hs) λvs σ H Q ⟨ds,ρ,ρ',r,rs,e,q⟩=>by
 cases ds with
 |nil=>cases e
 |cons d ds=>
  obtain⟨v,vr,rfl,j,z⟩:=W1.mp r;simp only[cF]at e
  cases e1:b d ρ with
  |none=>rw[e1]at e;cases e
  |some ρ1=>rw[e1]at e;exact⟨v,vr,rfl,d,ρ,ρ1,j,rs,e1,λσ' rs'=>⟨ds,ρ1,ρ',z,rs',e,q⟩⟩
theorem El{es:List Expr}{k:Nat}{bs:BTs}{n:Nat}(z:X.calm=F2)(hlen:∀ds ρ ρ',bs ds ρ=Z ρ'->ds.length=n)(h:PGs X es (lGs X.K bs))(B:(Mj es X.env).length=n)(j:(Mj es X.env).findIdx? (·.1)=Y):
 PG X (.Tuple es k pos) (lG X.K (zi bs)):=PG.imp (DE z h B j) λv σ H Q ⟨d,ρ,ρ',r,rs,e,q⟩=>by
 cases d with
 |tup ds=>obtain⟨a,vs,rfl,F,rv⟩:=W4 r;exact⟨a,vs,rfl,F,by rw[rv.length];exact hlen _ _ _ e,ds,ρ,ρ',rv,rs,e,q⟩
 |_=>cases e
noncomputable abbrev TId:=aw->Mem->(List D->(Mem->Prop)->Mem->Prop)->Prop
def bY(T:TId):Prop:=∀ρ M Q Q',(∀xs c M',Q xs c M'->Q' xs c M')->T ρ M Q->T ρ M Q'
def Yl(H H':Hp):Prop:=H'=H∨∃q vs,H q=Y/\H'=upd H q (.tup vs)
def fX(K:Frag)(H1:Hp)(xs:List D)(chk:Mem->Prop)(J:It):Prop:=∀M H,Stab H1 H->RM K M H->chk M->∀i,(xs.length<=i->J.stop i H)/\(i<xs.length->J.go i H /\
 ∀x H',J.yld i H x H'->Yl H H'/\∃d,xs[i]?=Z d/\RD K H' d x)
noncomputable def lI(K:Frag)(T:TId):TI:=λσ H R=>∃ρ M,RS K H σ ρ/\RM K M H/\T ρ M (λxs chk M1=>∀J H1,Ext M H M1 H1->RM K M1 H1->fX K H1 xs chk J->R J H1)
theorem PI.imp{t t':TI}(h:PI X tg e t)(i:∀σ H Q,t' σ H Q->t σ H Q):PI X tg e t':=λpins s σ H Q I q=>h pins s σ H Q I (i _ _ _ q)
theorem Yl.ext{H':Hp}(rm:RM K M H)(y:Yl H H'):Ext M H M H'/\RM K M H':=by
 rcases y with rfl|⟨q,vs,n,rfl⟩
 ·exact⟨Ext.refl,rm⟩
 ·exact⟨Wa n,rm.new n⟩
noncomputable def Hs(K:Frag)(tl:TE):TI:=λσ H R=>tl σ H λx H1=>∃a,x=.ref a/\(((∃xs,SqL K H1 a xs)/\R (Itl K a) H1)∨((∃xs,SqT K H1 a xs)/\R (Itt K a) H1))
theorem Em{l:Expr}{tl:TE}(F:PE X l tl):PI X tg l (Hs X.K tl):=by
 intro pins s σ H R I h;refine thn (F pins s σ H _ I h) λv s1 G=>?_;obtain⟨x,H1,j,J,L⟩:=G;obtain⟨a,e,q⟩:=L;subst e
 cases J
 rcases q with⟨⟨xs,z⟩,q⟩|⟨⟨xs,z⟩,q⟩
 ·obtain⟨its,rv,p,O⟩:=j.list z;refine NA p.isList ?_;refine⟨s1.heap.objs.size,[s1.heap.objs.size],_,_,H1,rfl,j.kept (t':=s1.toks) λb o e=>hQ _ e,vD a _,⟨_,A2 _ rfl,rfl,rfl⟩,λb B=>?_,q⟩;have e:b=s1.heap.objs.size:=by simpa using B
  subst e;exact j.fpOk (KO _) (j.hok.fresh (KO _))
 ·obtain⟨its,rv,p,O⟩:=j.tuple z;refine My (show s1.heap.IsTuple a its.toArray from p) ?_;refine⟨s1.heap.objs.size,[s1.heap.objs.size],_,_,H1,rfl,j.kept (t':=s1.toks) λb o e=>hQ _ e,tO a _,⟨_,A2 _ rfl,rfl,rfl⟩,λb B=>?_,q⟩;have e:b=s1.heap.objs.size:=by simpa using B
  subst e;exact j.fpOk (KO _) (j.hok.fresh (KO _))
noncomputable def qd(ta:TEd):TId:=λρ M R=>ta ρ M λx M1=>∃ds,aF M1 x=Z ds/\R ds (λM=>aF M x=Z ds) M1
theorem zk{ta:TEd}(h:ad ta):bY (qd ta):=λρ M Q Q' i q=>h _ _ _ _ (λx B j=>(by obtain⟨ds,e,z⟩:=j;exact⟨ds,e,i _ _ _ z⟩)) q
theorem wn{ds:List D}{chk:Mem->Prop}(h:∀M H,Stab H1 H->RM K M H->chk M->∃vs,SqL K H a vs/\RDs K H ds vs):fX K H1 ds chk (Itl K a):=λM H st rm c i=>by
 obtain⟨vs,sq,r⟩:=h M H st rm c;have l:=r.length;refine⟨λhi=>⟨vs,sq,∅⟩,λhi=>⟨⟨vs,vs[i]'∅,sq,z0 ∅⟩,λx H' y=>?_⟩⟩
 obtain⟨e,y⟩:=y;subst e;exact⟨.inl rfl,r.getV (y vs sq)⟩
theorem Eo{ds:List D}{chk:Mem->Prop}(h:∀M H,Stab H1 H->RM K M H->chk M->∃vs,SqT K H a vs/\RDs K H ds vs):fX K H1 ds chk (Itt K a):=λM H st rm c i=>by
 obtain⟨vs,sq,r⟩:=h M H st rm c;have l:=r.length;refine⟨λhi=>⟨vs,sq,∅⟩,λhi=>⟨⟨vs,vs[i]'∅,sq,z0 ∅⟩,λx H' y=>?_⟩⟩
 obtain⟨e,y⟩:=y;subst e;exact⟨.inl rfl,r.getV (y vs sq)⟩
theorem Ep{l:Expr}{ta:TEd}(m:ad ta)(G:PE X l (lE X.K ta)):PI X tg l (lI X.K (qd ta)):=by
 refine PI.imp (Em G) λσ H R h=>?_;obtain⟨ρ,M,rs,rm,q⟩:=h;refine⟨ρ,M,rs,rm,m _ _ _ _ (λx L g9 v H1 F j rd1=>?_) q⟩;obtain⟨ds,e,B⟩:=g9
 cases x with
 |tup es=>
  cases e
  obtain⟨a,vs,rfl,z,rv⟩:=W4 rd1;exact⟨a,rfl,.inr ⟨⟨vs,z⟩,B _ H1 F j (Eo λM' H' st _ _=>⟨vs,st.sqT z,rv.mono st⟩)⟩⟩
 |con es=>
  cases e
  obtain⟨a,vs,rfl,z,rv⟩:=W5.mp rd1;exact⟨a,rfl,.inl ⟨⟨vs,z.sq⟩,B _ H1 F j (wn λM' H' st _ _=>⟨vs,(st.sqF z).sq,rv.mono st⟩)⟩⟩
 |ref a=>
  cases W0.mp rd1
  have get:∀{M':Mem} {es:List D},aF M' (.ref a)=Z es->M' a=Z (.lst es):=λ{M' es} e=>by
   simp only[aF]at e
   cases e0:M' a with
   |none=>rw[e0]at e;cases e
   |some o=>
    rw[e0]at e
    cases o with
    |dct _ _=>cases e
    |fdc _=>cases e
    |dcn _=>cases e
    |tab _ _=>cases e
    |fdn _=>cases e
    |lst es'=>cases e;rfl
  obtain⟨vs,z,rv⟩:=j _ _ (get e);exact⟨a,rfl,.inl ⟨⟨vs,SqL.of z⟩,B _ H1 F j (wn λM' H' st rm' c=>by obtain⟨us,J,ru⟩:=rm' _ _ (get c);exact⟨us,SqL.of J,ru⟩)⟩⟩
 |_=>cases e
noncomputable def cD(lo:Int)(n:Nat):List D:=(q7 n).map λi=>.int (lo+(i:Nat))
theorem wo{lo:Int}{n:Nat}:fX K H1 (cD lo n) (λ_=>True) (Itr lo n):=λM H st rm c i=>by
 have l:(cD lo n).length=n:=by simp[cD]
 refine⟨λhi=>by show n<=i;lia,λhi=>⟨by show i<n;lia,λx H' y=>?_⟩⟩
 obtain⟨e,y⟩:=y;subst e y;refine⟨.inl rfl,.int (lo+i),?_,VZ.mpr rfl⟩;simp only[cD,KL,Lh (show i<n by lia),Oh]
noncomputable def oo(ta:TAd):TId:=λρ M R=>ta ρ M λds M1=>∃j:Int,ds=[.int j] /\ -(2^62)<=j/\j<2^62/\R (cD 0 j.toNat) (λ_=>True) M1
noncomputable def ot(ta:TAd):TId:=λρ M R=>ta ρ M λds M1=>∃i j:Int,ds=[.int i,.int j]/\(-(2^62)<=i/\i<2^62 /\ -(2^62)<=j/\j<2^62)/\R (cD i (j-i).toNat) (λ_=>True) M1
theorem wq(h:aL ta):bY (oo ta):=λρ M Q Q' i q=>h _ _ _ _ (λx F z=>(by obtain⟨j,e,a,b,B⟩:=z;exact⟨j,e,a,b,i _ _ _ B⟩)) q
theorem wt(h:aL ta):bY (ot ta):=λρ M Q Q' i q=>h _ _ _ _ (λx F z=>(by obtain⟨k,j,e,a,B⟩:=z;exact⟨k,j,e,a,i _ _ _ B⟩)) q
theorem C7{a:Expr}{p:Pos}(m:aL ta)(B:Gl X "range")(hm:X.mg "range"=Y)(F:PA X [a] (lA X.K ta))(hs:KU [a] X.env=[(Wj,eval a X.env)]):PI X tg (.Call (.Name "range" p) [a] [] pos) (lI X.K (oo ta)):=by
 refine PI.imp (vE B hm F hs) λσ H R h=>?_;obtain⟨ρ,M,rs,rm,q⟩:=h;refine⟨ρ,M,rs,rm,m _ _ _ _ (λds U g9 vs H1 O z rd1=>?_) q⟩;obtain⟨j,e,G,J,L⟩:=g9;subst e;obtain⟨v,rfl,r⟩:=rd1.one
 cases VZ.mp r
 exact⟨j,rfl,G,J,L _ H1 O z wo⟩
theorem C8{a b:Expr}{p:Pos}(m:aL ta)(G:Gl X "range")(hm:X.mg "range"=Y)(J:PA X [a,b] (lA X.K ta))(hs:KU [a,b] X.env=[(Wj,eval a X.env),(Wj,eval b X.env)])(B:KU [b] X.env=[(Wj,eval b X.env)]):
 PI X tg (.Call (.Name "range" p) [a,b] [] pos) (lI X.K (ot ta)):=by
 refine PI.imp (vF G hm J hs B) λσ H R h=>?_;obtain⟨ρ,M,rs,rm,q⟩:=h;refine⟨ρ,M,rs,rm,m _ _ _ _ (λds fv g9 vs H1 O F rd1=>?_) q⟩;obtain⟨i,j,e,z,L⟩:=g9;subst e;obtain⟨v,u,rfl,U,Fn⟩:=rd1.two
 cases VZ.mp U
 cases VZ.mp Fn
 exact⟨i,j,rfl,z,L _ H1 O F wo⟩
end
end
end Mi
section
section
variable{X:Cx}
theorem zm{a b:Expr}{j:Pos}(O:X.calm=F2)(U:PA X [a,b] ta)(Fn:Gl X "list")(hm:X.mg "list"=Y)(G:Gl X "range")(J:X.mg "range"=Y)(hs:KU [a,b] X.env=[(Wj,eval a X.env),(Wj,eval b X.env)])(z:KU [b] X.env=[(Wj,eval b X.env)]):
 PE X (.Call (.Name "list" p) [.Call (.Name "range" p2) [a,b] [] j] [] pos) (λσ H Q=>ta σ H λvs H1=>∃(i:Int) (n:Nat),vs=[.int i,.int (i+n)]/\0<=i/\i<=1000000/\n<=1000000/\∀q,H1 q=Y->Q (.ref q) (upd H1 q (.lst ((q7 n).map λk=>V.int (i+(k:Nat)))))):=by
 intro pins s σ H Q I h;refine LO (bL I Fn hm (u:=.type "list") (by decide +kernel) ?_ (by decide) (by decide))
 refine Ln ?_ rfl rfl;refine N3 ?_;refine LO (bL I G J (u:=.type "range") U1 ?_ (by decide) (by decide))
 refine Ln (thn (U j pins s σ H _ I h) λus s1 fv=>?_) (by rw[hs,z]) (by rw[z];rfl)
 obtain⟨vs,H1,B,r1,q1⟩:=fv;obtain⟨i,n,rfl,h0,hi,hn,q⟩:=q1;obtain⟨u1,u2,t,t',rfl,rfl,rfl⟩:∃u1 u2 t t',us=[u1,u2]/\u1=.int i t/\u2=.int (i+(n:Nat)) t':=by
  cases r1 with
  |cons r rr=>
   cases rr with
   |cons r' rr=>
    cases rr
    obtain⟨t,rfl⟩:=r;obtain⟨t',rfl⟩:=r';exact⟨_,_,t,t',rfl,rfl,rfl⟩
 refine call_range_2 (Ny ?_);have I2:Inv X pins σ H1 {s1 with heap:=s1.heap.push {cls:=.type "range",data:=.fields #[.int i t,.int (i+(n:Nat)) t',.int 1 s1.toks]},toks:=s1.toks+1}:=B.kept (t':=s1.toks+1) λb ob q=>hQ _ q
 obtain⟨m,F⟩:=I2.fr;have hsz:Nw i (i+(n:Nat)) 1=((n:Nat):Int):=by
  unfold Nw;rw[if_pos (by decide)]
  by_cases h0:i<i+(n:Nat)
  ·rw[if_pos h0];lia
  ·rw[if_neg h0];lia
 refine list_rangeD (news:=[]) (B.ok.hd O) F (λ_ hp=>by cases hp) (A2 _ rfl) ?_ hsz ∅ λh' tk ys _ _ kp _ _ np car=>?_
 ·exact small_one ∅ ∅ ∅ ∅
 ·have L:=ef car;have er:(UU i 1 n).map V.int=(q7 n).map fun k=>V.int (i+(k:Nat)):=by
   unfold UU;rw[LC];exact L8 λi _=>by simp
  rw[er]at L;obtain⟨⟨c',e'⟩,_⟩:=np;have e2:(s1.heap.push {cls:=.type "range",data:=.fields #[.int i t,.int (i+(n:Nat)) t',.int 1 s1.toks]}).objs.size=s1.heap.objs.size+1:=LI ..;have kp':∀b o,s1.heap.get? b=Z o->h'.get? b=Z o:=λb o e=>kp b o (hQ _ e);refine⟨.ref (s1.heap.push {cls:=.type "range",data:=.fields #[.int i t,.int (i+(n:Nat)) t',.int 1 s1.toks]}).objs.size,_,B.laid (t':=tk) (o:=.lst ((q7 n).map λk=>V.int (i+(k:Nat)))) kp' (by rw[e2];lia) ?_,rfl,q _ (B.hok.fresh (by rw[e2];lia))⟩
  exact⟨by rw[m1,Ld,A0];lia,ys,c',L,e'⟩
end
namespace Mi
variable{K:Frag}{H:Hp}{a:Expr}{p pos:Pos}
section
variable{X:Cx}
noncomputable def jS(ta:TAd):TEd:=λρ M Q=>ta ρ M λds M1=>∃(i:Int) (n:Nat),ds=[.int i,.int (i+n)]/\0<=i/\i<=1000000/\n<=1000000/\∀p,M1 p=Y->Q (.ref p) (ag M1 p (.lst ((q7 n).map λk=>D.int (i+(k:Nat)))))
theorem uh{ta:TAd}(h:aL ta):ad (jS ta):=λρ M Q Q' i q=>h _ _ _ _ (λds F z=>(by obtain⟨j,n,e,e0,e1,e2,B⟩:=z;exact⟨j,n,e,e0,e1,e2,λp n=>i _ _ (B p n)⟩)) q
theorem ui(i:Int)(n:Nat):RDs K H ((q7 n).map λk=>D.int (i+(k:Nat))) ((q7 n).map λk=>V.int (i+(k:Nat))):=by have:=RDs.ints (K:=K) (H:=H) ((q7 n).map λk=>i+((k:Nat):Int));rw[LC,LC]at this;exact this
theorem zn{b:Expr}{ta:TAd}{p2 j:Pos}(m:aL ta)(L:X.calm=F2)(O:PA X [a,b] (lA X.K ta))(U:Gl X "list")(hm:X.mg "list"=Y)(B:Gl X "range")(F:X.mg "range"=Y)(hs:KU [a,b] X.env=[(Wj,eval a X.env),(Wj,eval b X.env)])(G:KU [b] X.env=[(Wj,eval b X.env)]):
 PE X (.Call (.Name "list" p) [.Call (.Name "range" p2) [a,b] [] j] [] pos) (lE X.K (jS ta)):=by
 refine PE.imp (zm L O U hm B F hs G) λσ H Q h=>?_;obtain⟨ρ,M,rs,rm,q⟩:=h;refine⟨ρ,M,rs,rm,m _ _ _ _ (λds M1 g9 vs H1 x1 J rd1=>?_) q⟩;obtain⟨i,n,e,h0,hi,Fn,fv⟩:=g9;subst e;obtain⟨v,u,rfl,r1,r2⟩:=rd1.two
 cases VZ.mp r1
 cases VZ.mp r2
 exact⟨i,n,rfl,h0,hi,Fn,λp z=>bV J (ui i n) (λp' n'=>(fv p' n').ext x1) z⟩
end
variable{ta:TEd}{M:Mem}{x y:D}{H1:Hp}{xs:List D}{elts:List Expr}{pos':Pos}{vs:List V}
section
section
variable{X:Cx}
noncomputable def isT:D->Bool|.tup _=>F2|_=>Wj
theorem dj{ds:List D}{v:V}(rm:RM K M H)(r:RD K H x v)(e:aF M x=Z ds):∃p vs,v=.ref p/\SqV K (isT x) H p vs/\RDs K H ds vs:=by
 cases x with
 |tup es=>
  cases e
  obtain⟨a,vs,rfl,j,rv⟩:=W4 r;exact⟨a,vs,rfl,j,rv⟩
 |con es=>
  cases e
  obtain⟨a,vs,rfl,j,rv⟩:=W5.mp r;exact⟨a,vs,rfl,j.sq,rv⟩
 |ref a=>
  cases W0.mp r
  simp only[aF]at e
  cases e0:M a with
  |none=>rw[e0]at e;cases e
  |some o=>
   rw[e0]at e
   cases o with
   |dct _ _=>cases e
   |fdc _=>cases e
   |dcn _=>cases e
   |tab _ _=>cases e
   |fdn _=>cases e
   |lst es=>
    cases e
    obtain⟨vs,j,rv⟩:=rm _ _ e0;exact⟨a,vs,rfl,SqL.of j,rv⟩
 |_=>cases e
noncomputable def iz(x y:D):D:=.tup [x,y]
noncomputable def lH(ta tb:TEd):TId:=λρ M R=>au ta (au tb aW) ρ M λds M1=>∃x y xs ys,ds=[x,y]/\aF M1 x=Z xs/\aF M1 y=Z ys/\R (Pn iz xs ys) (λM=>aF M x=Z xs/\aF M y=Z ys) M1
theorem zo{tb:TEd}(j:ad ta)(z:ad tb):bY (lH ta tb):=λρ M Q Q' i q=>aj j (aj z aq) _ _ _ _ (λds G B=>(by obtain⟨x,y,xs,ys,e,e1,e2,F⟩:=B;exact⟨x,y,xs,ys,e,e1,e2,i _ _ _ F⟩)) q
theorem jf{p:Wk}{o:HO}(n:H p=Y):Stab H (upd H p o):=⟨λa xs e=>by rw[am (λz=>by rw[z,n]at e;cases e)];exact e,λa o u e=>by rw[am (λz=>by rw[z,n]at e;cases e)];exact e⟩
theorem Er{ys:List D}{a b:Wk}(rx:RD K H1 x (.ref a))(ry:RD K H1 y (.ref b)):fX K H1 (Pn iz xs ys) (λM=>aF M x=Z xs/\aF M y=Z ys) (Itz K (isT x) (isT y) a b):=λM H st rm c i=>by
 obtain⟨U,vs,e1,j,J⟩:=dj rm (rx.mono st) c.1;obtain⟨p2,us,e2,z,L⟩:=dj rm (ry.mono st) c.2
 cases e1
 cases e2
 have l1:=J.length;have l2:=L.length;have lz:(Pn iz xs ys).length=min xs.length ys.length:=Tx;refine⟨λhi=>⟨vs,us,j,z,∅⟩,λhi=>⟨⟨vs,us,vs[i]'∅,us[i]'∅,j,z,z0 ∅,z0 ∅⟩,λv H' O=>?_⟩⟩
 obtain⟨p,v1,v2,n,rfl,rfl,g⟩:=O;obtain⟨g1,g2⟩:=g vs us j z;obtain⟨d1,B,F⟩:=J.getV g1;obtain⟨d2,hd2,G⟩:=L.getV g2;have sb:=jf (o:=.tup [v1,v2]) n;refine⟨.inr ⟨p,[v1,v2],n,rfl⟩,.tup [d1,d2],?_,W8 ⟨p,[v1,v2],rfl,aD,RDs.cons (F.mono sb) (RDs.cons (G.mono sb) RDs.nil)⟩⟩;rw[Qj,B,hd2];rfl
theorem Es{cx}{b:Expr}{tb:TEd}(ma:ad ta)(mb:ad tb)(G:Gl X "zip")(hm:X.mg "zip"=Y)(J:PA X [a,b] (lA X.K (au ta (au tb aW))))(hs:KU [a,b] X.env=[(Wj,eval a X.env),(Wj,eval b X.env)])(z:KU [b] X.env=[(Wj,eval b X.env)]):
 PI X (.Tuple elts cx pos) (.Call (.Name "zip" p) [a,b] [] pos') (lI X.K (lH ta tb)):=by
 refine PI.imp (E4 G hm J hs z) λσ H R h=>?_;obtain⟨ρ,M,rs,rm,q⟩:=h;refine⟨ρ,M,rs,rm,aj ma (aj mb aq) _ _ _ _ (λds Fn g9 vs H1 O j rd1=>?_) q⟩;obtain⟨x,y,xs,ys,e,e1,e2,L⟩:=g9;subst e;obtain⟨v,u,rfl,B,F⟩:=rd1.two;obtain⟨U,vs,rfl,s1,_⟩:=dj j B e1;obtain⟨p2,us,rfl,s2,_⟩:=dj j F e2;exact⟨U,p2,isT x,isT y,vs,us,rfl,s1,s2,L _ H1 O j (Er B F)⟩
noncomputable def z3D(xs ys zs:List D):List D:=Pn (λx p=>.tup [x,p.1,p.2]) xs (ys.zip zs)
noncomputable def iA(ta tb tc:TEd):TId:=λρ M R=>au ta (au tb (au tc aW)) ρ M λds M1=>∃xs y ys zs,ds=[.tup xs,y,.tup zs]/\isT y=Wj/\aF M1 y=Z ys/\R (z3D xs ys zs) (λM=>aF M y=Z ys) M1
theorem wu{tb tc:TEd}(j:ad ta)(z:ad tb)(B:ad tc):bY (iA ta tb tc):=λρ M Q Q' i q=>aj j (aj z (aj B aq)) _ _ _ _ (λds J F=>(by obtain⟨xs,y,ys,zs,e,e1,e2,G⟩:=F;exact⟨xs,y,ys,zs,e,e1,e2,i _ _ _ G⟩)) q
theorem C9{ys zs:List D}{a b c:Wk}(z:isT y=Wj)(rx:RD K H1 (.tup xs) (.ref a))(ry:RD K H1 y (.ref b))(rz:RD K H1 (.tup zs) (.ref c)):fX K H1 (z3D xs ys zs) (λM=>aF M y=Z ys) (yL K F2 Wj F2 a b c):=λM H st rm cc i=>by
 obtain⟨p1,vs,e1,B,fv⟩:=W4 (rx.mono st);obtain⟨p2,us,e2,j,r2⟩:=dj rm (ry.mono st) cc;obtain⟨p3,ws,e3,F,r3⟩:=W4 (rz.mono st)
 cases e1
 cases e2
 cases e3
 rw[z]at j;have l1:=fv.length;have l2:=r2.length;have l3:=r3.length;have lz:(z3D xs ys zs).length=min xs.length (min ys.length zs.length):=by unfold z3D;rw[Tx,SK]
 refine⟨λhi=>⟨vs,us,ws,B,j,F,∅⟩,λhi=>⟨⟨vs,us,ws,vs[i]'∅,us[i]'∅,ws[i]'∅,B,j,F,z0 ∅,z0 ∅,z0 ∅⟩,λv H' z=>?_⟩⟩
 obtain⟨p,v1,v2,G,n,rfl,rfl,g⟩:=z;obtain⟨g1,g2,g3⟩:=g vs us ws B j F;obtain⟨d1,J,L⟩:=fv.getV g1;obtain⟨d2,hd2,O⟩:=r2.getV g2;obtain⟨d3,U,Fn⟩:=r3.getV g3;have sb:=jf (o:=.tup [v1,v2,G]) n;refine⟨.inr ⟨p,[v1,v2,G],n,rfl⟩,.tup [d1,d2,d3],?_,W8 ⟨p,[v1,v2,G],rfl,aD,RDs.cons (L.mono sb) (RDs.cons (O.mono sb) (RDs.cons (Fn.mono sb) RDs.nil))⟩⟩;unfold z3D;rw[Qj,J,List.zip,Qj,hd2,U]
theorem RDs.three{z:D}(h:RDs K H [x,y,z] vs):∃a b c,vs=[a,b,c]/\RD K H x a/\RD K H y b/\RD K H z c:=by
 obtain⟨a,r,rfl,h1,h⟩:=W1.mp h;obtain⟨b,r,rfl,h2,h⟩:=W1.mp h;obtain⟨c,r,rfl,j,h⟩:=W1.mp h
 cases RDs.nil_iff.mp h
 exact⟨a,b,c,rfl,h1,h2,j⟩
theorem Ca{cx}{b c:Expr}{tb tc:TEd}(ma:ad ta)(mb:ad tb)(mc:ad tc)(J:Gl X "zip")(hm:X.mg "zip"=Y)(L:PA X [a,b,c] (lA X.K (au ta (au tb (au tc aW)))))(hs:KU [a,b,c] X.env=[(Wj,eval a X.env),(Wj,eval b X.env),(Wj,eval c X.env)])(z:KU [b,c] X.env=[(Wj,eval b X.env),(Wj,eval c X.env)]):
 PI X (.Tuple elts cx pos) (.Call (.Name "zip" p) [a,b,c] [] pos') (lI X.K (iA ta tb tc)):=by
 refine PI.imp (Bz J hm L hs z) λσ H R h=>?_;obtain⟨ρ,M,rs,rm,q⟩:=h;refine⟨ρ,M,rs,rm,aj ma (aj mb (aj mc aq)) _ _ _ _ (λds M1 g9 vs H1 U j rd1=>?_) q⟩;obtain⟨xs,y,ys,zs,e,e1,e2,O⟩:=g9;subst e;obtain⟨v,u,t,rfl,B,F,G⟩:=rd1.three;obtain⟨Fn,vs,rfl,s1,_⟩:=W4 B;obtain⟨p2,us,rfl,s2,_⟩:=dj j F e2;obtain⟨fv,ws,rfl,s3,_⟩:=W4 G;rw[e1]at s2;exact⟨Fn,p2,fv,vs,us,ws,rfl,s1,s2,s3,O _ H1 U j (C9 e1 B F G)⟩
end
end
section
section
variable{X:Cx}
noncomputable def fY(xs:List D):List D:=xs.mapIdx λi x=>.tup [.int (i:Nat),x]
noncomputable def ou(ta:TEd):TId:=λρ M R=>ta ρ M λx M1=>∃xs,aF M1 x=Z xs/\R (fY xs) (λM=>aF M x=Z xs) M1
theorem wv(h:ad ta):bY (ou ta):=λρ M Q Q' i q=>h _ _ _ _ (λx B j=>(by obtain⟨ds,e,z⟩:=j;exact⟨ds,e,i _ _ _ z⟩)) q
theorem Et{a:Wk}(rx:RD K H1 x (.ref a)):fX K H1 (fY xs) (λM=>aF M x=Z xs) (Ite K (isT x) a):=λM H st rm c i=>by
 obtain⟨J,vs,e1,j,F⟩:=dj rm (rx.mono st) c
 cases e1
 have l1:=F.length;have lz:(fY xs).length=xs.length:=by simp[fY]
 refine⟨λhi=>⟨vs,j,∅⟩,λhi=>⟨⟨vs,vs[i]'∅,j,z0 ∅⟩,λv H' G=>?_⟩⟩
 obtain⟨p,v1,n,rfl,rfl,g⟩:=G;obtain⟨d1,z,B⟩:=F.getV (g vs j);have sb:=jf (o:=.tup [.int (i:Nat),v1]) n;refine⟨.inr ⟨p,[.int (i:Nat),v1],n,rfl⟩,.tup [.int (i:Nat),d1],?_,W8 ⟨p,[.int (i:Nat),v1],rfl,aD,RDs.cons (VZ.mpr rfl) (RDs.cons (B.mono sb) RDs.nil)⟩⟩;simp[fY,Tb,z]
theorem Cb{cx}(ma:ad ta)(B:Gl X "enumerate")(hm:X.mg "enumerate"=Y)(F:PA X [a] (lA X.K (au ta aW)))(hs:KU [a] X.env=[(Wj,eval a X.env)]):
 PI X (.Tuple elts cx pos) (.Call (.Name "enumerate" p) [a] [] pos') (lI X.K (ou ta)):=by
 refine PI.imp (BB B hm F hs) λσ H R h=>?_;obtain⟨ρ,M,rs,rm,q⟩:=h;refine⟨ρ,M,rs,rm,ma _ _ _ _ (λx O g9 vs H1 J j rd1=>?_) q⟩;obtain⟨xs,e1,G⟩:=g9;obtain⟨v,rfl,z⟩:=rd1.one;obtain⟨L,us,rfl,s1,_⟩:=dj j z e1;exact⟨L,isT x,us,rfl,s1,G _ H1 J j (Et z)⟩
end
end
variable{b:BT}{te:TEd}{src:TId}
section
noncomputable abbrev NC:=aw->Mem->List D->Prop
noncomputable abbrev TCd:=aw->Mem->List D->NC->Prop
def cu(T:TCd):Prop:=∀ρ M acc N N',(∀ρ' M' acc',N ρ' M' acc'->N' ρ' M' acc')->T ρ M acc N->T ρ M acc N'
structure ExtP(p:Wk)(M:Mem)(H:Hp)(M':Mem)(H':Hp):Prop where
 kp:∀a o,a≠p->fz (M a)=F2->H a=Z o->H' a=Z o
 nw:∀a o,fz (M a)=F2->H a=Z o->M' a=M a
section
variable{K:Frag}{M M' M'':Mem}{H H' H'':Hp}{p:Wk}
theorem ExtP.new(x:ExtP p M H M' H')(a:Wk)(o:HO)(n:M a=Y)(e:H a=Z o):M' a=Y:=(x.nw a o (by rw[n];rfl) e).trans n
theorem Ext.toP(x:Ext M H M' H'):ExtP p M H M' H':=⟨λa o _=>x.kp a o,x.nw⟩
theorem ExtP.refl:ExtP p M H M H:=⟨λ_ _ _ _ h=>h,λ_ _ _ _=>rfl⟩
theorem ExtP.trans(a:ExtP p M H M' H')(B:H p=Z (.lst vs))(j:∃vs',H' p=Z (.lst vs'))(b:ExtP p M' H' M'' H''):ExtP p M H M'' H'':=
 ⟨fun c o ne n h=>b.kp c o ne (by rw[a.nw c o n h];exact n) (a.kp c o ne n h),fun c o n h=>by
  have n':fz (M' c)=F2:=by rw[a.nw c o n h];exact n
  refine Eq.trans ?_ (a.nw c o n h)
  by_cases z:c=p
  ·subst z;obtain⟨vs',e⟩:=j;exact b.nw c _ n' e
  ·exact b.nw c o n' (a.kp c o z n h)⟩
theorem ExtP.stab(r:RM K M H)(j:H p=Z (.lst vs))(x:ExtP p M H M' H'):Stab H H' where
 tup:=λa xs e=>x.kp a _ (λz=>by subst z;rw[j]at e;cases e) (by rw[r.fzT e];rfl) e
 frz:=λa o u e=>x.kp a _ (λz=>by subst z;rw[j]at e;cases e) (r.fzF e) e
theorem qe{ho:HO}(j:H p=Z (.lst vs)):Stab H (upd H p ho):=⟨λa xs e=>by rw[am (λz=>by subst z;rw[j]at e;cases e)];exact e,λa o u e=>by rw[am (λz=>by subst z;rw[j]at e;cases e)];exact e⟩
theorem RM.side{ho:HO}(r:RM K M H)(n:M p=Y)(j:H p=Z (.lst vs)):RM K M (upd H p ho):=λa o e=>by
 have ne:a≠p:=λz=>by subst z;rw[n]at e;cases e
 exact(r a o e).mono (qe j) λB q=>by rw[am ne];exact q
end
def iB(K:Frag)(H:Hp)(p:Wk)(acc:List D):Prop:=∃vs,H p=Z (.lst vs)/\RDs K H acc vs
noncomputable def KC(K:Frag)(p:Wk)(M:Mem)(H:Hp)(N:St->Hp->Prop):NC:=λρ' M' acc'=>∀σ' H',ExtP p M H M' H'->RS K H' σ' ρ'->RM K M' H'->iB K H' p acc'->N σ' H'
noncomputable def lC(K:Frag)(p:Wk)(T:TCd):TC:=λσ H N=>∃ρ M acc,RS K H σ ρ/\RM K M H/\M p=Y/\iB K H p acc/\T ρ M acc (KC K p M H N)
theorem KC.ext{p:Wk}{M2 M':Mem}{H2:Hp}{N:St->Hp->Prop}{ρ:aw}{acc:List D}(z:H p=Z (.lst vs))(j:∃vs',H2 p=Z (.lst vs'))(x:ExtP p M H M2 H2)(h:KC K p M H N ρ M' acc):KC K p M2 H2 N ρ M' acc:=λσ' H' y=>h σ' H' (x.trans z j y)
noncomputable def dN(te:TEd):TCd:=λρ M acc N=>te ρ M λx M1=>acc.length<KG/\N ρ M1 (acc++[x])
noncomputable def bo:List TTd->TCd->TCd
 |[],tb=>tb
 |t::r,tb=>λρ M acc N=>t ρ M λb M1=>if b=F2 then bo r tb ρ M1 acc N else N ρ M1 acc
noncomputable def cw(b:BT)(tb:TCd)(chk:Mem->Prop)(N:NC):List D->NC
 |[]=>λρ M acc=>chk M/\N ρ M acc
 |x::xs=>λρ M acc=>chk M/\∃ρ',b x ρ=Z ρ'/\tb ρ' M acc (cw b tb chk N xs)
noncomputable def cX(src:TId)(b:BT)(tb:TCd):TCd:=λρ M acc N=>src ρ M λxs chk M1=>cw b tb chk N xs ρ M1 acc
noncomputable def iC(fr:List (Option Nat))(src:TId)(b:BT)(tb:TCd):TEd:=λρ M Q=>src ρ M λxs chk M1=>cw b tb chk (λ_ M' acc=>∀p,M' p=Y->Q (.ref p) (ag M' p (.lst acc))) xs (u6 fr ρ) M1 []
theorem bO(h:ad te):cu (dN te):=λρ M acc N N' i q=>h _ _ _ _ (λx F j=>(by obtain⟨z,B⟩:=j;exact⟨z,i _ _ _ B⟩)) q
theorem aR{tb:TCd}(z:cu tb):∀{ts:List TTd},(∀t∈ts,aI t)->cu (bo ts tb)
 |[],_=>z
 |t::r,h=>fun ρ M acc N N' i q=>h t KW _ _ _ _ (fun b F j=>by
  cases b with
  |true=>rw[if_pos rfl]at j⊢;exact aR z (λt' B=>h t' (KP _ B)) _ _ _ _ _ i j
  |false=>rw[if_neg B2]at j⊢;exact i _ _ _ j) q
theorem gW{b:BT}{tb:TCd}(z:cu tb){chk:Mem->Prop}{N N':NC}(i:∀ρ' M' acc',N ρ' M' acc'->N' ρ' M' acc'):∀(xs:List D) (ρ:aw) (M:Mem) (acc:List D),cw b tb chk N xs ρ M acc->cw b tb chk N' xs ρ M acc
 |[],ρ,M,acc,h=>⟨h.1,i _ _ _ h.2⟩
 |x::xs,ρ,M,acc,⟨c,ρ',e,q⟩=>⟨c,ρ',e,z _ _ _ _ _ (λρ2 M2 j B=>gW z i xs ρ2 M2 j B) q⟩
theorem j4{tb:TCd}(hs:bY src)(j:cu tb):cu (cX src b tb):=λρ M acc N N' i q=>hs _ _ _ _ (λxs c B z=>gW j i xs _ _ _ z) q
theorem mR{fr:List (Option Nat)}{tb:TCd}(hs:bY src)(j:cu tb):ad (iC fr src b tb):=λρ M Q Q' i q=>hs _ _ _ _ (λxs c F z=>gW j (λ_ M' acc B p n=>i _ _ (B p n)) xs _ _ _ z) q
section
variable{K:Frag}{p:Wk}
theorem gX(m:ad te)(σ:St)(H:Hp)(N:St->Hp->Prop)(h:lC K p (dN te) σ H N):AL p (lE K te) σ H N:=by
 obtain⟨ρ,M,acc,rs,rm,n,⟨vs,L,ra⟩,q⟩:=h;refine⟨ρ,M,rs,rm,m _ _ _ _ (λx Fn g9 v H1 F G J=>?_) q⟩;obtain⟨z,O⟩:=g9;have j:=F.keep p _ n L;have U:=F.new p _ n L;have st:=F.stab rm;have B:Stab H1 (upd H1 p (.lst (vs++[v]))):=qe j;refine⟨vs,j,by rw[ra.length];exact z,O σ _ ⟨λa o ne m' e=>?_,F.nw⟩ ((rs.mono st).mono B) (G.side U j) ⟨vs++[v],aD,((ra.mono st).mono B).append (RDs.cons (J.mono B) RDs.nil)⟩⟩
 rw[am ne];exact F.kp a o m' e
theorem jT{tb:TCd}(mb:cu tb):∀{ts:List TTd},(∀t∈ts,aI t)->∀(σ:St) (H:Hp) (N:St->Hp->Prop),lC K p (bo ts tb) σ H N->jI (ts.map (lT K)) (lC K p tb) σ H N
 |[],_,σ,H,N,h=>h
 |t::r,hm,σ,H,N,h=>by
  obtain⟨ρ,M,acc,rs,rm,n,⟨vs,G,ra⟩,q⟩:=h;refine⟨ρ,M,rs,rm,hm t KW _ _ _ _ (λb L F H1 z B=>?_) q⟩;have j:=z.keep p _ n G;have O:=z.new p _ n G;have st:=z.stab rm
  cases b with
  |false=>rw[if_neg B2]at F;dsimp only;rw[if_neg B2];exact F σ H1 z.toP (rs.mono st) B ⟨vs,j,ra.mono st⟩
  |true=>
   rw[if_pos rfl]at F;dsimp only;rw[if_pos rfl];exact jT mb (λt' J=>hm t' (KP _ J)) σ H1 N ⟨ρ,L,acc,rs.mono st,B,O,⟨vs,j,ra.mono st⟩,
    aR mb (λt' J=>hm t' (KP _ J)) _ _ _ _ _ (λρ' M' acc' k=>k.ext G ⟨vs,j⟩ z.toP) F⟩
theorem mU{tb:TCd}(mb:cu tb){chk:Mem->Prop}{J:It}{B:Mem}{Nd:NC}{N:St->Hp->Prop}{σ:St}{ρ:aw}{acc:List D}(it:fX K H1 xs chk J)(rs:RS K H1 σ ρ)(rm:RM K B H1)(n:B p=Y)(ac:iB K H1 p acc)(q:cw b tb chk Nd xs ρ B acc)(hN:∀ρ' M' acc' σ' H',ExtP p B H1 M' H'->RS K H' σ' ρ'->RM K M' H'->iB K H' p acc'->Nd ρ' M' acc'->N σ' H'):
 cN J (lG K b) (lC K p tb) N σ H1:=by
 obtain⟨JJ,F,_⟩:=id ac;refine⟨λi m σ H=>m=xs.length-i/\i<=xs.length/\∃ρ M acc,RS K H σ ρ/\RM K M H/\M p=Y/\iB K H p acc/\ExtP p B H1 M H/\cw b tb chk Nd (xs.drop i) ρ M acc,⟨xs.length,by simp,N7 _,ρ,B,acc,rs,rm,n,ac,ExtP.refl,q⟩,?_⟩
 rintro i m σ H ⟨rfl,hi,ρ,M,acc,rs,j,n,ac,x,q⟩;have st:=x.stab rm F;obtain⟨vs,hp,ra⟩:=id ac
 by_cases z:i<xs.length
 ·rw[Of z]at q;obtain⟨c,ρ',hb,q⟩:=q;obtain⟨go,yl⟩:=(it M H st j c i).2 z;refine .inr ⟨go,λσ' H'=>∃m',m'<xs.length-i/\(m'=xs.length-(i+1)/\i+1<=xs.length/\∃ρ M acc,RS K H' σ' ρ/\RM K M H'/\M p=Y/\iB K H' p acc/\ExtP p B H1 M H'/\cw b tb chk Nd (xs.drop (i+1)) ρ M acc),λσ' H' h=>h,λx' H' y=>?_⟩;obtain⟨yy,d,hd,rd⟩:=yl x' H' y;rw[z0 z]at hd
  cases hd
  obtain⟨xy,rmy⟩:=yy.ext j;have sty:=xy.stab j;have G:=xy.keep p _ n hp;refine⟨_,ρ,ρ',rd,rs.mono sty,hb,λσ2 O=>?_⟩;refine⟨ρ',M,acc,O,rmy,n,⟨vs,G,ra.mono sty⟩,mb _ _ _ _ _ (λρ3 M3 L q3 σ3 H3 x3 U Fn fv=>?_) q⟩;have n3:M3 p=Y:=x3.new p _ n G;exact⟨xs.length-(i+1),∅,rfl,z,ρ3,M3,L,U,Fn,n3,fv,(x.trans F ⟨vs,hp⟩ xy.toP).trans F ⟨vs,G⟩ x3,q3⟩
 ·have e:i=xs.length:=by lia
  subst e;rw[UW]at q;exact .inl ⟨(it M H st j q.1 _).1 (KO _),hN ρ M acc σ H x rs j ac q.2⟩
theorem j5{tb:TCd}(ms:bY src)(mb:cu tb)(σ:St)(H:Hp)(N:St->Hp->Prop)(h:lC K p (cX src b tb) σ H N):(lI K src) σ H λJ H1=>cN J (lG K b) (lC K p tb) N σ H1:=by obtain⟨ρ,M,acc,rs,rm,n,⟨vs,B,ra⟩,q⟩:=h;refine⟨ρ,M,rs,rm,ms _ _ _ _ (λxs chk O G J H1 z F it=>?_) q⟩;have j:=z.keep p _ n B;have L:=z.new p _ n B;have st:=z.stab rm;exact mU mb it (rs.mono st) F L ⟨vs,j,ra.mono st⟩ G λρ' M' acc' σ' H' x2 rs' rm' ac' k=>k σ' H' (z.toP.trans B ⟨vs,j⟩ x2) rs' rm' ac'
theorem eK{fr:List (Option Nat)}{tb:TCd}(ms:bY src)(mb:cu tb)(σ:St)(H:Hp)(Q:VK)(h:lE K (iC fr src b tb) σ H Q):tY (lI K src) (lG K b) (λp=>lC K p tb) fr σ H Q:=by
 obtain⟨ρ,M,rs,rm,q⟩:=h;refine⟨ρ,M,rs,rm,ms _ _ _ _ (λxs chk F O J H1 B j it p n=>?_) q⟩;have st:=B.stab rm;have xn:Ext F H1 F (upd H1 p (.lst [])):=Wa n;have stn:=xn.stab j;have L:F p=Y:=j.out n;refine mU (p:=p) mb (xs:=xs) (chk:=chk) (λM' H' st'=>it M' H' ⟨λa xs e=>st'.tup _ _ (stn.tup _ _ e),λa o u e=>st'.frz _ _ _ (stn.frz _ _ _ e)⟩) (((rs.mono st).mono stn).inh fr) (j.new n) L ⟨[],aD,RDs.nil⟩ O λρ' M' acc' σ' H' G rs' rm' ac' k=>?_;obtain⟨vs,U,ra⟩:=ac';have n':M' p=Y:=G.new p _ L aD;refine k p n' (.ref p) H' ⟨λa o m e=>?_,λa o m e=>?_⟩ (λa o e=>?_) (W0.mpr rfl)
 ·have e1:=B.kp a o m e;have ne:a≠p:=λz=>by subst z;rw[n]at e1;cases e1
  exact G.kp a o ne (by rw[B.nw a o m e];exact m) (by rw[am ne];exact e1)
 ·have e1:=B.kp a o m e;have ne:a≠p:=λz=>by subst z;rw[n]at e1;cases e1
  rw[aE ne];exact(G.nw a o (by rw[B.nw a o m e];exact m) (by rw[am ne];exact e1)).trans (B.nw a o m e)
 ·by_cases z:a=p
  ·subst z;rw[aa]at e;cases e;exact⟨vs,U,ra⟩
  ·rw[aE z]at e;exact rm' a o e
end
end
variable{c:TTd}{u:TSd}{i:Nat}
section
noncomputable def jU:TSd:=λD ρ M=>D.nx ρ M
noncomputable def zp(t u:TSd):TSd:=λD ρ M=>t {D with nx:=u D} ρ M
noncomputable def jV:TSd:=λD ρ M=>D.bk ρ M
noncomputable def ox:TSd:=λD ρ M=>D.ct ρ M
noncomputable def oy(te:TEd):TSd:=λD ρ M=>te ρ M λ_ M1=>D.nx ρ M1
noncomputable def uj(te:TEd):TSd:=λD ρ M=>te ρ M D.rt
noncomputable def sIf(c:TTd)(t u:TSd):TSd:=λD ρ M=>c ρ M λb M1=>if b=F2 then t D ρ M1 else u D ρ M1
noncomputable def lJ(te:TEd)(b:BT):TSd:=λD ρ M=>te ρ M λx M1=>∃ρ',b x ρ=Z ρ'/\D.nx ρ' M1
noncomputable def uk(ta:TAd)(bs:BTs):TSd:=λD ρ M=>ta ρ M λxs M1=>∃ρ',bs xs ρ=Z ρ'/\D.nx ρ' M1
noncomputable def cb(b:BT)(tb:TSd)(chk:Mem->Prop)(D:bX):List Mi.D->aw->Mem->Prop
 |[]=>λρ M=>chk M/\D.nx ρ M
 |x::xs=>λρ M=>chk M/\∃ρ',b x ρ=Z ρ'/\tb {D with nx:=cb b tb chk D xs,ct:=cb b tb chk D xs,bk:=D.nx} ρ' M
noncomputable def um(src:TId)(b:BT)(tb:TSd):TSd:=λD ρ M=>src ρ M λxs chk M1=>cb b tb chk D xs ρ M1
noncomputable def aH(c:TTd)(tb:TSd)(D:bX):Nat->aw->Mem->Prop
 |0=>λ_ _=>False
 |n+1=>λρ M=>c ρ M λb M1=>if b=F2 then tb {D with nx:=aH c tb D n,ct:=aH c tb D n,bk:=D.nx} ρ M1 else D.nx ρ M1
noncomputable def jW(c:TTd)(tb:TSd):TSd:=λD ρ M=>∃n,aH c tb D n ρ M
theorem mV:aJ jU:=λ_ _ _ _ h q=>h.nx _ _ q
theorem uo:aJ jV:=λ_ _ _ _ h q=>h.bk _ _ q
theorem ww:aJ ox:=λ_ _ _ _ h q=>h.ct _ _ q
theorem wx{t:TSd}(j:aJ t)(z:aJ u):aJ (zp t u):=λa b ρ M h q=>j {a with nx:=u a} {b with nx:=u b} _ _ ⟨λρ' M' q'=>z _ _ _ _ h q',h.rt,h.bk,h.ct⟩ q
theorem wy(h:ad te):aJ (oy te):=λa b ρ M i q=>h _ _ _ _ (λ_ z j=>i.nx _ _ j) q
theorem zq(h:ad te):aJ (uj te):=λa b ρ M i q=>h _ _ _ _ (λd z j=>i.rt _ _ j) q
theorem zr{t:TSd}(z:aI c)(B:aJ t)(F:aJ u):aJ (sIf c t u):=λa b ρ M i q=>z _ _ _ _ (λk G j=>by
 cases k with
 |true=>rw[if_pos rfl]at j⊢;exact B _ _ _ _ i j
 |false=>rw[if_neg B2]at j⊢;exact F _ _ _ _ i j) q
theorem zt{bt:BT}(h:ad te):aJ (lJ te bt):=λa b ρ M i q=>h _ _ _ _ (λd B j=>(by obtain⟨ρ',e,z⟩:=j;exact⟨ρ',e,i.nx _ _ z⟩)) q
theorem zu{ta:TAd}{bs:BTs}(h:aL ta):aJ (uk ta bs):=λa b ρ M i q=>h _ _ _ _ (λd B j=>(by obtain⟨ρ',e,z⟩:=j;exact⟨ρ',e,i.nx _ _ z⟩)) q
theorem gY{bt:BT}{tb:TSd}(j:aJ tb){chk:Mem->Prop}{a b:bX}(i:LeD a b):∀(xs:List D) (ρ:aw) (M:Mem),cb bt tb chk a xs ρ M->cb bt tb chk b xs ρ M
 |[],ρ,M,h=>⟨h.1,i.nx _ _ h.2⟩
 |x::xs,ρ,M,⟨c,ρ',e,q⟩=>⟨c,ρ',e,j {a with nx:=cb bt tb chk a xs,ct:=cb bt tb chk a xs,bk:=a.nx} {b with nx:=cb bt tb chk b xs,ct:=cb bt tb chk b xs,bk:=b.nx} _ _ ⟨λρ2 M2 z=>gY j i xs ρ2 M2 z,i.rt,i.nx,λρ2 M2 z=>gY j i xs ρ2 M2 z⟩ q⟩
theorem zw{bt:BT}{tb:TSd}(hs:bY src)(j:aJ tb):aJ (um src bt tb):=λa b ρ M i q=>hs _ _ _ _ (λxs c B z=>gY j i xs _ _ z) q
theorem fb{c:TTd}{tb:TSd}(z:aI c)(B:aJ tb){a b:bX}(i:LeD a b):∀(n:Nat) (ρ:aw) (M:Mem),aH c tb a n ρ M->aH c tb b n ρ M
 |0,ρ,M,h=>h
 |n+1,ρ,M,h=>z _ _ _ _ (fun k G j=>by
  cases k with
  |true=>rw[if_pos rfl]at j⊢;exact B {a with nx:=aH c tb a n,ct:=aH c tb a n,bk:=a.nx} {b with nx:=aH c tb b n,ct:=aH c tb b n,bk:=b.nx} _ _ ⟨λρ2 M2 F=>fb z B i n ρ2 M2 F,i.rt,i.nx,λρ2 M2 F=>fb z B i n ρ2 M2 F⟩ j
  |false=>rw[if_neg B2]at j⊢;exact i.nx _ _ j) h
theorem uq{tb:TSd}(j:aI c)(z:aJ tb):aJ (jW c tb):=λa b ρ M i g9=>(by obtain⟨n,q⟩:=g9;exact⟨n,fb j z i n _ _ q⟩)
section
variable{K:Frag}
theorem mW(D:bK)(σ:St)(H:Hp)(h:lS K jU D σ H):tN D σ H:=by obtain⟨ρ,M,A,rs,rm,l,q⟩:=h;exact l.nx ρ M σ H Ext.refl rs rm q
theorem ur(D:bK)(σ:St)(H:Hp)(h:lS K jV D σ H):vB D σ H:=by obtain⟨ρ,M,A,rs,rm,l,q⟩:=h;exact l.bk ρ M σ H Ext.refl rs rm q
theorem wz(D:bK)(σ:St)(H:Hp)(h:lS K ox D σ H):AB D σ H:=by obtain⟨ρ,M,A,rs,rm,l,q⟩:=h;exact l.ct ρ M σ H Ext.refl rs rm q
theorem zx{t:TSd}(mt:aJ t)(mu:aJ u)(D:bK)(σ:St)(H:Hp)(h:lS K (zp t u) D σ H):DA (lS K t) (lS K u) D σ H:=by obtain⟨ρ,M,A,rs,rm,l,q⟩:=h;exact⟨ρ,M,{A with nx:=u A},rs,rm,⟨λρ' M' σ' H' x rs' rm' q'=>⟨ρ',M',A,rs',rm',l.ext x,q'⟩,l.rt,l.bk,l.ct⟩,q⟩
theorem wB(m:ad te)(D:bK)(σ:St)(H:Hp)(h:lS K (oy te) D σ H):AC (lE K te) D σ H:=by obtain⟨ρ,M,A,rs,rm,l,q⟩:=h;exact⟨ρ,M,rs,rm,m _ _ _ _ (λd B F v H1 z j G=>l.nx ρ B σ H1 z (rs.mono (z.stab rm)) j F) q⟩
theorem zy(m:ad te)(D:bK)(σ:St)(H:Hp)(h:lS K (uj te) D σ H):DB (lE K te) D σ H:=by obtain⟨ρ,M,A,rs,rm,l,q⟩:=h;exact⟨ρ,M,rs,rm,m _ _ _ _ (λd B F v H1 G j z=>l.rt d B v H1 G j z F) q⟩
theorem Cc{t:TSd}(mc:aI c)(D:bK)(σ:St)(H:Hp)(h:lS K (sIf c t u) D σ H):DD (lT K c) (lS K t) (lS K u) D σ H:=by
 obtain⟨ρ,M,A,rs,rm,l,q⟩:=h;refine⟨ρ,M,rs,rm,mc _ _ _ _ (λk F z H1 B j=>?_) q⟩
 cases k with
 |true=>rw[if_pos rfl]at z⊢;exact⟨ρ,F,A,rs.mono (B.stab rm),j,l.ext B,z⟩
 |false=>rw[if_neg B2]at z⊢;exact⟨ρ,F,A,rs.mono (B.stab rm),j,l.ext B,z⟩
theorem zz(m:ad te)(D:bK)(σ:St)(H:Hp)(h:lS K (lJ te b) D σ H):oX (lE K te) (lG K b) D σ H:=by obtain⟨ρ,M,A,rs,rm,l,q⟩:=h;refine⟨ρ,M,rs,rm,m _ _ _ _ (λd F g9 v H1 B j z=>?_) q⟩;obtain⟨ρ',e,G⟩:=g9;exact⟨d,ρ,ρ',z,rs.mono (B.stab rm),e,λσ' rs'=>l.nx ρ' F σ' H1 B rs' j G⟩
theorem mX(m:ad te)(D:bK)(σ:St)(H:Hp)(h:lS K (lJ te (cr i)) D σ H):oX (lE K te) (jy i) D σ H:=by
 obtain⟨ρ,M,A,rs,rm,l,q⟩:=h;refine⟨ρ,M,rs,rm,m _ _ _ _ (λd z g9 v H1 j rm1 rd1=>?_) q⟩;obtain⟨ρ',e,B⟩:=g9
 cases e
 exact l.nx _ z _ H1 j ((rs.mono (j.stab rm)).set i rd1) rm1 B
theorem zA{tb:TSd}(ms:bY src)(mb:aJ tb)(D:bK)(σ:St)(H:Hp)(h:lS K (um src b tb) D σ H):DL (lI K src) (lG K b) (lS K tb) D σ H:=by
 obtain⟨ρ,M,A,rs,rm,l,q⟩:=h;refine⟨ρ,M,rs,rm,ms _ _ _ _ (λxs chk M1 q1 J H1 x1 G it=>?_) q⟩;refine⟨λi m σ H'=>m=xs.length-i/\i<=xs.length/\∃ρ M2,RS K H' σ ρ/\RM K M2 H'/\Ext M1 H1 M2 H'/\cb b tb chk A (xs.drop i) ρ M2,⟨xs.length,by simp,N7 _,ρ,M1,rs.mono (x1.stab rm),G,Ext.refl,q1⟩,?_⟩
 rintro i m σ2 H2 ⟨rfl,hi,ρ2,M2,L,j,x2,O⟩;have U:=x2.stab G
 by_cases B:i<xs.length
 ·rw[Of B]at O;obtain⟨c,ρ',hb,q3⟩:=O;obtain⟨go,yl⟩:=(it M2 H2 U j c i).2 B;refine .inr ⟨go,λσ' H'=>∃m',m'<xs.length-i/\(m'=xs.length-(i+1)/\i+1<=xs.length/\∃ρ M,RS K H' σ' ρ/\RM K M H'/\Ext M1 H1 M H'/\cb b tb chk A (xs.drop (i+1)) ρ M),λσ' H' h=>h,λx' H' y=>?_⟩;obtain⟨yy,d,hd,rd⟩:=yl x' H' y;rw[z0 B]at hd
  cases hd
  obtain⟨xy,rmy⟩:=yy.ext j;have Fn:=x1.trans (x2.trans xy);refine⟨_,ρ2,ρ',rd,L.mono (xy.stab j),hb,λσ3 JJ=>?_⟩;have nx:∀ρ5 F σ5 z,Ext M2 H' F z->RS K z σ5 ρ5->RM K F z->cb b tb chk A (xs.drop (i+1)) ρ5 F->∃m',m'<xs.length-i/\(m'=xs.length-(i+1)/\i+1<=xs.length/\∃ρ M,RS K z σ5 ρ/\RM K M z/\Ext M1 H1 M z/\cb b tb chk A (xs.drop (i+1)) ρ M):=λρ5 F σ5 z fv JK JL q5=>⟨xs.length-(i+1),∅,rfl,B,ρ5,F,JK,JL,(x2.trans xy).trans fv,q5⟩
  refine⟨ρ',M2,{A with nx:=cb b tb chk A (xs.drop (i+1)),ct:=cb b tb chk A (xs.drop (i+1)),bk:=A.nx},JJ,rmy,⟨nx,λd F v z fv=>l.rt d F v z (Fn.trans fv),λρ5 F σ5 z fv=>l.nx ρ5 F σ5 z (Fn.trans fv),nx⟩,q3⟩
 ·have e:i=xs.length:=by lia
  subst e;rw[UW]at O;exact .inl ⟨(it M2 H2 U j O.1 _).1 (KO _),l.nx ρ2 M2 σ2 H2 (x1.trans x2) L j O.2⟩
theorem ut{tb:TSd}(mc:aI c)(mb:aJ tb)(D:bK)(σ:St)(H:Hp)(h:lS K (jW c tb) D σ H):vC (lT K c) (lS K tb) D σ H:=by
 obtain⟨ρ,M,A,rs,rm,l,n,q⟩:=h;refine⟨λm σ' H'=>∃ρ' M',RS K H' σ' ρ'/\RM K M' H'/\Ext M H M' H'/\aH c tb A m ρ' M',⟨n,ρ,M,rs,rm,Ext.refl,q⟩,?_⟩;rintro m σ1 H1 ⟨ρ1,M1,J,L,x1,q1⟩
 cases m with
 |zero=>exact q1.elim
 |succ m=>
  refine⟨ρ1,M1,J,L,mc _ _ _ _ (λk M2 fv H2 x2 O=>?_) q1⟩;have j:=x1.trans x2;have U:=J.mono (x2.stab L)
  cases k with
  |false=>rw[if_neg B2]at fv;dsimp only;rw[if_neg B2];exact l.nx ρ1 M2 σ1 H2 j U O fv
  |true=>
   rw[if_pos rfl]at fv;dsimp only;rw[if_pos rfl];refine⟨λσ' H'=>∃ρ' M',RS K H' σ' ρ'/\RM K M' H'/\Ext M H M' H'/\aH c tb A m ρ' M',λσ' H' h=>⟨m,UX m,h⟩,ρ1,M2,{A with nx:=aH c tb A m,ct:=aH c tb A m,bk:=A.nx},U,O,⟨?_,λd z v Fn B=>l.rt d z v Fn (j.trans B),λρ5 z σ5 Fn B=>l.nx ρ5 z σ5 Fn (j.trans B),?_⟩,fv⟩
   ·exactλρ5 z σ5 Fn B F G q5=>⟨ρ5,z,F,G,j.trans B,q5⟩
   ·exactλρ5 z σ5 Fn B F G q5=>⟨ρ5,z,F,G,j.trans B,q5⟩
end
noncomputable def fZ:D->D->D->Mem->(Mem->Prop)->Prop:=λo i v M Q=>∃a,o=.ref a /\
 ((∃xs k j,i=.int k/\M a=Z (.lst xs)/\ixN xs.length k=Z j/\Q (ag M a (.lst (xs.set j v)))) ∨
  ∃t kvs,M a=Z (.dct t kvs)/\eJ t i=F2/\kvs.length<KG/\Q (ag M a (.dct t (eY kvs i v))))
noncomputable def uu(te to ti:TEd):TSd:=λD ρ M=>te ρ M λv M1=>to ρ M1 λo M2=>ti ρ M2 λi M3=>fZ o i v M3 λM4=>D.nx ρ M4
theorem mY{o i v:D}{Q Q':Mem->Prop}(h:∀M',Q M'->Q' M')(q:fZ o i v M Q):fZ o i v M Q':=by
 obtain⟨a,e,⟨xs,k,j,e1,e2,z,q⟩|⟨t,kvs,e1,e2,z,q⟩⟩:=q
 ·exact⟨a,e,.inl ⟨xs,k,j,e1,e2,z,h _ q⟩⟩
 ·exact⟨a,e,.inr ⟨t,kvs,e1,e2,z,h _ q⟩⟩
theorem zB{to ti:TEd}(he:ad te)(ho:ad to)(hi:ad ti):aJ (uu te to ti):=λa b ρ M i q=>he _ _ _ _ (λv F j=>ho _ _ _ _ (λo M2 z=>hi _ _ _ _ (λk G B=>mY (λM' q'=>i.nx _ _ q') B) z) j) q
section
variable{X:Cx}{K:Frag}
theorem qf(j:X.A.units+1<Ol):PSet X (λo i v H Q=>∃a H',o=.ref a/\DPut H a i v H'/\Q H'):=by
 intro pins s σ H o i v ov iv u Q I ro ri rv h;obtain⟨a,H',rfl,g,q⟩:=h
 cases ro
 exact vQ j I g ri rv λs' I'=>⟨H',I',q⟩
theorem PSet.or{t t':kY}(h:PSet X t)(h':PSet X t'):PSet X (λo i v H Q=>t o i v H Q∨t' o i v H Q):=by
 intro pins s σ H o i v ov iv u Q I ro ri rv q
 rcases q with q|q
 ·exact h pins s σ H o i v ov iv u Q I ro ri rv q
 ·exact h' pins s σ H o i v ov iv u Q I ro ri rv q
section
variable{κ:Type}[DecidableEq κ]{H:Hp}{RK:D->κ->Prop}(inj:∀{d e:D} {k:κ},RK d k->RK e k->d=e)(fn:∀{d:D} {k k':κ},RK d k->RK d k'->k=k')
include inj fn
theorem sn{k:D}{q:κ}(j:RK k q):∀{kvs:List (D×D)} {ps:List (κ×V)},Me (λp r=>RK p.1 r.1/\RD K H p.2 r.2) kvs ps->
 (kvs.any λp=>decide (p.1=k))=(ps.any λp=>decide (p.1=q))
 |_,_,.nil=>rfl
 |_,_,.cons (a:=p) (b:=r) hr t=>by
  rw[N8,N8,sn j t];congr 1
  by_cases e:p.1=k
  ·have e':r.1=q:=by have h1:=hr.1;rw[e]at h1;exact fn h1 j
   rw[decide_eq_true e,decide_eq_true e']
  ·have e':¬r.1=q:=λz=>e (by have h1:=hr.1;rw[z]at h1;exact inj h1 j)
   rw[decide_eq_false e,decide_eq_false e']
theorem su{k:D}{q:κ}(B:RK k q){d:D}{v:V}(F:RD K H d v):∀{kvs:List (D×D)} {ps:List (κ×V)},Me (λp r=>RK p.1 r.1/\RD K H p.2 r.2) kvs ps->
 Me (λp r=>RK p.1 r.1/\RD K H p.2 r.2) (kvs.map λp=>if p.1=k then(p.1,d)else p) (ps.map λp=>if p.1=q then(p.1,v)else p)
 |_,_,.nil=>.nil
 |_,_,.cons (a:=p) (b:=r) j t=>by
  refine .cons ?_ (su B F t)
  by_cases e:p.1=k
  ·have e':r.1=q:=by have h1:=j.1;rw[e]at h1;exact fn h1 B
   dsimp only;rw[if_pos e,if_pos e'];exact⟨j.1,F⟩
  ·have e':¬r.1=q:=λz=>e (by have h1:=j.1;rw[z]at h1;exact inj h1 B)
   dsimp only;rw[if_neg e,if_neg e'];exact j
theorem qg{k:D}{q:κ}(j:RK k q){d:D}{v:V}(z:RD K H d v){kvs:List (D×D)}{ps:List (κ×V)}(r:Me (λp r=>RK p.1 r.1/\RD K H p.2 r.2) kvs ps):
 Me (λp r=>RK p.1 r.1/\RD K H p.2 r.2) (eY kvs k d) (cA ps q v):=by
 unfold eY cA;rw[sn (K:=K) (H:=H) (RK:=RK) inj fn j r]
 by_cases e:(ps.any λp=>decide (p.1=q))=F2
 ·rw[if_pos e,if_pos e];exact su (RK:=RK) inj fn j z r
 ·rw[if_neg e,if_neg e];exact r.snoc ⟨j,z⟩
end
theorem qh{o i v:D}{ov iv vv:V}{Qd:Mem->Prop}{Q:Hp->Prop}(rm:RM K M H)(ro:RD K H o ov)(ri:RD K H i iv)(rv:RD K H v vv)(h:fZ o i v M Qd)(J:∀M' H',Ext M H M' H'->RM K M' H'->Qd M'->Q H'):
 AI ov iv vv H Q∨∃a H',ov=.ref a/\DPut H a iv vv H'/\Q H':=by
 obtain⟨a,rfl,⟨xs,k,j,rfl,e2,G,q⟩|⟨t,kvs,e1,e2,G,q⟩⟩:=h
 ·cases W0.mp ro
  cases VZ.mp ri
  obtain⟨vs,U,rs⟩:=rm _ _ e2;have st:Stab H (upd H a (.lst (vs.set j vv))):=rm.stabPut e2;exact .inl ⟨a,vs,k,j,rfl,rfl,U,by rw[rs.length];exact G,J _ _ (Ext.put e2) (rm.put (o:=.lst (xs.set j v)) e2 ⟨_,aD,(rs.set j rv).mono st⟩) q⟩
 ·cases W0.mp ro
  have ro':=rm _ _ e1
  cases t with
  |false=>obtain⟨ps,L,pr⟩:=ro';obtain⟨kq,F⟩:=pK (show fT i=F2 from e2);have st:Stab H (upd H a (.dK (cA ps kq vv))):=rm.stabPut e1;have B:=qg (RK:=RKey) RKey.inj RKey.fun F rv pr;rw[ll F ri];refine .inr ⟨a,_,rfl,DPut.k L (by rw[<-PD pr];exact G),J _ _ (Ext.put e1) (rm.put (o:=.dct Wj (eY kvs i v)) e1 ⟨_,aD,W3 B λ_ _ z=>⟨z.1,z.2.mono st⟩⟩) q⟩
  |true=>
   obtain⟨ps,L,pr⟩:=ro';obtain⟨kq,F⟩:=se (show ee i=F2 from e2);have st:Stab H (upd H a (.dT (cA ps kq vv))):=rm.stabPut e1;have B:=qg (RK:=RKeys) RKeys.inj RKeys.fun F rv pr
   cases i<;>first
    |exact F.elim
    | (obtain⟨b,us,rfl,O,ru⟩:=Wi (sg e2) ri
       rw[jc F ru]at O;exact .inr ⟨a,_,rfl,DPut.t L O (by rw[<-PD pr];exact G),J _ _ (Ext.put e1) (rm.put (o:=.dct F2 (eY kvs _ v)) e1 ⟨_,aD,W3 B λ_ _ z=>⟨z.1,z.2.mono st⟩⟩) q⟩)
theorem Eu {o i e:Expr}{to ti:TEd}{tpos:Pos}(hu:X.A.units+1<Ol)(me:ad te)(mo:ad to)(mi:ad ti)(he:PE X e (lE X.K te))(ho:PE X o (lE X.K to))(hi:PE X i (lE X.K ti))(hs:PF [.Subscript o i tpos] e pos.line X.env=pure Wj)(hw:Ou [.Subscript o i tpos] e X.env=pure Y)(ha:∀v,assign (.Subscript o i tpos) X.env v=(do
   let ov <-holding [v] (eval o X.env)
   let iv <-holding [v,ov] (eval i X.env)
   Rt tpos
   holding [v,ov,iv] (Tp ov iv v)
   release [v,ov,iv] [])):PS X (.Assign [.Subscript o i tpos] e pos) (lS X.K (uu te to ti)):=by
 refine PS.imp (oY he (DG ho hi (PSet.or ph (qf hu)) ha) hs hw rfl) λD σ H h=>?_;obtain⟨ρ,M,A,rs,rm,l,q⟩:=h;refine⟨ρ,M,rs,rm,me _ _ _ _ (λv M1 q1 vv H1 F j G=>?_) q⟩;refine⟨ρ,M1,rs.mono (F.stab rm),j,mo _ _ _ _ (λov M2 q2 vo H2 J z L=>?_) q1⟩;refine⟨ρ,M2,(rs.mono (F.stab rm)).mono (J.stab j),z,mi _ _ _ _ (λiv M3 q3 vi H3 O U Fn=>?_) q2⟩;have B:=F.trans (J.trans O);exact qh U (L.mono (O.stab z)) Fn ((G.mono (J.stab j)).mono (O.stab z)) q3 λM' H' x4 fv q4=>l.nx ρ M' σ H' (B.trans x4) (rs.mono ((B.trans x4).stab rm)) fv q4
noncomputable def jX:R2d
 |.int i,.int j,M,Q=>Q (.int (i+j)) M
 |_,_,_,_=>False
noncomputable def jY:R2d
 |.int i,.int j,M,Q=>Q (.int (i-j)) M
 |_,_,_,_=>False
noncomputable def jZ:R2d
 |.int i,.int j,M,Q=>MulOk i j/\Q (.int (i*j)) M
 |_,_,_,_=>False
theorem gZ:aG jX:=by
 intro x y M Q Q' h q
 cases x<;>cases y<;>first|exact q.elim|exact h _ _ q
theorem hJ:aG jY:=by
 intro x y M Q Q' h q
 cases x<;>cases y<;>first|exact q.elim|exact h _ _ q
theorem hW:aG jZ:=by
 intro x y M Q Q' h q
 cases x<;>cases y<;>first|exact q.elim|exact⟨q.1,h _ _ q.2⟩
theorem mZ:OpR X (NW .Add) (l2 X.K jX):=by
 refine OpR.of Bm λv u H Q h=>?_;obtain⟨x,y,M,rm,rx,ry,q⟩:=h
 cases x<;>cases y<;>first
  |exact q.elim
  |(cases VZ.mp rx;cases VZ.mp ry;exact⟨_,_,rfl,rfl,q _ H Ext.refl rm (VZ.mpr rfl)⟩)
theorem n4:OpR X (NW .Sub) (l2 X.K jY):=by
 refine OpR.of Bn λv u H Q h=>?_;obtain⟨x,y,M,rm,rx,ry,q⟩:=h
 cases x<;>cases y<;>first
  |exact q.elim
  |(cases VZ.mp rx;cases VZ.mp ry;exact⟨_,_,rfl,rfl,q _ H Ext.refl rm (VZ.mpr rfl)⟩)
theorem wD:OpR X (NW .Mult) (rI MulOk λi j=>.int (i*j)):=opI λ_ _ _ _ _ _ _ z q=>imul_int q z.ok
theorem n9:OpR X (NW .Mult) (l2 X.K jZ):=by
 refine OpR.of wD λv u H Q h=>?_;obtain⟨x,y,M,rm,rx,ry,q⟩:=h
 cases x<;>cases y<;>first
  |exact q.elim
  |(cases VZ.mp rx;cases VZ.mp ry;exact⟨_,_,rfl,rfl,q.1,q.2 _ H Ext.refl rm (VZ.mpr rfl)⟩)
noncomputable def uv(i:Nat)(rd:R2d)(te:TEd):TSd:=λD ρ M=>∃x,ρ[i]?=Z (Z x)/\te ρ M λy M1=>rd x y M1 λz M2=>D.nx (ρ.set i (Z z)) M2
theorem zC{rd:R2d}(j:aG rd)(he:ad te):aJ (uv i rd te):=λa b ρ M l g9=>(by obtain⟨x,e,q⟩:=g9;exact⟨x,e,he _ _ _ _ (λy G B=>j _ _ _ _ _ (λz M2 F=>l.nx _ _ F) B) q⟩)
theorem ka{x:Str}{e:Expr}{op:Pa}{rd:R2d}(U:X.N.Nodup)(hi:X.N[i]?=Z x)(hx:Loc X.env.scope x)(he:PE X e (lE X.K te))(ho:OpR X (NW op) (l2 X.K rd))(Fn:aG rd)(me:ad te)(hf:X.fn x=F2∨X.env.scope.names.lookup x=Z .local):PS X (.AugAssign (.Name x pos') op e pos) (lS X.K (uv i rd te)):=by refine PS.imp (DJ U hi hx he (ti:=l2 X.K rd) ho hf) λD σ H h=>?_;obtain⟨ρ,M,A,rs,rm,l,d,e,q⟩:=h;obtain⟨v,fv,j⟩:=rs.2 i d e;refine⟨v,fv,ρ,M,rs,rm,me _ _ _ _ (λy M1 q1 u H1 B F G=>?_) q⟩;refine⟨d,y,M1,F,j.mono (B.stab rm),G,Fn _ _ _ _ _ (λz M2 q2 w H2 O J L=>?_) q1⟩;exact l.nx _ M2 _ H2 (B.trans O) ((rs.mono ((B.trans O).stab rm)).set i L) J q2
end
end
end Mi
end
namespace Mi
variable{K:Frag}
theorem wF{ta:TAd}{i j:Nat}(m:aL ta)(D:bK)(σ:St)(H:Hp)(h:lS K (uk ta (cF (cr i) (cF (cr j) je))) D σ H):DH i j (lA K ta) D σ H:=by
 obtain⟨ρ,M,A,rs,rm,l,q⟩:=h;refine⟨ρ,M,rs,rm,m _ _ _ _ (λds G g9 vs H1 F B z=>?_) q⟩;obtain⟨ρ',e,J⟩:=g9
 match ds,e,z with
 |[d1,d2],e,z=>obtain⟨v,u,rfl,L,O⟩:=z.two;simp only[cF,cr,je,Po,UA]at e;subst e;exact⟨v,u,rfl,l.nx _ G _ H1 F (((rs.mono (F.stab rm)).set i L).set j O) B J⟩
end Mi
section
section
variable{X:Cx}
theorem zD:DK X (λo i H Q=>∃a xs k x,o=.ref a/\i=.int k/\SqL X.K H a xs/\atI xs k=Z x/\Q x H):=by
 intro pins s σ H o i ov iv Q I ro ri h;obtain⟨a,xs,k,x,rfl,rfl,sq,he,q⟩:=h
 cases ro
 obtain⟨t,rfl⟩:=ri;obtain⟨its,r,pl,J⟩:=I.list sq;obtain⟨j,h1,h2,L,B,F⟩:=kZ he;obtain⟨w,ew,rw'⟩:=r.get h2;have G:=r.length;have O:=fj;have fin:EP X pins σ Q w s:=⟨x,H,I,rw',q⟩
 by_cases h0:0<=k
 ·have z:k.toNat=j:=Ml.inj (by rw[<-h1,T3 h0 F])
  exact wpAny_getItem_list pl.isList h0 ∅ (by rw[z];simpa using ew) fin
 ·have z:(k+(its.toArray.size:Int)).toNat=j:=by
   rw[KJ,<-G];exact Ml.inj (by rw[<-h1,Sn ∅ B])
  exact Sr pl.isList ∅ (by rw[KJ];lia) ∅ (by rw[z];simpa using ew) fin
end
namespace Mi
section
variable{X:Cx}
noncomputable def AO:R2d:=λx y M Q=>∃a ds k d,x=.ref a/\y=.int k/\M a=Z (.lst ds)/\atI ds k=Z d/\Q d M
theorem wG:aG AO:=λ_ _ _ _ _ h j=>(by obtain⟨a,ds,k,d,e1,e2,z,B,q⟩:=j;exact⟨a,ds,k,d,e1,e2,z,B,h _ _ q⟩)
noncomputable def oz(to ti te:TEd)(rd:R2d):TSd:=λD ρ M=>to ρ M λo M1=>ti ρ M1 λi M2=>AO o i M2 λx M3=>te ρ M3 λy M4=>rd x y M4 λz M5=>fZ o i z M5 λM6=>D.nx ρ M6
theorem wH{to ti te:TEd}{rd:R2d}(ho:ad to)(hi:ad ti)(he:ad te)(j:aG rd):aJ (oz to ti te rd):=λa b ρ M l q=>ho _ _ _ _ (λo U B=>hi _ _ _ _ (λi M2 F=>wG _ _ _ _ _ (λx Fn G=>he _ _ _ _ (λy fv J=>j _ _ _ _ _ (λz M5 L=>mY (λM6 O=>l.nx _ _ O) L) J) G) F) B) q
theorem lK{o i e:Expr}{to ti te:TEd}{op:Pa}{rd:R2d}{pos tpos:Pos}(hu:X.A.units+1<Ol)(mo:ad to)(mi:ad ti)(me:ad te)(hr:aG rd)(ho:PE X o (lE X.K to))(hi:PE X i (lE X.K ti))(he:PE X e (lE X.K te))(J:OpR X (NW op) (l2 X.K rd))(ha:∀ov iv new,augStore i ov iv new=(do holding [new,ov,iv] (Tp ov iv new);release [new,ov,iv] [];pure .next)):PS X (.AugAssign (.Subscript o i tpos) op e pos) (lS X.K (oz to ti te rd)):=by
 refine PS.imp (Bl ho hi zD he (tip:=l2 X.K rd) J (PSet.or ph (qf hu)) ha) λD σ H h=>?_;obtain⟨ρ,M,A,rs,rm,l,q⟩:=h;refine⟨ρ,M,rs,rm,mo _ _ _ _ (λd1 M1 q1 v1 H1 x1 j L=>?_) q⟩;have B:=rs.mono (x1.stab rm);refine⟨ρ,M1,B,j,mi _ _ _ _ (λd2 M2 q2 v2 H2 O z U=>?_) q1⟩;have Fn:=B.mono (O.stab j);have F:=L.mono (O.stab j);obtain⟨a,ds,k,d,rfl,rfl,e3,e4,q3⟩:=q2
 cases W0.mp F
 cases VZ.mp U
 obtain⟨vs,fv,rv⟩:=z _ _ e3;obtain⟨v3,JJ,JK⟩:=jN rv e4;refine⟨a,vs,k,v3,rfl,rfl,SqL.of fv,JJ,?_⟩;refine⟨ρ,M2,Fn,z,me _ _ _ _ (λd4 M4 q4 v4 H4 x4 JL JM=>?_) q3⟩;refine⟨d,d4,M4,JL,JK.mono (x4.stab z),JM,hr _ _ _ _ _ (λd5 M5 q5 v5 H5 x5 JN JO=>?_) q4⟩;have G:=((x1.trans O).trans x4).trans x5;exact qh JN (W0.mpr rfl) (VZ.mpr rfl) JO q5 λM' H' x6 JP q6=>l.nx ρ M' σ H' (G.trans x6) (rs.mono ((G.trans x6).stab rm)) JP q6
end
section
section
variable{X:Cx}
noncomputable def oA(t:Bool):TEd:=λ_ M Q=>∀p,M p=Y->Q (.ref p) (ag M p (.dct t []))
theorem wJ{t:Bool}:ad (oA t):=λ_ _ _ _ i q p n=>i _ _ (q p n)
theorem Cd{t:Bool}{pos:Pos}:PE X (.Dict [] [] pos) (lE X.K (oA t)):=by
 cases t with
 |false=>refine PE.imp yC λσ H Q g9 p n=>?_;obtain⟨ρ,M,rs,rm,q⟩:=g9;exact q p (rm.out n) (.ref p) _ (Ext.lay n) (rm.lay n ⟨[],aD,.nil⟩) (W0.mpr rfl)
 |true=>refine PE.imp yD λσ H Q g9 p n=>?_;obtain⟨ρ,M,rs,rm,q⟩:=g9;exact q p (rm.out n) (.ref p) _ (Ext.lay n) (rm.lay n ⟨[],aD,.nil⟩) (W0.mpr rfl)
end
end
end Mi
end
namespace Srt
structure Cm(prog:L4)(w:Lq)(A:Lv)(s:r0)(kd:QJ)(P:Lm->Prop)(lt:Lm->Lm->Bool):Prop where
 asym:∀x y,lt x y=F2->lt y x=Wj
 neg:∀x y z,lt x z=F2->lt x y=F2∨lt y z=F2
 run:∀(x y:Lm) (E:h8->r0->Prop) (Q:Bool->r0->Prop),P x->P y->Q (lt x y) s->KN (Lk prog w) A (keyLt' kd x.1 y.1) Q E s
variable{M:QU}{x y:Lm}{i:Nat}
section
variable{prog:L4}{w:Lq}{A:Lv}{E:h8->r0->Prop}{s:r0}{kd:QJ}{P:Lm->Prop}{lt:Lm->Lm->Bool}
theorem aA{σ α:Type}{x:α}{st:σ}{Q:α->σ->Prop}(q:Q x st):wpS M A E s (pure x) Q st:=λ_ _ _=>⟨rfl,q⟩
theorem qi{σ:Type}{tag:String}{st:σ}{Q:Unit->σ->Prop}(q:Q () st):wpS M A E s (liftM (PySem.rule tag)) Q st:=wpS_lift (Mw ⟨rfl,q⟩)
theorem Gc(c:Cm prog w A s kd P lt){st:Nu}{Q:Option Bool->Nu->Prop}(j:NS st=kd)(hx:P x)(z:P y)(q:Q (Z (lt x y)) st):wpS (Lk prog w) A E s (lt' x y) Q st:=by rw[lt'_eq];refine LM (UB ?_);refine LM (wpS_lift ?_);rw[j];intro Γ p hp;rw[Sem.wp_attempt];exact c.run x y (λe s'=>s'=s/\wpS (Lk prog w) A E s (do modify λs=>Qu (NS s) (LP s) (NY s) (gallopOf s) (Z e);pure Y) Q st) (λb s'=>s'=s/\wpS (Lk prog w) A E s (pure (Z b)) Q st) hx z ⟨rfl,aA q⟩ Γ p hp
theorem sv{arr:Array Lm}{st:Nu}{Q:Lm->Nu->Prop}(h:arr[i]?=Z x)(q:Q x st):wpS (Lk prog w) A E s (elem' arr i) Q st:=by rw[elem'_eq,h];exact aA q
theorem Cm.le_trans(c:Cm prog w A s kd P lt){z:Lm}(h:lt y x=Wj)(h2:lt z y=Wj):lt z x=Wj:=by
 cases e:lt z x with
 |false=>rfl
 |true=>rcases c.neg z y x e with q|q<;>simp_all
theorem Cm.irr(c:Cm prog w A s kd P lt):lt x x=Wj:=by
 cases e:lt x x with
 |false=>rfl
 |true=>have:=c.asym x x e;rw[e]at this;exact this
theorem bR{σ α:Type}{m:StateT σ Sem α}{st:σ}{Q Q':α->σ->Prop}(h:wpS M A E s m Q st)(q:∀a st',Q a st'->Q' a st'):wpS M A E s m Q' st:=Md h (λa s' z=>⟨z.1,q _ _ z.2⟩) λ_ _ z=>z
end
noncomputable def bey(lt:Lm->Lm->Bool)(left:Bool)(key x:Lm):Bool:=if left=F2 then lt x key else !(lt key x)
structure Same(st st':Nu):Prop where
 arr:LP st'=LP st
 kind:NS st'=NS st
 pend:NY st'=NY st
 fail:PN st'=PN st
variable{left:Bool}{key:Lm}{xs l:List Lm}{j:Nat}
section
variable{prog:L4}{w:Lq}{A:Lv}{E:h8->r0->Prop}{s:r0}{kd:QJ}{P:Lm->Prop}{lt:Lm->Lm->Bool}
theorem qj(c:Cm prog w A s kd P lt)(h:lt y x=Wj)(j:bey lt left key y=F2):bey lt left key x=F2:=by
 unfold bey at j⊢
 cases left with
 |true=>
  rw[if_pos rfl]at j⊢
  rcases c.neg y x key j with q|q
  ·rw[h]at q;cases q
  ·exact q
 |false=>
  simp at j⊢
  cases e:lt key x with
  |false=>rfl
  |true=>
   rcases c.neg key y x e with q|q
   ·rw[j]at q;cases q
   ·rw[h]at q;cases q
structure Gal(lt:Lm->Lm->Bool)(left:Bool)(key:Lm)(xs:List Lm)(lo hi:Nat):Prop where
 le:lo<=hi
 len:hi<=xs.length
 up:∀i x,i<lo->xs[i]?=Z x->bey lt left key x=F2
 dn:∀i x,hi<=i->xs[i]?=Z x->bey lt left key x=Wj
theorem kb{R:Lm->Lm->Prop}(h:xs.Pairwise R)(z:i<j)(hx:xs[i]?=Z x)(B:xs[j]?=Z y):R x y:=by obtain⟨h1,e1⟩:=KQ.mp hx;obtain⟨h2,e2⟩:=KQ.mp B;rw[<-e1,<-e2];exact List.pairwise_iff_getElem.mp h i j h1 h2 z
theorem Gd(c:Cm prog w A s kd P lt)(h:xs.Pairwise (λx y=>lt y x=Wj))(z:xs[j]?=Z y)(B:bey lt left key y=F2):∀i x,i<j+1->xs[i]?=Z x->bey lt left key x=F2:=by
 intro i x hi hx
 by_cases e:i=j
 ·subst e;rw[hx]at z;cases z;exact B
 ·exact qj c (kb h ∅ hx z) B
theorem Gf(c:Cm prog w A s kd P lt)(h:xs.Pairwise (λx y=>lt y x=Wj))(z:xs[j]?=Z y)(B:bey lt left key y=Wj):∀i x,j<=i->xs[i]?=Z x->bey lt left key x=Wj:=by
 intro i x hi hx
 by_cases e:i=j
 ·subst e;rw[hx]at z;cases z;exact B
 ·cases q:bey lt left key x with
  |false=>rfl
  |true=>have:=qj c (kb h ∅ z hx) q;rw[B]at this;cases this
theorem Gal.out{k:Nat}(g:Gal lt left key xs k k):∃X Fn,xs=X++Fn/\X.length=k/\(∀x∈X,bey lt left key x=F2)/\(∀x∈Fn,bey lt left key x=Wj):=by
 refine⟨xs.take k,xs.drop k,(MP k xs).symm,by rw[Ll];exact MW g.len,λx hx=>?_,λx hx=>?_⟩
 ·obtain⟨i,hi,e⟩:=Oq.mp hx;rw[Ll]at hi;exact g.up i x ∅ (by rw[List.getElem_take]at e;rw[<-e];exact z0 _)
 ·obtain⟨i,hi,e⟩:=Oq.mp hx;rw[N6]at hi;refine g.dn (k+i) x ∅ ?_
  rw[List.getElem_drop]at e;rw[<-e];exact z0 _
noncomputable abbrev Ord(lt:Lm->Lm->Bool)(l:List Lm):Prop:=l.Pairwise λx y=>lt y x=Wj
structure ML(lt:Lm->Lm->Bool)(la lb out:List Lm)(ia ib:Nat):Prop where
 pa:Ord lt (out++la.drop ia)
 pb:Ord lt (out++lb.drop ib)
 pm:(out++(la.drop ia++lb.drop ib)).Perm (la++lb)
theorem zE(h:l[i]?=Z x):l.drop i=[x]++l.drop (i+1):=by obtain⟨hi,e⟩:=KQ.mp h;rw[Of hi,e];rfl
theorem ML.size{la lb out:List Lm}{ia ib:Nat}(m:ML lt la lb out ia ib)(j:ia<=la.length)(z:ib<=lb.length):out.length=ia+ib:=by have:=m.pm.length_eq;simp only[B0,N6]at this;lia
theorem Same.trans{a b c:Nu}(h:Same a b)(g:Same b c):Same a c:=⟨g.arr.trans h.arr,g.kind.trans h.kind,g.pend.trans h.pend,g.fail.trans h.fail⟩
structure MH(lt:Lm->Lm->Bool)(la lb out:List Lm)(na nb:Nat):Prop where
 pa:Ord lt (la.take na++out.reverse)
 pb:Ord lt (lb.take nb++out.reverse)
 pm:(la.take na++lb.take nb++out.reverse).Perm (la++lb)
theorem sx(c:Cm prog w A s kd P lt){n:Nat}(h:Ord lt (l.take n))(J:0<n)(F:l[n-1]?=Z y)(hx:lt x y=Wj):∀z∈l.take n,lt x z=Wj:=by
 intro z G;obtain⟨i,hi,e⟩:=Oq.mp G;have j:(l.take n)[i]?=Z z:=by rw[<-e];exact z0 hi
 have B:(l.take n)[n-1]?=Z y:=by rw[Ni ∅];exact F
 rw[Ll]at hi
 by_cases hin:i=n-1
 ·subst hin;rw[B]at j;cases j;exact hx
 ·exact c.le_trans (kb h ∅ j B) hx
theorem qk{n:Nat}(j:0<n)(h:l[n-1]?=Z x):l.take n=l.take (n-1)++[x]:=by
 obtain⟨k,rfl⟩:∃k,n=k+1:=⟨n-1,∅⟩
 rw[Nat.add_sub_cancel]at h⊢;rw[UC,h];rfl
theorem MH.size{la lb out:List Lm}{na nb:Nat}(m:MH lt la lb out na nb)(j:na<=la.length)(z:nb<=lb.length):out.length+na+nb=la.length+lb.length:=by have:=m.pm.length_eq;simp only[B0,Ll,Pz]at this;lia
theorem bM{σ α:Type}{p:Prop}[Decidable p]{j z:StateT σ Sem α}{st:σ}{Q:α->σ->Prop}(h1:p->wpS M A E s j Q st)(h2:¬p->wpS M A E s z Q st):wpS M A E s (if p then j else z) Q st:=by
 split
 ·next h=>exact h1 h
 ·next h=>exact h2 h
end
end Srt
namespace Srt
variable{st:Nu}{L R xs:List Lm}{i j n:Nat}{x:Lm}
section
variable{prog:L4}{w:Lq}{A:Lv}{E:h8->r0->Prop}{s:r0}{kd:QJ}{P:Lm->Prop}{lt:Lm->Lm->Bool}
structure Kp(st st':Nu):Prop where
 kind:NS st'=NS st
 pend:NY st'=NY st
 fail:PN st'=PN st
theorem Kp.refl:Kp st st:=⟨rfl,rfl,rfl⟩
theorem Kp.trans{a b c:Nu}(h:Kp a b)(g:Kp b c):Kp a c:=⟨g.kind.trans h.kind,g.pend.trans h.pend,g.fail.trans h.fail⟩
theorem rJ{a:Array Lm}{B:List Lm}(e:a.toList=L++(B++R))(hi:i=L.length)(z:j=L.length+B.length):(mirror a i j ((j-i) / 2)).toList=L++(B.reverse++R):=by
 have hs:a.size=L.length+(B.length+R.length):=by rw[<-Mr,e];simp
 apply MM;intro k;rw[LU,getElem?_mirror_all ∅]
 have g:∀n:Nat,a[n]?=(L++(B++R))[n]?:=λn=>by rw[<-LU,e]
 rw[g,g]
 by_cases h1:k<L.length
 ·rw[if_neg ∅,KR h1,KR h1]
 ·by_cases h2:k<j
  ·rw[if_pos ∅,D0 ∅,KR ∅,D0 ∅,KR (by simp;lia),SR ∅]
   congr 1;lia
  ·rw[if_neg ∅,D0 ∅,D0 ∅,D0 ∅,D0 (by simp;lia)]
   simp
theorem rK{a:Array Lm}{j z:List Lm}(e:a.toList=L++((j++z)++x::R)){src d:Nat}(hi:src=L.length+(j.length+z.length))(hd:d=z.length):(bubble a src d).toList=L++((j++x::z)++R):=by
 have hs:a.size=L.length+(j.length+z.length+(R.length+1)):=by rw[<-Mr,e];simp;lia
 apply MM;intro k;rw[LU,getElem?_bubble ∅ d ∅]
 have g:∀n:Nat,a[n]?=(L++((j++z)++x::R))[n]?:=λn=>by rw[<-LU,e]
 rw[g,g,g]
 by_cases h1:k<L.length
 ·rw[if_neg ∅,if_neg ∅,KR h1,KR h1]
 ·by_cases h2:k<L.length+j.length
  ·rw[if_neg ∅,if_neg ∅,D0 ∅,KR (by simp;lia),KR ∅,D0 ∅,KR (by simp;lia),KR ∅]
  ·by_cases h3:k=L.length+j.length
   ·rw[if_pos ∅,D0 ∅,D0 (by simp;lia),D0 ∅,KR (by simp;lia),D0 ∅]
    have e1:src-L.length-(j++z).length=0:=by simp;lia
    have e2:k-L.length-j.length=0:=∅
    rw[e1,e2];rfl
   ·by_cases h4:k<=src
    ·rw[if_neg ∅,if_pos ∅,D0 ∅,KR (by simp;lia),D0 ∅,D0 ∅,KR (by simp;lia),D0 ∅]
     have e2:k-L.length-j.length=(k-1-L.length-j.length)+1:=∅
     rw[e2,OC]
    ·rw[if_neg ∅,if_neg ∅,D0 ∅,D0 (by simp;lia),D0 ∅,D0 (by simp;lia)]
     have e2:k-L.length-(j++z).length=(k-L.length-(j++x::z).length)+1:=by simp;lia
     rw[e2,OC]
theorem dU(c:Cm prog w A s kd P lt){y:Lm}{Q:Option Bool->Nu->Prop}(z:NS st=kd)(hx:(LP st)[i]?=Z x)(B:(LP st)[j]?=Z y)(px:P x)(py:P y)(q:Q (Z (lt x y)) st):wpS (Lk prog w) A E s (ltAt' i j) Q st:=by rw[ltAt'_eq];exact LM (UB (LM (sv hx (LM (sv B (Gc c z px py q))))))
theorem kc{Q:Unit->Nu->Prop}{B:List Lm}(e:(LP st).toList=L++(B++R))(hi:i=L.length)(z:j=L.length+B.length)(q:∀st',(LP st').toList=L++(B.reverse++R)->Kp st st'->Q () st'):wpS (Lk prog w) A E s (reverseSlice' i j) Q st:=by rw[reverseSlice'_eq];exact VH (q _ (rJ e hi z) ⟨rfl,rfl,rfl⟩)
theorem cE(e:(LP st).toList=L++xs)(hi:i=L.length+n):(LP st)[i]?=xs[n]?:=by
 rw[<-LU,e,hi,D0 ∅]
 congr 1;lia
theorem ql(c:Cm prog w A s kd P lt){y:Lm}(h:Ord lt (xs.take n))(B:0<n)(hx:xs[n]?=Z x)(F:xs[n-1]?=Z y)(G:lt x y=Wj):Ord lt (xs.take (n+1)):=by
 rw[UC,hx];refine LX.mpr ⟨h,by simp,λz J u j=>?_⟩
 simp at j;subst j;exact sx c h B F G z J
noncomputable abbrev dl(lt:Lm->Lm->Bool)(l:List Lm):Prop:=l.Pairwise λx y=>lt x y=Wj
theorem jg(c:Cm prog w A s kd P lt){D:List Lm}{e:Lm}(h:dl lt (D++[e]))(hx:lt e x=Wj):dl lt (D++[e]++[x]):=by
 refine LX.mpr ⟨h,by simp,λz B u j=>?_⟩
 simp at j;subst j;obtain⟨_,_,F⟩:=LX.mp h
 rcases Lo.mp B with g|g
 ·cases q:lt z u with
  |false=>rfl
  | true=>rcases c.neg z e u q with r|r
          ·rw[F z g e (by simp)]at r;cases r
          ·rw[hx]at r;cases r
 ·simp at g;subst g;exact hx
theorem sy{z F:List Lm}(h:dl lt (z++F))(he:∀x∈F,∀y∈F,lt x y=Wj):dl lt (z++F.reverse):=by obtain⟨h1,h2,B⟩:=LX.mp h;refine LX.mpr ⟨h1,?_,λx hx y j=>B x hx y (Pp.mp j)⟩;rw[SS];exact h2.imp_of_mem λhx j _=>he _ j _ hx
theorem perm_take:(xs.take n++xs.drop n).Perm xs:=by rw[MP]
theorem rL(c:Cm prog w A s kd P lt){Q:Option Nat->Nu->Prop}(hk:NS st=kd)(O:(LP st).toList=L++xs)(h0:xs≠[])(hP:∀x∈xs,P x)(q:∀r R st',(LP st').toList=L++(r++R)->(r++R).Perm xs->r≠[]->Ord lt r->Kp st st'->Q (Z r.length) st'):wpS (Lk prog w) A E s (countRun' L.length xs.length) Q st:=by
 have K9:0<xs.length:=QW.mpr h0;rw[countRun'_eq]
 try dsimp -zeta -zetaHave -zetaUnused only
 refine LM (bR (Q:=λr st'=>st'=st/\∃n,r=(Y,n)/\1<=n/\n<=xs.length/\Ord lt (xs.take n)/\(n=xs.length∨∃x y,xs[n]?=Z x/\xs[n-1]?=Z y/\lt x y=F2))
  (Pq (fun i r st'=>st'=st/\r=(Y,i)/\Ord lt (xs.take i)) ?_ ?_ ⟨rfl,rfl,by
   cases xs with
   |nil=>exact absurd rfl h0
   |cons x t=>simp⟩) ?_)
 ·rintro i r st' h1 hi ⟨rfl,rfl,ho⟩;dsimp only;obtain⟨x,hx⟩:∃x,xs[i]?=Z x:=⟨_,z0 hi⟩;obtain⟨y,hy⟩:∃y,xs[i-1]?=Z y:=⟨_,z0 ∅⟩
  refine LM (dU c hk ((cE O rfl).trans hx) ((cE O ∅).trans hy) (hP _ (KZ hx)) (hP _ (KZ hy)) ?_)
  dsimp only;refine bM (λh=>?_) (λh=>?_)
  ·exact aA ⟨rfl,i,rfl,h1,∅,ho,.inr ⟨x,y,hx,hy,h⟩⟩
  ·exact aA ⟨rfl,rfl,ql c ho ∅ hx hy (by simpa using h)⟩
 ·rintro r st' ⟨rfl,rfl,ho⟩;exact⟨rfl,_,rfl,∅,∅,ho,.inl ∅⟩
 ·rintro r st' ⟨rfl,n,rfl,Kz,Ka,ho,hc⟩;dsimp -zeta -zetaHave -zetaUnused only;have JU:Q (Z n) st':=by
   have:=q (xs.take n) (xs.drop n) st' (by rw[O,MP]) perm_take (λz=>by have h3:=congrArg Nb z;rw[Ll,MV]at h3;lia) ho Kp.refl
   rw[Ll,MW Ka]at this;exact this
  extract_lets -underBinder +onlyGivenNames vr vn
  dsimp -zeta -zetaHave -zetaUnused only[vr];clear vr;have en:n=vn:=rfl
  clear_value vn
  subst en;refine bM (λh=>aA JU) (λh=>?_);have Kl:n≠xs.length:=by simpa using h
  obtain⟨x,y,hx,hy,Km⟩:=hc.resolve_left Kl;have KA:n<xs.length:=∅
  have exs:xs=xs.take n++x::xs.drop (n+1):=by have h1:=(MP n xs).symm;rw[zE hx]at h1;exact h1
  have Kb:y∈xs.take n:=by rw[qk ∅ hy];simp
  extract_lets -underBinder +onlyGivenNames jp
  have Kc:∀(B:List Lm) (JK:Nu),(LP JK).toList=L++(B++x::xs.drop (n+1))->B.Perm (xs.take n)->B.length=n->(∀u∈B,∀v∈B,lt u v=Wj)->y∈B->Kp st' JK->wpS (Lk prog w) A E s (jp ()) Q JK:=by
   intro B JK e1 hB JL JM JN JO;dsimp -zeta -zetaHave -zetaUnused only[jp];clear jp;refine LM (qi ?_)
   try dsimp -zeta -zetaHave -zetaUnused only
   extract_lets -underBinder +onlyGivenNames vn1 vq1
   have Kn:vn1=n+1:=rfl;have eq1:vq1=0:=rfl
   clear_value vn1 vq1
   subst Kn eq1;refine LM (bR (Q:=λr U=>∃G F R neq,Kp st' U/\(LP U).toList=L++((G++F)++R)/\((G++F)++R).Perm xs/\r=(Y,(G++F).length,neq)/\F.length=neq+1/\dl lt (G++F)/\(∀u∈F,∀v∈F,lt u v=Wj))
    (Pq (λi r U=>∃G F R neq,Kp st' U/\(LP U).toList=L++((G++F)++R)/\((G++F)++R).Perm xs/\r=(Y,(G++F).length,neq)/\F.length=neq+1/\dl lt (G++F)/\(∀u∈F,∀v∈F,lt u v=Wj)/\(G++F).length=i) ?_ ?_ ?_) ?_)
   ·rintro i r U KB hi ⟨G,F,R,neq,kp,ea,hp,rfl,hF,hN,hE,Kd⟩;subst Kd;have hlen:=hp.length_eq;rw[B0]at hlen;obtain⟨z,R',rfl⟩:∃z R',R=z::R':=by
     cases R with
     |nil=>simp at hlen;simp at hi;lia
     |cons z R'=>exact⟨z,R',rfl⟩
    have Ko:F≠[]:=λz=>by rw[z]at hF;simp at hF
    obtain⟨F0,e,rfl⟩:∃F0 e,F=F0++[e]:=⟨F.dropLast,F.getLast Ko,(QS _).symm⟩;have hz:(LP U)[L.length+(G++(F0++[e])).length]?=Z z:=by rw[cE ea rfl,D0 ∅,UD];rfl
    have he:(LP U)[L.length+(G++(F0++[e])).length-1]?=Z e:=by rw[cE ea (n:=(G++F0).length) (by simp<;>lia),KR (by simp<;>lia),<-Lx,D0 ∅,UD];rfl
    have Ke:P z:=hP z (hp.mem_iff.mp (by simp))
    have Kf:P e:=hP e (hp.mem_iff.mp (by simp))
    dsimp only;refine LM (dU c (kp.kind.trans hk) hz he Ke Kf ?_);dsimp only;have JY:dl lt (G++F0++[e]):=by rw[Lx];exact hN
    refine bM (λJZ=>?_) (λJZ=>?_)
    ·have JP:lt e z=Wj:=c.asym _ _ JZ;refine bM (λJQ=>?_) (λJQ=>?_)
     ·refine LM (kc (L:=L++G) (B:=F0++[e]) (R:=z::R') (by rw[ea];simp) (by simp only[B0]at hF⊢;simp only[Mt]at hF⊢;lia) (by simp<;>lia) λfv e3 Fn=>?_)
      refine aA ⟨G++(F0++[e]).reverse,[z],R',0,kp.trans Fn,by rw[e3];simp,?_,by simp<;>lia,rfl,?_,?_,by simp<;>lia⟩
      ·refine List.Perm.trans ?_ hp;rw[Lx,Lx,Lx];exact Od _ (OJ _ (Q8 _))
      ·have h1:=sy hN hE;refine LX.mpr ⟨h1,by simp,λu j v J=>?_⟩
       simp at J;subst J;have hm:=jg c JY JP;refine(LX.mp hm).2.2 u ?_ v (by simp)
       rw[Lx]
       rcases Lo.mp j with g|g
       ·exact LD _ g
       ·exact Lj _ (Pp.mp g)
      ·intro u j v J;simp at j J;subst j J;exact c.irr
     ·refine aA ⟨G++(F0++[e]),[z],R',0,kp,by rw[ea];simp,by simpa using hp,by simp<;>lia,rfl,?_,?_,by simp<;>lia⟩
      ·have hm:=jg c JY JP;simpa using hm
      ·intro u j v J;simp at j J;subst j J;exact c.irr
    ·have Kq:lt z e=Wj:=by simpa using JZ
     refine LM (dU c (kp.kind.trans hk) he hz Kf Ke ?_);dsimp only;refine bM (λKg=>?_) (λKg=>?_)
     ·exact aA ⟨G,F0++[e],z::R',neq,kp,ea,hp,rfl,hF,hN,hE⟩
     ·have JP:lt e z=Wj:=by simpa using Kg
      refine aA ⟨G,(F0++[e])++[z],R',neq+1,kp,by rw[ea];simp,by simpa using hp,by simp<;>lia,by simp at hF⊢;lia,?_,?_,by simp<;>lia⟩
      ·have hm:=jg c JY JP;simpa using hm
      ·have Kr:∀u∈F0++[e],lt u z=Wj:=fun u j=>by
        cases q1:lt u z with
        |false=>rfl
        | true=>rcases c.neg u e z q1 with r|r
                ·rw[hE u j e (by simp)]at r;cases r
                ·rw[JP]at r;cases r
       have Ks:∀u∈F0++[e],lt z u=Wj:=λu j=>by
        cases q1:lt z u with
        |false=>rfl
        | true=>rcases c.neg z e u q1 with r|r
                ·rw[Kq]at r;cases r
                ·rw[hE e (by simp) u j]at r;cases r
       intro u j v J
       rcases Lo.mp j with g|g<;>rcases Lo.mp J with g2|g2
       ·exact hE u g v g2
       ·simp at g2;subst g2;exact Kr u g
       ·simp at g;subst g;exact Ks v g2
       ·simp at g g2;subst g g2;exact c.irr
   ·rintro r U ⟨G,F,R,neq,kp,ea,hp,hr,hF,hN,hE,Kd⟩;exact⟨G,F,R,neq,kp,ea,hp,hr,hF,hN,hE⟩
   ·refine⟨B,[x],xs.drop (n+1),0,JO,by rw[e1];simp,?_,by simp[JL],rfl,?_,?_,by simp[JL]⟩
    ·have h9:(B++x::xs.drop (n+1)).Perm xs:=by
      have h9:=OJ (x::xs.drop (n+1)) hB;rw[<-exs]at h9;exact h9
     simpa using h9
    ·refine LX.mpr ⟨List.Pairwise.imp_of_mem (λj J _=>JM _ j _ J) (List.pairwise_of_forall_mem_list (r:=λ_ _=>True) λ_ _ _ _=>trivial),by simp,λu j v J=>?_⟩
     simp at J;subst J
     cases q1:lt u v with
     |false=>rfl
     | true=>rcases c.neg u y v q1 with r|r
             ·rw[JM u j y JN]at r;cases r
             ·rw[c.asym _ _ Km]at r;cases r
    ·intro u j v J;simp at j J;subst j J;exact c.irr
   ·rintro r U ⟨G,F,R,neq,kp,ea,hp,rfl,hF,hN,hE⟩;dsimp -zeta -zetaHave -zetaUnused only
    extract_lets -underBinder +onlyGivenNames vr vs vn2 vq2
    dsimp -zeta -zetaHave -zetaUnused only[vr];have Ku:vn2=(G++F).length:=rfl;have eq2:neq=vq2:=rfl
    clear_value vn2 vq2
    clear vs vr;subst Ku eq2
    extract_lets -underBinder +onlyGivenNames JR
    have JV:∀(D:List Lm) (fv:Nu),(LP fv).toList=L++(D++R)->dl lt D->(D++R).Perm xs->D.length=(G++F).length->0<D.length->Kp st' fv->wpS (Lk prog w) A E s (JR ()) Q fv:=by
     intro D fv e3 K0 K1 JS JW Fn;dsimp -zeta -zetaHave -zetaUnused only[JR];clear JR;have Kv:0<D.length:=∅
     refine LM (kc (L:=L) (B:=D) (R:=R) e3 rfl (by rw[JS]) λKh e4 Ki=>?_)
     have o4:Ord lt D.reverse:=SS.mpr K0;have JT:(D.reverse++R).Perm xs:=(OJ _ (Q8 D)).trans K1;have Kj:(D.reverse++R).length=xs.length:=JT.length_eq;have K5:Ord lt ((D.reverse++R).take D.length):=by rw[List.take_append_of_le_length (by simp),OK (by simp)];exact o4
     have K6:∀u∈D.reverse++R,P u:=λu j=>hP u (JT.mem_iff.mp j);have Kw:D.length<=xs.length:=by rw[<-Kj];simp
     rw[<-JS];generalize D.length=N0 at K5 Kv Kw;generalize D.reverse++R=ys at e4 JT Kj K5 K6;refine LM (bR (Q:=λr JJ=>JJ=Kh/\∃n,r=(Y,n)/\1<=n/\n<=xs.length/\Ord lt (ys.take n))
      (Pq (λi r JJ=>JJ=Kh/\r=(Y,i)/\Ord lt (ys.take i)) ?_ ?_ ⟨rfl,rfl,K5⟩) ?_)
     ·rintro i r JJ h1 hi ⟨rfl,rfl,ho⟩;dsimp only;obtain⟨u,j⟩:∃u,ys[i]?=Z u:=⟨_,z0 ∅⟩
      obtain⟨v,J⟩:∃v,ys[i-1]?=Z v:=⟨_,z0 ∅⟩
      refine LM (dU c ((Fn.trans Ki).kind.trans hk) ((cE e4 rfl).trans j) ((cE e4 ∅).trans J) (K6 _ (KZ j)) (K6 _ (KZ J)) ?_)
      dsimp only;refine bM (λh=>?_) (λh=>?_)
      ·exact aA ⟨rfl,i,rfl,∅,∅,ho⟩
      ·exact aA ⟨rfl,rfl,ql c ho ∅ j J (by simpa using h)⟩
     ·rintro r JJ ⟨rfl,rfl,ho⟩;exact⟨rfl,_,rfl,∅,∅,ho⟩
     ·rintro r JJ ⟨rfl,m,rfl,KD,KF,ho⟩;refine aA ?_;have:=q (ys.take m) (ys.drop m) JJ (by rw[e4,MP]) (perm_take.trans JT) (fun z=>by
       have h3:=congrArg Nb z;rw[Ll,MV]at h3;lia) ho (Fn.trans Ki)
      rw[Ll,MW ∅]at this
      exact this
    clear_value JR
    refine bM (λJQ=>?_) (λJQ=>?_)
    ·refine LM (kc (L:=L++G) (B:=F) (R:=R) (by rw[ea];simp) (by simp<;>lia) (by simp<;>lia) λfv e3 Fn=>?_)
     have Fn:=kp.trans Fn;have e3:(LP fv).toList=L++((G++F.reverse)++R):=by rw[e3];simp
     have K0:=sy hN hE;have K1:((G++F.reverse)++R).Perm xs:=(OJ _ (Od _ (Q8 _))).trans hp;have JS:(G++F.reverse).length=(G++F).length:=by simp
     have JW:0<(G++F.reverse).length:=by simp<;>lia
     exact JV _ _ e3 K0 K1 JS JW Fn
    ·exact JV _ _ ea hN hp rfl (by simp<;>lia) kp
  clear_value jp
  refine bM (λh1=>?_) (λh1=>?_)
  ·obtain⟨x0,K7⟩:∃x0,xs[0]?=Z x0:=⟨_,z0 K9⟩;refine LM (dU c hk ((cE O (n:=0) ∅).trans K7) ((cE O ∅).trans hy) (hP _ (KZ K7)) (hP _ (KZ hy)) ?_)
   dsimp only;refine bM (λhr=>aA JU) (λhr=>?_);have hr:lt x0 y=Wj:=by simpa using hr
   have Kk:∀u∈xs.take n,lt u x0=Wj:=λu j=>by
    obtain⟨i,hi,eu⟩:=Oq.mp j;have K8:(xs.take n)[i]?=Z u:=by rw[<-eu];exact z0 hi
    have JX:(xs.take n)[0]?=Z x0:=by rw[Ni ∅];exact K7
    by_cases hi0:i=0
    ·subst hi0;rw[JX]at K8;cases K8;exact c.irr
    ·exact kb ho ∅ JX K8
   have Kx:∀u∈xs.take n,lt y u=Wj:=sx c ho ∅ hy c.irr
   have heq:∀u∈xs.take n,∀v∈xs.take n,lt u v=Wj:=λu j v J=>by exact c.le_trans (c.le_trans (Kx v J) hr) (Kk u j)
   refine LM (kc (L:=L) (B:=xs.take n) (R:=x::xs.drop (n+1)) (by rw[O];exact congrArg (L ++ ·) exs) rfl (by rw[Ll,MW Ka]) λJK e1 JO=>?_)
   have hB:(xs.take n).reverse.Perm (xs.take n):=Q8 _;have JL:(xs.take n).reverse.length=n:=by rw[Pz,Ll];lia
   have JM:∀u∈(xs.take n).reverse,∀v∈(xs.take n).reverse,lt u v=Wj:=λu j v J=>heq u (Pp.mp j) v (Pp.mp J);have JN:y∈(xs.take n).reverse:=Pp.mpr Kb;exact Kc _ _ e1 hB JL JM JN JO
  ·have JK:=st';have hn:n=1:=by lia
   have JO:Kp st' st':=Kp.refl;have e1:(LP st').toList=L++(xs.take n++x::xs.drop (n+1)):=by rw[O];exact congrArg (L ++ ·) exs
   have hB:(xs.take n).Perm (xs.take n):=List.Perm.refl _;have JL:(xs.take n).length=n:=by rw[Ll];lia
   have JN:=Kb;have JM:∀u∈xs.take n,∀v∈xs.take n,lt u v=Wj:=λu j v J=>by
    have e0:xs.take n=[y]:=by subst hn;rw[qk ∅ hy];rfl
    rw[e0]at j J;simp at j J;subst j J;exact c.irr
   exact Kc _ _ e1 hB JL JM JN JO
end
end Srt
namespace Srt
section
variable{prog:L4}{w:Lq}{A:Lv}{E:h8->r0->Prop}{s:r0}{kd:QJ}{P:Lm->Prop}{lt:Lm->Lm->Bool}
theorem wK(c:Cm prog w A s kd P lt){L r R:List Lm}{n:Nat}{st:Nu}{Q:Bool->Nu->Prop}(hk:NS st=kd)(fv:(LP st).toList=L++(r++R))(h0:r≠[])(ho:Ord lt r)(hn:r.length<=n)(JJ:n<=(r++R).length)(hP:∀x∈r++R,P x)(q:∀r' R' st',(LP st').toList=L++(r'++R')->(r'++R').Perm (r++R)->r'.length=n->Ord lt r'->Kp st st'->Q F2 st'):wpS (Lk prog w) A E s (binarySort' L.length n r.length) Q st:=by
 have JP:0<r.length:=QW.mpr h0;rw[binarySort'_eq];refine LM (bR (Q:=λx st'=>x=(Y,())/\∃D T,Kp st st'/\(LP st').toList=L++(D++T)/\(D++T).Perm (r++R)/\D.length=n/\Ord lt D)
  (Pq (λi x st'=>x=(Y,())/\∃D T,Kp st st'/\(LP st').toList=L++(D++T)/\(D++T).Perm (r++R)/\D.length=i/\Ord lt D) ?_ ?_ ⟨rfl,r,R,Kp.refl,fv,List.Perm.refl _,∅,ho⟩) ?_)
 ·rintro k x B JQ JR ⟨rfl,D,T,kp,ea,J,hD,O⟩;dsimp only;subst hD;have hlen:=J.length_eq;rw[B0]at hlen;obtain⟨z,T',rfl⟩:∃z T',T=z::T':=by
   cases T with
   |nil=>simp at hlen JJ;lia
   |cons z T'=>exact⟨z,T',rfl⟩
  have JK:∀u∈D,P u:=λu G=>hP u (J.mem_iff.mp (LD _ G));have JL:P z:=hP z (J.mem_iff.mp (by simp))
  have hz:(LP B)[L.length+D.length]?=Z z:=by rw[cE ea rfl,D0 ∅,UD];rfl
  refine LM (bR (Q:=λx st'=>st'=B/\∃k,x=(Y,k,k)/\Gal lt Wj z D k k)
   (Pq (fun i x st'=>st'=B/\∃lo hi,x=(Y,lo,hi)/\Gal lt Wj z D lo hi/\hi-lo+i<=D.length) ?_ ?_ ⟨rfl,0,D.length,rfl,⟨∅,∅,fun _ _ h=>∅,fun i x hi hx=>by have:=(KQ.mp hx).1;lia⟩,∅⟩) ?_)
  ·rintro i x U _ hi ⟨rfl,lo,j,rfl,F,hm⟩;dsimp only;have hl:=F.le;have JM:=F.len;refine bM (λJN=>?_) (λJN=>?_)
   ·exact aA ⟨rfl,j,by rw[show lo=j by lia],by rw[show lo=j by lia]at F;exact F⟩
   ·obtain⟨u,G⟩:∃u,D[(lo+j) / 2]?=Z u:=⟨_,z0 ∅⟩
    have JO:(LP U)[L.length+(lo+j) / 2]?=Z u:=by rw[cE ea rfl,KR ∅];exact G
    refine LM (dU c (kp.kind.trans hk) hz JO JL (JK _ (KZ G)) ?_);dsimp only;refine bM (λhf=>?_) (λhf=>?_)
    ·exact aA ⟨rfl,_,_,rfl,⟨∅,∅,F.up,Gf c O G (by simp[bey,hf])⟩,∅⟩
    ·exact aA ⟨rfl,_,_,rfl,⟨∅,JM,Gd c O G (by simpa[bey]using hf),F.dn⟩,∅⟩
  ·rintro x U ⟨rfl,lo,j,rfl,F,hm⟩;have hl:=F.le;exact⟨rfl,j,by rw[show lo=j by lia],by rw[show lo=j by lia]at F;exact F⟩
  ·rintro x U ⟨rfl,l,rfl,F⟩;dsimp only;obtain⟨X,Fn,e,hl,hX,hY⟩:=F.out;subst hl e;rw[moveDown'_eq];refine LM (VH ?_);refine aA ⟨rfl,X++z::Fn,T',kp.trans ⟨rfl,rfl,rfl⟩,rK ea (by simp) (by simp;lia),?_,by simp;lia,?_⟩
   ·refine List.Perm.trans ?_ J;rw[Lx,Lx];refine Od _ ?_;rw[Pt];exact UY.symm
   ·obtain⟨o1,o2,o3⟩:=LX.mp O;refine LX.mpr ⟨o1,Ug.mpr ⟨λu G=>c.asym _ _ (by have:=hY u G;simpa[bey]using this),o2⟩,λu G v hv=>?_⟩
    rcases D1.mp hv with g|g
    ·subst g;have:=hX u G;simpa[bey]using this
    ·exact o3 u G v g
 ·rintro x B ⟨rfl,D,T,kp,ea,J,hD,O⟩;exact⟨rfl,D,T,kp,ea,J,∅,O⟩
 ·rintro x B ⟨rfl,D,T,kp,ea,J,hD,O⟩;exact aA (q D T B ea J hD O kp)
noncomputable def Pd:Nat->List (List Lm)->List (Nat×Nat×Nat)->Prop
 |_,[],ps=>ps=[]
 |s,r::rs,ps=>∃p t,ps=(s,r.length,p)::t/\Pd (s+r.length) rs t
theorem Pd.length:∀{l:List (List Lm)} {s:Nat} {ps:List (Nat×Nat×Nat)},Pd s l ps->ps.length=l.length
 |[],_,_,h=>by rw[show _=[]from h];rfl
 |r::l,s,ps,h=>by obtain⟨p,q,e,h⟩:=h;rw[e];simp[h.length]
structure Rn(lt:Lm->Lm->Bool)(kd:QJ)(a₀:List Lm)(st:Nu)(rs:List (List Lm))(R:List Lm):Prop where
 arr:(LP st).toList=rs.flatten++R
 perm:(rs.flatten++R).Perm a₀
 ord:∀r∈rs,r≠[]/\Ord lt r
 pend:Pd 0 rs (NY st).toList
 kind:NS st=kd
 fail:PN st=Y
theorem Rn.size{a₀:List Lm}{st:Nu}{rs:List (List Lm)}{R:List Lm}(h:Rn lt kd a₀ st rs R):rs.flatten.length+R.length=a₀.length:=by have:=h.perm.length_eq;rw[B0]at this;exact this
end
end Srt
namespace Srt
def iD(cap:Nat):Prop:=∀(prog:L4) (w:Lq) (A:Lv) (E:h8->r0->Prop) (s:r0) (kd:QJ) (P:Lm->Prop) (lt:Lm->Lm->Bool),Cm prog w A s kd P lt->∀(st:Nu) (Q:Unit->Nu->Prop),NS st=kd->PN st=Y->NY st=#[]->(∀x∈(LP st).toList,P x)->2<=(LP st).size->(LP st).size<=cap->
 (∀st',(LP st').toList.Perm (LP st).toList->Ord lt (LP st').toList->PN st'=Y->Q () st')->wpS (Lk prog w) A E s sortRuns' Q st
theorem j6:iD 63:=by
 intro prog w A E s kd P lt c st Q hk hf Fn fv h2 JJ q;rw[sortRuns'_eq];refine LM (UB ?_);dsimp only;have J:minRun' (LP st).size (LP st).size 0=(LP st).size:=by
  obtain⟨f,hf⟩:∃f,(LP st).size=f+1:=⟨(LP st).size-1,∅⟩
  have:minRun' (f+1) (LP st).size 0=(LP st).size:=by rw[minRun'_succ,if_pos ∅];rfl
  rwa[<-hf]at this
 rw[J];have hsz:(LP st).size=(LP st).toList.length:=by simp
 generalize hA:(LP st).toList=a₀ at fv q hsz;generalize hS:(LP st).size=size at hsz h2 JJ J;have h0:a₀≠[]:=λz=>by rw[z]at hsz;simp at hsz;lia
 refine LM (bR (Q:=λr st'=>r=(Y,size)/\(LP st').toList.Perm a₀/\Ord lt (LP st').toList/\PN st'=Y/\NY st'=#[(0,size,0)])
  (Pq (λi r st'=>(i=0/\r=(Y,0)/\st'=st)∨(1<=i/\r=(Y,size)/\(LP st').toList.Perm a₀/\Ord lt (LP st').toList/\PN st'=Y/\NY st'=#[(0,size,0)])) ?_ ?_ (.inl ⟨rfl,rfl,rfl⟩)) ?_)
 ·rintro i r B _ hi (⟨rfl,rfl,rfl⟩|⟨_,rfl,hD⟩)
  ·dsimp only;rw[if_neg ∅]
   rw[show size-0=a₀.length by lia,show min a₀.length size=size by lia]
   refine LM (rL (L:=[]) c hk hA h0 fv λr R O ea F JK ho kp=>?_);dsimp only;have hl:=F.length_eq;rw[B0]at hl;have fin:∀(r':List Lm) (j:Nu),(LP j).toList=r'->r'.Perm a₀->Ord lt r'->Kp B j->wpS (Lk prog w) A E s (modify λz=>setPending z ((NY z).push (0,size,0))) (λ_ st'=>(LP st').toList.Perm a₀/\Ord lt (LP st').toList/\PN st'=Y/\NY st'=#[(0,size,0)]) j:=λr' j e3 p3 o3 k3=>by refine VH ?_;exact⟨by show(LP j).toList.Perm a₀;rw[e3];exact p3,by show Ord lt (LP j).toList;rw[e3];exact o3,k3.fail.trans hf,by show(NY j).push _=_;rw[k3.pend,Fn];rfl⟩
   by_cases hlt:r.length<size
   ·rw[if_pos hlt];refine LM (qi ?_);refine LM (wK (L:=[]) c (kp.kind.trans hk) ea JK ho (n:=size) ∅ (by simp;lia) (λx hx=>fv x (F.mem_iff.mp hx)) λr2 R2 j JL G JQ JM U=>?_)
    rw[if_neg (by simp)]
    refine LM (UB ?_);have hb:(NY j).back?=Y:=by rw[U.pend,kp.pend,Fn];rfl
    rw[hb];dsimp only;have JN:=G.length_eq;rw[B0,B0]at JN;have:R2=[]:=NB.mp ∅
    subst this;rw[show 0+size=size by lia]
    refine LM (bR (fin r2 j (by simpa using JL) (by simpa using G.trans F) JM (kp.trans U)) λ_ JO h4=>aA (.inr ⟨∅,rfl,h4⟩))
   ·rw[if_neg hlt];refine LM (UB ?_);have hb:(NY O).back?=Y:=by rw[kp.pend,Fn];rfl
    rw[hb];dsimp only;have:R=[]:=NB.mp ∅
    subst this;have JP:r.length=size:=by simp at hl;lia
    rw[JP,show 0+size=size by lia]
    refine LM (bR (fin r O (by simpa using ea) (by simpa using F) ho kp) λ_ JO h4=>aA (.inr ⟨∅,rfl,h4⟩))
  ·dsimp only;rw[if_pos (KO _)];exact aA ⟨rfl,hD⟩
 ·rintro r B (⟨h,_,_⟩|⟨_,rfl,hD⟩)
  ·lia
  ·exact⟨rfl,hD⟩
 ·rintro r B ⟨rfl,p1,o1,f1,pd⟩;dsimp only;refine LM (bR (Pq (I:=λ_ c st''=>st''=B/\c=(Y,())) (Q:=λc st''=>st''=B/\c=(Y,())) ?_ (λ_ _ hh=>hh) ⟨rfl,rfl⟩) ?_)
  ·rintro x c st'' _ _ ⟨rfl,rfl⟩;refine LM (UB ?_);rw[if_pos (by rw[pd];exact KO 1)]
   exact aA ⟨rfl,rfl⟩
  ·rintro c st'' ⟨rfl,rfl⟩;exact aA (q _ p1 o1 f1)
end Srt
namespace Srt
inductive Ky where
 |int (i:Int)
 |tup (l:List Ky)
mutual
noncomputable def ay:Ky->Ky->Ordering
 |.int a,.int b=>if a<b then .lt else if a=b then .eq else .gt
 |.int _,.tup _=>.lt
 |.tup _,.int _=>.gt
 |.tup a,.tup b=>cmpKs a b
noncomputable def cmpKs:List Ky->List Ky->Ordering
 |[],[]=>.eq
 |[],_::_=>.lt
 |_::_,[]=>.gt
 |x::xs,y::ys=>(ay x y).then (cmpKs xs ys)
end
mutual
theorem dm:∀a b,ay b a=(ay a b).swap
 |.int a,.int b=>by
  simp only[ay]
  by_cases h1:a<b
  ·rw[if_pos h1,if_neg ∅,if_neg ∅];rfl
  ·by_cases h2:a=b
   ·rw[if_neg h1,if_pos h2,if_neg ∅,if_pos h2.symm];rfl
   ·rw[if_neg h1,if_neg h2,if_pos ∅];rfl
 |.int _,.tup _=>by simp[ay]
 |.tup _,.int _=>by simp[ay]
 |.tup a,.tup b=>by simp only[ay];exact cmpKs_swap a b
theorem cmpKs_swap:∀a b,cmpKs b a=(cmpKs a b).swap
 |[],[]=>rfl
 |[],_::_=>rfl
 |_::_,[]=>rfl
 |x::xs,y::ys=>by
  simp only[cmpKs];rw[dm x y,cmpKs_swap xs ys]
  cases ay x y<;>rfl
end
mutual
theorem iE:∀a b,ay a b=.eq->a=b
 |.int a,.int b,h=>by
  simp only[ay]at h
  by_cases h1:a<b
  ·rw[if_pos h1]at h;cases h
  ·by_cases h2:a=b
   ·rw[h2]
   ·rw[if_neg h1,if_neg h2]at h;cases h
 |.int _,.tup _,h=>by simp[ay]at h
 |.tup _,.int _,h=>by simp[ay]at h
 |.tup a,.tup b,h=>by simp only[ay]at h;rw[cmpKs_eq a b h]
theorem cmpKs_eq:∀a b,cmpKs a b=.eq->a=b
 |[],[],_=>rfl
 |[],_::_,h=>by simp[cmpKs]at h
 |_::_,[],h=>by simp[cmpKs]at h
 |x::xs,y::ys,h=>by
  simp only[cmpKs]at h
  cases e:ay x y with
  |lt=>rw[e]at h;cases h
  |gt=>rw[e]at h;cases h
  |eq=>rw[e]at h;rw[iE x y e,cmpKs_eq xs ys h]
end
mutual
theorem ke:∀a b c,ay a b=.lt->ay b c=.lt->ay a c=.lt
 |.int a,.int b,.int c,h,g=>by
  simp only[ay]at h g⊢;have h1:a<b:=by
   by_cases h1:a<b
   ·exact h1
   ·rw[if_neg h1]at h;split at h<;>cases h
  have h2:b<c:=by
   by_cases h1:b<c
   ·exact h1
   ·rw[if_neg h1]at g;split at g<;>cases g
  rw[if_pos ∅]
 |.int _,.tup _,.int _,_,g=>by simp[ay]at g
 |.int _,.int _,.tup _,_,_=>by simp[ay]
 |.int _,.tup _,.tup _,_,_=>by simp[ay]
 |.tup _,.int _,_,h,_=>by simp[ay]at h
 |.tup _,.tup _,.int _,_,g=>by simp[ay]at g
 |.tup a,.tup b,.tup c,h,g=>by simp only[ay]at h g⊢;exact cmpKs_trans a b c h g
theorem cmpKs_trans:∀a b c,cmpKs a b=.lt->cmpKs b c=.lt->cmpKs a c=.lt
 |[],[],_,h,_=>by simp[cmpKs]at h
 |[],_::_,[],_,g=>by simp[cmpKs]at g
 |[],_::_,_::_,_,_=>by simp[cmpKs]
 |_::_,[],_,h,_=>by simp[cmpKs]at h
 |_::_,_::_,[],_,g=>by simp[cmpKs]at g
 |x::xs,y::ys,z::zs,h,g=>by
  simp only[cmpKs]at h g⊢
  cases e:ay x y with
  |gt=>rw[e]at h;cases h
  |eq=>
   have:=iE x y e;subst this;rw[e]at h
   cases e2:ay x z with
   |gt=>rw[e2]at g;cases g
   |lt=>rfl
   |eq=>rw[e2]at g;exact cmpKs_trans xs ys zs h g
  |lt=>
   cases e2:ay y z with
   |gt=>rw[e2]at g;cases g
   |lt=>rw[ke x y z e e2];rfl
   |eq=>have:=iE y z e2;subst this;rw[e];rfl
end
noncomputable def ltK(a b:Ky):Bool:=ay a b==.lt
noncomputable def qm(a b:List Ky):Bool:=cmpKs a b==.lt
theorem qo(a b:Ky)(h:ltK a b=F2):ltK b a=Wj:=by unfold ltK at h⊢;rw[dm a b,(by simpa using h:ay a b=.lt)];rfl
theorem ng(a b:Ky)(h:ltK a b=Wj)(g:ltK b a=Wj):a=b:=by
 unfold ltK at h g;rw[dm a b]at g;apply iE
 cases e:ay a b with
 |eq=>rfl
 |lt=>rw[e]at h;cases h
 |gt=>rw[e]at g;cases g
theorem Ce(a b c:Ky)(h:ltK a c=F2):ltK a b=F2∨ltK b c=F2:=by
 cases e:ltK a b with
 |true=>exact .inl rfl
 |false=>
  right
  cases e2:ltK b a with
  |false=>rw[ng a b e e2]at h;exact h
  |true=>unfold ltK at h e2⊢;rw[ke b a c (by simpa using e2) (by simpa using h)];rfl
theorem wL(x y:Ky)(xs ys:List Ky):qm (x::xs) (y::ys)=if(!ltK x y && !ltK y x)=F2 then qm xs ys else ltK x y:=by
 unfold qm ltK;rw[dm x y];simp only[cmpKs]
 cases ay x y<;>simp
mutual
noncomputable def toK:Mq->Ky
 |.int i=>.int i
 |.tuple xs=>.tup (toKs xs)
 |_=>.int 0
noncomputable def toKs:List Mq->List Ky
 |[]=>[]
 |x::xs=>toK x::toKs xs
end
inductive Cmpb:Mq->Mq->Prop where
 |int (a b:Int):Cmpb (.int a) (.int b)
 |nil (ys:List Mq):Cmpb (.tuple []) (.tuple ys)
 |nil' (xs:List Mq):Cmpb (.tuple xs) (.tuple [])
 |cons {x y:Mq} {xs ys:List Mq}:Cmpb x y->Cmpb (.tuple xs) (.tuple ys)->Cmpb (.tuple (x::xs)) (.tuple (y::ys))
theorem Cmpb.eqv{x y:Mq}(h:Cmpb x y):Mu x y=(!ltK (toK x) (toK y) && !ltK (toK y) (toK x)):=by
 have g:∀{x y:Mq},Cmpb x y->Mu x y=(ay (toK x) (toK y)==.eq):=by
  intro x y h
  induction h with
  |int a b=>
   simp only[Mu,toK,ay]
   by_cases h1:a<b
   ·rw[if_pos h1];simp;lia
   ·by_cases h2:a=b
    ·rw[if_neg h1,if_pos h2];simp[h2]
    ·rw[if_neg h1,if_neg h2];simp;lia
  |nil ys=>cases ys<;>simp[Mu,QB,toK,toKs,ay,cmpKs]
  |nil' xs=>cases xs<;>simp[Mu,QB,toK,toKs,ay,cmpKs]
  |@cons x y xs ys h1 h2 ih1 j=>
   simp only[Mu]at j⊢;simp only[QB,toK,toKs,ay,cmpKs]at j⊢;rw[ih1,j]
   cases ay (toK x) (toK y)<;>simp
 rw[g h];unfold ltK;rw[dm (toK x) (toK y)]
 cases ay (toK x) (toK y)<;>rfl
section
variable{prog:L4}{w:Lq}{A:Lv}{E:h8->r0->Prop}{s:r0}
theorem trd{b:Bool}{Q:Bool->r0->Prop}(q:Q b s):KN (Lk prog w) A (truthOfDropped (.bool b)) Q E s:=by
 unfold truthOfDropped
 wp_walk
 exact q
theorem iF(a b:Int):ltK (.int a) (.int b)=decide (a<b):=by
 simp only[ltK,ay]
 by_cases h:a<b
 ·simp[h]
 ·by_cases h2:a=b<;>simp[h,h2]
theorem wM{a b:Int}{t u:Tok}{Q:h8->r0->Prop}(q:Q (.bool (decide (a<b))) s):KN (Lk prog w) A (Vg .Lt (.int a t) (.int b u)) Q E s:=wpAny_richCompare_same (T:="int") rfl rfl F.slot_int_lt (call_int_lt ⟨by simp,q⟩)
noncomputable def cG:List Mq->List Mq->Option Bool
 |x::xs,y::ys=>if Mu x y=F2 then cG xs ys else Z (ltK (toK x) (toK y))
 |_,_=>Y
theorem jh:∀{xs ys:List Mq},Cmpb (.tuple xs) (.tuple ys)->ltK (toK (.tuple xs)) (toK (.tuple ys))=match cG xs ys with|some b=>b|none=>decide (xs.length<ys.length)
 |[],[],_=>rfl
 |[],_::_,_=>by simp[cG,toK,toKs,ltK,ay,cmpKs]
 |_::_,[],_=>by simp[cG,toK,toKs,ltK,ay,cmpKs]
 |x::xs,y::ys,h=>by
  cases h with
  |cons h1 h2=>
   have ih:=jh h2;have e:∀a b:List Ky,ltK (.tup a) (.tup b)=qm a b:=λa b=>by simp[ltK,qm,ay]
   simp only[toK,toKs,e]at ih⊢;rw[wL,<-h1.eqv];simp only[cG]
   split
   ·rw[ih];simp
   ·rfl
noncomputable def cN{α β:Type}(M:QU)(A:Lv)(E:h8->r0->Prop)(f:α->β->Sem (ForInStep β))(Q:β->r0->Prop):List α->β->r0->Prop
 |[],c,s=>Q c s
 |x::xs,c,s=>KN M A (f x c) (λr s'=>match r with|.done c'=>Q c' s'|.yield c'=>cN M A E f Q xs c' s') E s
theorem gc{α β:Type}{M:QU}{f:α->β->Sem (ForInStep β)}{Q:β->r0->Prop}:∀{l:List α} {c:β} {s:r0},cN M A E f Q l c s->KN M A (forIn l c f) Q E s
 |[],c,s,h=>by rw[Pe];exact tv h
 |x::xs,c,s,h=>by
  rw[NI];refine gV (Md h (λr s' j=>?_) λ_ _ z=>z)
  cases r with
  |done c'=>exact tv j
  |yield c'=>exact gc j
theorem ce{h:Heap}:∀{vs:List h8} {xs:List Mq} {as:List Wk},Ta h vs xs as->vs.length=xs.length
 |_,_,_,.nil=>rfl
 |_,_,_,.cons _ r=>by simp[ce r]
theorem ji{α β:Type}{M:QU}{n:Nat}{f:α->Option β×Unit->Sem (ForInStep (Option β×Unit))}{g:Bool->β}{pr:α->h8×h8}{Q:Option β×Unit->r0->Prop}:
 ∀{l:List α} {vs us:List h8} {xs ys:List Mq} {as bs:List Wk},l.map pr=vs.zip us->Ta s.heap vs xs as->Ta s.heap us ys bs->Cmpb (.tuple xs) (.tuple ys)->Mv xs=F2->Mv ys=F2->NL xs<=n->
  (∀(z:α) (x y:h8) (d e:Mq) (as bs:List Wk) (R:ForInStep (Option β×Unit)->r0->Prop),z∈l->pr z=(x,y)->PM s.heap x d as->PM s.heap y e bs->Cmpb d e->d.canLay0=F2->e.canLay0=F2->d.depth<=n->
   R (if Mu d e=F2 then .yield (Y,())else .done (Z (g (ltK (toK d) (toK e))),())) s->KN M A (f z (Y,())) R E s)->
  Q ((cG xs ys).map g,()) s->cN M A E f Q l (Y,()) s
 |[],vs,us,xs,ys,as,bs,e,j,B,F,_,_,_,_,q=>by
  have h1:=ce j;have h2:=ce B;have:vs=[]∨us=[]:=by
   cases vs with
   |nil=>exact .inl rfl
   | cons v vs=>cases us with
     |nil=>exact .inr rfl
     |cons u us=>simp at e
  have e2:cG xs ys=Y:=by
   rcases this with rfl|rfl
   ·cases xs with
    |nil=>simp[cG]
    |cons x xs=>simp at h1
   ·cases ys with
    |nil=>cases xs<;>simp[cG]
    |cons y ys=>simp at h2
  rw[e2]at q;exact q
 |z::l,vs,us,xs,ys,as,bs,e,j,B,F,lx,ly,hd,hf,q=>by
  cases j with
  |nil=>simp at e
  |cons rx j=>
   cases B with
   |nil=>simp at e
   |cons ry B=>
    simp only[KI,PV,OU]at e;simp only[Mv,p0]at lx ly;simp only[NL]at hd
    cases F with
    |cons G J=>
     simp only[cN];refine hf z _ _ _ _ _ _ _ (by simp) e.1 rx ry G lx.1 ly.1 ∅ ?_
     simp only[cG]at q
     split at q
     ·next h=>rw[if_pos h];exact ji e.2 j B J lx.2 ly.2 ∅ (λz x y d e as bs R L=>hf z x y d e as bs R (by simp[L])) q
     ·next h=>rw[if_neg h];exact q
def Ht(n:Nat):Prop:=∀(prog:L4) (w:Lq) (A:Lv) (s:r0) (a b:h8) (d e:Mq) (as bs:List Wk) (E:h8->r0->Prop) (Q:h8->r0->Prop),d.depth<=n->Cmpb d e->PM s.heap a d as->PM s.heap b e bs->d.canLay0=F2->e.canLay0=F2->A.units+n+1<Ol->
 Q (.bool (ltK (toK d) (toK e))) s->KN (Lk prog w) A (Vg .Lt a b) Q E s
theorem Gg:∀n,Ht n:=by
 intro n
 induction n with
 |zero=>
  intro prog w A s a b d e as bs E Q hd z ra rb ld le Fn q
  cases z with
  |int i j=>
   cases ra;cases rb
   exact wM (by rw[<-iF];exact q)
  |nil ys=>simp[OL]at hd
  |nil' xs=>simp[OL]at hd
  |cons _ _=>simp[OL]at hd
 |succ n ih=>
  intro prog w A s a b d e as bs E Q hd z ra rb ld le Fn q;have tup:∀xs ys,d=.tuple xs->e=.tuple ys->KN (Lk prog w) A (Vg .Lt a b) Q E s:=by
   rintro xs ys rfl rfl
   cases ra with
   |tuple h1 h2 fv G=>
    cases rb with
    |tuple g1 g2 g3 J=>
     rename_i l ol vl nl p ob vb nb;have tl:s.TypeIs (.ref l) "tuple":=⟨_,h1,h2⟩;have tb:s.TypeIs (.ref p) "tuple":=⟨_,g1,g2⟩;refine wpAny_richCompare_same_room tl tb Vq (Le Vq tl F.entry_tuple_lt ?_ (F.args_tuple_lt_2 _ _)) ∅
     unfold Mh.«tuple.__lt__»;refine gV ?_;have L:isSubtype (.type "tuple") (.type "tuple")=pure F2:=by rw[Nt];kernel_rfl
     wp_walk
     rw[fv]
     wp_walk
     rw[g3];refine tv ?_;refine tv ?_;refine gV (gc (ji (n:=n) (g:=λb=>Fin.done (Flow.ret (Vw b))) (pr:=id) (Vh _) G J z ld le (by simp[OL]at hd;lia) ?_ ?_))
     ·rintro⟨x,y⟩ x' y' d e as bs R _ hz rx ry z ld le hd r
      cases hz
      dsimp only;refine gV (UZ d e _ _ _ _ _ _ rx ry ld le ?_ prog w E _ ?_)
      ·show A.units+1+min d.depth e.depth<Ol;lia
      ·by_cases B:Mu d e=F2
       ·rw[if_pos B]at r;rw[B];exact tv r
       ·rw[if_neg B]at r;have B:Mu d e=Wj:=by simpa using B
        rw[B];refine gV (Mw (gV (ih prog w _ s x y d e as bs E _ hd z rx ry ld le ?_ ?_)))
        ·show A.units+1+n+1<Ol;lia
        ·exact tv r
     ·have e1:=jh z
      cases e2:cG xs ys with
      |some b=>rw[e2]at e1;dsimp only at e1;rw[e1]at q;exact tv ⟨_,rfl,by simp,q⟩
      |none=>
       rw[e2]at e1;dsimp only at e1;rw[e1]at q;have O:=ce G;have U:=ce J;refine tv ⟨_,rfl,?_,?_⟩
       ·simp[Qg]
       ·simp only[Mr]at O U;simp only[Qg];rw[O,U];exact q
  cases z with
  |int i j=>
   cases ra;cases rb
   exact wM (by rw[<-iF];exact q)
  |nil ys=>exact tup _ _ rfl rfl
  |nil' xs=>exact tup _ _ rfl rfl
  |cons _ _=>exact tup _ _ rfl rfl
end
end Srt
namespace Srt
variable{n:Nat}
section
variable{prog:L4}{w:Lq}{A:Lv}{E:h8->r0->Prop}{s:r0}
theorem kf{α β:Type}{M:QU}{f:α->Sem β}{g:α->β}:∀{l:List α} {Q:List β->r0->Prop},(∀x∈l,∀R:β->r0->Prop,R (g x) s->KN M A (f x) R E s)->Q (l.map g) s->KN M A (l.mapM f) Q E s
 |[],Q,_,q=>by rw[List.mapM_nil];exact tv q
 |x::xs,Q,h,q=>by rw[Rh];refine gV (h x (by simp) _ (gV (kf (λy j=>h y (by simp[j])) (tv q))))
theorem eM{α β:Type}{M:QU}{f:α->Sem β}{g:α->β}{xs:Array α}{Q:Array β->r0->Prop}(h:∀x∈xs.toList,∀R:β->r0->Prop,R (g x) s->KN M A (f x) R E s)(q:Q (xs.map g) s):KN M A (xs.mapM f) Q E s:=by
 rw[Array.mapM_eq_mapM_toList];rw[map_eq_pure_bind];refine gV (kf h (tv ?_));have:(xs.toList.map g).toArray=xs.map g:=by apply Qv.mp;simp
 rw[this];exact q
theorem nh{a:Wk}{v:h8}{vs:List h8}{o:Obj}(h1:s.heap.get? a=Z o)(h2:o.cls=.type "tuple")(j:o.data=.seq (v::vs).toArray n){Q:Option h8->r0->Prop}(q:Q (Z v) s):KN (Lk prog w) A (firstOfTuple' (.ref a)) Q E s:=by
 unfold firstOfTuple';have ty:s.TypeIs (.ref a) "tuple":=⟨_,h1,h2⟩
 wp_walk
 rw[j];refine tv ?_;refine tv ?_;exact tv q
theorem Cf{a:Wk}{o:Obj}{T:h8}(h1:s.heap.get? a=Z o)(h2:o.cls=T){Q:h8->r0->Prop}(q:Q T s):KN (Lk prog w) A (typeOf (.ref a)) Q E s:=by
 wp_walk
 rw[h2];exact q
theorem wN{x y:h8}{d e:Mq}{as bs:List Wk}(j:Cmpb d e)(rx:PM s.heap x d as)(ry:PM s.heap y e bs)(ld:d.canLay0=F2)(le:e.canLay0=F2)(hd:d.depth<=n)(z:A.units+n+1<Ol){Q:Bool->r0->Prop}(q:Q (ltK (toK d) (toK e)) s):KN (Lk prog w) A (oneLt' Wj x y) Q E s:=by rw[oneLt'_eq];exact gV (Gg n prog w A s x y d e as bs E _ hd j rx ry ld le z (trd q))
theorem ni{b:Bool}{x y:h8}{xs ys:List Mq}{as bs:List Wk}(hb:b=F2->∀d e,xs.head?=Z d->ys.head?=Z e->(∃i,d=.int i)/\∃i,e=.int i)(F:Cmpb (.tuple xs) (.tuple ys))(rx:PM s.heap x (.tuple xs) as)(ry:PM s.heap y (.tuple ys) bs)(lx:Mv xs=F2)(ly:Mv ys=F2)(hd:NL xs<=n)(hu:A.units+n+1<Ol){Q:Bool->r0->Prop}(q:Q (ltK (toK (.tuple xs)) (toK (.tuple ys))) s):
 KN (Lk prog w) A (keyLt' (tuples' b) x y) Q E s:=by
 cases rx with
 |tuple h1 h2 h3 G=>
  cases ry with
  |tuple g1 g2 g3 J=>
   refine gV (UE h1 h3 ?_);refine gV (UE g1 g3 ?_);refine gV (gc (ji (n:=n) (g:=id) (pr:=Prod.fst) (List.zipIdx_map_fst _ _) G J F lx ly hd ?_ ?_))
   ·rintro⟨⟨x,y⟩,i⟩ x' y' d e as bs R hz hp rx ry F ld le hd r
    cases hp
    dsimp only;refine gV (UZ d e _ _ _ _ _ _ rx ry ld le ∅ prog w E _ ?_)
    by_cases B:Mu d e=F2
    ·rw[if_pos B]at r;rw[B];exact tv r
    ·rw[if_neg B]at r;have B:Mu d e=Wj:=by simpa using B
     rw[B];refine gV ?_
     by_cases z:(b&&i==0)=F2
     ·rw[z];simp only[p0,beq_iff_eq]at z;obtain⟨rfl,rfl⟩:=z;have j:=List.mem_zipIdx_iff_getElem?.mp hz;obtain⟨L,O,t1,U,e1,e2⟩:∃(L O:Int) (t1 U:Tok),x=.int L t1/\y=.int O U:=by
       generalize hV:Sj _=vl at G j;generalize hU:Sj _=ul at J j
       cases G with
       |nil=>simp at j
       |cons p1 p2=>
        cases J with
        |nil=>simp at j
        |cons q1 q2=>
         simp at j;obtain⟨⟨L,ei⟩,⟨O,ej⟩⟩:=hb rfl _ _ rfl rfl;subst ei ej
         cases p1;cases q1
         exact⟨_,_,_,_,j.1.symm,j.2.symm⟩
      subst e1 e2
      cases rx;cases ry
      refine oneLt_int ?_;rw[<-iF];exact tv r
     ·have z:(b&&i==0)=Wj:=by simpa using z
      rw[z];exact wN F rx ry ld le hd hu (tv r)
   ·have e1:=jh F
    cases e2:cG xs ys with
    |some b=>rw[e2]at e1;dsimp only at e1;rw[e1]at q;exact tv q
    |none=>rw[e2]at e1;dsimp only at e1;rw[e1]at q;have Fn:=ce G;have fv:=ce J;refine tv ?_;simp only[Mr]at Fn fv;rw[Fn,fv];exact q
end
end Srt
namespace Srt
structure qp(n:Nat)(ds:List Mq):Prop where
 cmp:∀d∈ds,∀e∈ds,Cmpb d e
 lay:∀d∈ds,d.canLay0=F2/\d.depth<=n
 kind:(∀d∈ds,∃i,d=.int i)∨(∀d∈ds,∃i xs,d=.tuple (.int i::xs))∨(∀d∈ds,∃ys xs,d=.tuple (.tuple ys::xs))
noncomputable def cR(h:Heap):h8->Option h8
 |.ref a=>(h.get? a).bind λo=>match o.data with|.seq xs _=>xs[0]?|_=>Y
 |_=>Y
variable{vs:List h8}{h:Heap}{v:h8}
section
variable{prog:L4}{w:Lq}{A:Lv}{E:h8->r0->Prop}{s:r0}
noncomputable def dO(h:Heap)(x:Lm):Ky:=toK (MX h x.1)
def RdL(h:Heap)(vs:List h8)(ds:List Mq):Prop:=∀v∈vs,∃d∈ds,∃as,PM h v d as
theorem hZ{arr:Array h8}{T:String}(h0:0<arr.size)(h:∀v∈arr.toList,∀R:h8->r0->Prop,R (.type T) s->KN (Lk prog w) A (typeOf v) R E s){Q:Option h8->r0->Prop}(q:Q (Z (.type T)) s):KN (Lk prog w) A (oneTypeOnly' arr) Q E s:=by
 rw[oneTypeOnly'_eq];refine gV (eM (g:=λ_=>Lw T) h ?_);have e:(Qw (λ_=>Lw T) arr)[0]?=Z (Lw T):=by rw[Array.getElem?_map,Mn h0];rfl
 rw[e];dsimp only;have e2:((Qw (λ_=>Lw T) arr).all λx=>x==Lw T)=F2:=by rw[UG];intro i hi;simp
 rw[e2];exact tv q
theorem uw{n:Nat}{kd:QJ}{ds:List Mq}(j:RdL s.heap vs ds)(hs:qp n ds)(h:∀(x y:h8) (d e:Mq) (as bs:List Wk) (E:h8->r0->Prop) (Q:Bool->r0->Prop),d∈ds->e∈ds->PM s.heap x d as->PM s.heap y e bs->Q (ltK (toK d) (toK e)) s->KN (Lk prog w) A (keyLt' kd x y) Q E s):
 Cm prog w A s kd (λx=>x.1∈vs) (λx y=>ltK (dO s.heap x) (dO s.heap y)) where
 asym:=λx y=>qo _ _
 neg:=λx y z=>Ce _ _ _
 run:=λx y E Q hx B q=>by obtain⟨d,hd,as,ra⟩:=j _ hx;obtain⟨e,he,bs,rb⟩:=j _ B;have e1:=NM (hs.lay d hd).1 ra;have e2:=NM (hs.lay e he).1 rb;unfold dO at q;rw[e1,e2]at q;exact h _ _ d e as bs E Q hd he ra rb q
theorem qq(j:∀v∈vs,∃u,cR h v=Z u):((vs.toArray.map (cR h)).all λx=>x.isSome)=F2:=by rw[UG];intro i hi;simp at hi;obtain⟨u,z⟩:=j vs[i] (Qx hi);simp[z]
theorem wP{x:h8}(hx:x∈(Vr id (vs.toArray.map (cR h))).toList):∃v∈vs,cR h v=Z x:=by simp at hx;exact hx
theorem wQ{u:h8}(j:cR h v=Z u):0<(Vr id ((v::vs).toArray.map (cR h))).size:=by rw[<-Mr];simp[j]
theorem nj{d:Mq}{xs:List Mq}{as:List Wk}(r:PM h v (.tuple (d::xs)) as):∃a o u us n bs,v=.ref a/\h.get? a=Z o/\o.cls=.type "tuple"/\o.data=.seq (u::us).toArray n/\PM h u d bs:=by
 cases r with
 |@tuple a o vs n xs as h1 h2 j h4=>
  generalize z:vs.toList=vl at h4
  cases h4 with
  |@cons u us _ _ bs _ B p2=>exact⟨_,_,u,us,n,bs,rfl,h1,h2,by rw[j];congr 1;apply Qv.mp;simpa using z,B⟩
theorem Gh{n:Nat}{ds:List Mq}(U:RdL s.heap (v::vs) ds)(hs:qp n ds)(z:A.units+n+1<Ol):
 ∃kd,(∀(E:h8->r0->Prop) (Q:QJ->r0->Prop),Q kd s->KN (Lk prog w) A (keyKind' (v::vs).toArray) Q E s)/\Cm prog w A s kd (λx=>x.1∈v::vs) (λx y=>ltK (dO s.heap x) (dO s.heap y)):=by
 rcases hs.kind with G|G|G
 ·refine⟨oneType',λE Q q=>?_,uw U hs λx y d e as bs E Q hd he ra rb q=>?_⟩
  ·have hint:∀u∈v::vs,∃i t,u=.int i t:=fun u z=>by
    obtain⟨d,hd,as,ra⟩:=U u z;obtain⟨i,rfl⟩:=G d hd
    cases ra
    exact⟨_,_,rfl⟩
   rw[Vi];refine gV (eM (g:=λ_=>(Y:Option h8)) (λu z R r=>?_) ?_)
   ·obtain⟨i,t,rfl⟩:=hint u (by simpa using z)
    rw[firstOfTuple'_int];exact tv r
   ·have e1:((Qw (fun _=>(Y:Option h8)) (v::vs).toArray).all fun x=>x.isSome)=Wj:=by
     simp
    rw[e1];have e2:((Qw (λ_=>(Y:Option h8)) (v::vs).toArray)[0]?.bind id).isSome=Wj:=by simp
    simp only[e2,Mx,if_false];refine gV (hZ (T:="int") (by simp) (λu z R r=>?_) ?_)
    ·obtain⟨i,t,rfl⟩:=hint u (by simpa using z)
     exact tv r
    ·exact tv q
  ·obtain⟨i,rfl⟩:=G d hd;obtain⟨j,rfl⟩:=G e he
   cases ra;cases rb
   rw[keyLt'_oneType];exact oneLt_int (by rw[<-iF];exact q)
 ·refine⟨tuples' F2,λE Q q=>?_,uw U hs λx y d e as bs E Q hd he ra rb q=>?_⟩
  ·have hf:∀u∈v::vs,∃a o i t us n,u=.ref a/\s.heap.get? a=Z o/\o.cls=.type "tuple"/\o.data=.seq (.int i t::us).toArray n:=fun u z=>by
    obtain⟨d,hd,as,ra⟩:=U u z;obtain⟨i,xs,rfl⟩:=G d hd;obtain⟨a,o,u1,us,n,bs,e1,e2,J,F,L⟩:=nj ra
    cases L
    exact⟨a,o,_,_,us,n,e1,e2,J,F⟩
   have B:∀u∈v::vs,∃i t,cR s.heap u=Z (.int i t):=λu z=>by obtain⟨a,o,i,t,us,n,rfl,e2,J,F⟩:=hf u z;exact⟨i,t,by simp[cR,e2,F]⟩
   rw[Vi];refine gV (eM (g:=cR s.heap) (λu z R r=>?_) ?_)
   ·obtain⟨a,o,i,t,us,n,rfl,e2,J,F⟩:=hf u (by simpa using z)
    refine nh e2 J F ?_;simpa[cR,e2,F]using r
   ·rw[qq (λu z=>let⟨i,t,e⟩:=B u z; ⟨_,e⟩)];refine gV (Mw ?_);obtain⟨i0,t0,e0⟩:=B v (by simp)
    refine gV (hZ (T:="int") (wQ e0) (λu z R r=>?_) ?_)
    ·obtain⟨u',O,e⟩:=wP z;obtain⟨i,t,e'⟩:=B u' O;rw[e']at e;cases e;exact tv r
    ·exact tv q
  ·obtain⟨i,xs,rfl⟩:=G d hd;obtain⟨j,ys,rfl⟩:=G e he;have l1:=hs.lay _ hd;have l2:=hs.lay _ he;refine ni (n:=n) (λ_ d e hd he=>?_) (hs.cmp _ hd _ he) ra rb (by simpa[Q9]using l1.1) (by simpa[Q9]using l2.1) (by have:=l1.2;simp[OL]at this;lia) z q
   simp at hd he;subst hd he;exact⟨⟨_,rfl⟩,_,rfl⟩
 ·refine⟨tuples' Wj,λE Q q=>?_,uw U hs λx y d e as bs E Q hd he ra rb q=>?_⟩
  ·have hf:∀u∈v::vs,∃a o b ob us n,u=.ref a/\s.heap.get? a=Z o/\o.cls=.type "tuple"/\o.data=.seq (.ref b::us).toArray n/\s.heap.get? b=Z ob/\ob.cls=.type "tuple":=fun u z=>by
    obtain⟨d,hd,as,ra⟩:=U u z;obtain⟨ys,xs,rfl⟩:=G d hd;obtain⟨a,o,u1,us,n,bs,e1,e2,J,F,L⟩:=nj ra
    cases L with
    |tuple h1 h2 fv h4=>exact⟨a,o,_,_,us,n,e1,e2,J,F,h1,h2⟩
   have B:∀u∈v::vs,∃b ob,cR s.heap u=Z (.ref b)/\s.heap.get? b=Z ob/\ob.cls=.type "tuple":=λu z=>by obtain⟨a,o,b,ob,us,n,rfl,e2,J,F,L,Fn⟩:=hf u z;exact⟨b,ob,by simp[cR,e2,F],L,Fn⟩
   rw[Vi];refine gV (eM (g:=cR s.heap) (λu z R r=>?_) ?_)
   ·obtain⟨a,o,b,ob,us,n,rfl,e2,J,F,L,Fn⟩:=hf u (by simpa using z)
    refine nh e2 J F ?_;simpa[cR,e2,F]using r
   ·rw[qq (λu z=>let⟨i,t,e,_⟩:=B u z; ⟨_,e⟩)];refine gV (Mw ?_);obtain⟨i0,t0,e0,_⟩:=B v (by simp)
    refine gV (hZ (T:="tuple") (wQ e0) (λu z R r=>?_) ?_)
    ·obtain⟨u',O,e⟩:=wP z;obtain⟨b,ob,e',L,Fn⟩:=B u' O;rw[e']at e;cases e;exact Cf L Fn r
    ·exact tv q
  ·obtain⟨zs,xs,rfl⟩:=G d hd;obtain⟨zs',ys,rfl⟩:=G e he;have l1:=hs.lay _ hd;have l2:=hs.lay _ he;exact ni (n:=n) (λh=>by cases h) (hs.cmp _ hd _ he) ra rb (by simpa[Q9]using l1.1) (by simpa[Q9]using l2.1) (by have:=l1.2;simp[OL]at this;lia) z q
end
end Srt
namespace Srt
inductive Pl:Mq->Prop where
 |int (i:Int):Pl (.int i)
 |tup (xs:List Mq):(∀x∈xs,Pl x)->Pl (.tuple xs)
theorem b9{h h':Heap}(k:∀b o,h.get? b=Z o->o.cls=.type "tuple"->h'.get? b=Z o){d:Mq}(p:Pl d):∀{v:h8} {as:List Wk},PM h v d as->PM h' v d as:=by
 induction p with
 |int i=>intro v as r;cases r;exact .int _ _
 |tup xs hx ih=>
  intro v as r
  cases r with
  |tuple h1 h2 z B=>
   refine .tuple (k _ _ h1 h2) h2 z ?_;have g:∀(xs:List Mq),(∀x∈xs,∀{v:h8} {as:List Wk},PM h v x as->PM h' v x as)->∀(vs:List h8) (as:List Wk),Ta h vs xs as->Ta h' vs xs as:=by
    intro xs
    induction xs with
    |nil=>intro _ vs as r;cases r;exact .nil
    |cons x xs ihx=>
     intro j vs as r
     cases r with
     |cons F p2=>exact .cons (j x (by simp) F) (ihx (λy G=>j y (by simp[G])) _ _ p2)
   exact g xs ih _ _ B
section
variable{prog:L4}{w:Lq}{A:Lv}{E:h8->r0->Prop}{s:r0}
theorem zF{α:Type}{R:α->α->Prop}:∀{l:List α},l.length<2->l.Pairwise R
 |[],_=>.nil
 |[_],_=>List.pairwise_singleton _ _
theorem Cg{α:Type}:∀{l:List α},2<=l.length->∃x r,l=x::r
 |x::r,_=>⟨x,r,rfl⟩
theorem Ch{cap:Nat}(S:iD cap){m:Nat}{a:Wk}{vs:List h8}{n:Nat}{ds:List Mq}(ha:s.heap.get? a=Z (Uh "list" vs.toArray n))(Fn:RdL s.heap vs ds)(hs:qp m ds)(hp:∀d∈ds,Pl d)(hl:vs.length<=KG)(JN:vs.length<=cap)(hu:A.units+m+1<Ol){Q:PySem.Fin->r0->Prop}(q:∀(h':Heap) (out:List h8) (n':Nat),(∀b o,b≠a->s.heap.get? b=Z o->h'.get? b=Z o)->h'.get? a=Z (Uh "list" out.toArray n')->out.Perm vs->out.Pairwise (λx y=>ltK (toK (MX s.heap y)) (toK (MX s.heap x))=Wj)->Q (.done (.ret .none)) {s with heap:=h'}):
 KN (Lk prog w) A (Mh.«list.sort» ⟨[.ref a],[]⟩) Q E s:=by
 rw[list_sort_plain];refine gV (UE ha rfl ?_);refine gV (Oz ha rfl ?_ (by simpa using hl) (by simp))
 have g1:=NN ha (λ_=>#[]);generalize JO:s.heap.update a (N4 λ_=>#[])=h1 at g1;generalize (if((#[]:Array h8).size==vs.toArray.size)=F2 then n else n+1)=n1 at g1
 refine gV (Vj g1 rfl ?_);refine gV (Pg ?_ (by simpa using hl))
 refine gV (QA ?_ (by simp))
 refine LH ?_;dsimp only;generalize O:({heap:=(h1.push {cls:=Lw "tuple",data:=OV vs.toArray.toList.toArray}).push {cls:=Lw "list",data:=OV [].toArray},gens:=s.gens,drawn:=s.drawn,toks:=s.toks,os:=s.os}:r0)=s3;have g3:s3.heap.get? a=Z (Uh "list" #[] n1):=by rw[<-O];exact hQ _ (hQ _ g1)
 have keep:∀b o,b≠a->s.heap.get? b=Z o->s3.heap.get? b=Z o:=λb o G J=>by rw[<-O,<-JO];exact hQ _ (hQ _ (by rw[LK _ _ _ _ G];exact J))
 have keepT:∀b o,s.heap.get? b=Z o->o.cls=.type "tuple"->s3.heap.get? b=Z o:=λb o G hc=>keep b o (λz=>by rw[z,ha]at G;cases G;simp at hc) G
 have JP:RdL s3.heap vs ds:=λv hv=>by obtain⟨d,hd,as,r⟩:=Fn v hv;exact⟨d,hd,as,b9 keepT (hp d hd) r⟩
 have same:∀v∈vs,MX s3.heap v=MX s.heap v:=λv hv=>by obtain⟨d,hd,as,r⟩:=Fn v hv;rw[NM (hs.lay d hd).1 r,NM (hs.lay d hd).1 (b9 keepT (hp d hd) r)]
 have q:∀(h':Heap) (out:List h8) (n':Nat),(∀b o,b≠a->s.heap.get? b=Z o->h'.get? b=Z o)->h'.get? a=Z (Uh "list" out.toArray n')->out.Perm vs->out.Pairwise (λx y=>ltK (toK (MX s.heap y)) (toK (MX s.heap x))=Wj)->Q (.done (.ret .none)) {s3 with heap:=h'}:=by rw[<-O];exact q
 have JR:∀A':Lv,A'.units=A.units->True:=λ_ _=>trivial;clear O
 let Good:Nu->Prop:=λst'=>PN st'=Y/\(LP st').toList.Perm (vs.zip vs)/\(LP st').toList.Pairwise (λx y=>ltK (dO s3.heap y) (dO s3.heap x)=Wj)
 by_cases F:vs.toArray.size<2
 ·rw[if_pos F,if_pos F];refine gV (tv ?_);have B:vs.length<2:=by simpa using F
  have run:KN (Lk prog w) A ((pure ():StateT Nu Sem Unit).run (Qu general' (vs.toArray.zip vs.toArray) #[] 7 Y)) (λr s'=>s'=s3/\Good r.2) E s3:=by
   refine tv ⟨rfl,rfl,?_,?_⟩
   ·show(vs.toArray.zip vs.toArray).toList.Perm _;simp
   ·show List.Pairwise _ (vs.toArray.zip vs.toArray).toList;exact zF (by simpa using B)
  refine gV (Md (Q:=λr s'=>s'=s3/\Good r.2) run (λr s' Fn=>?_) (λ_ _ z=>z));obtain⟨rfl,L,j,U⟩:=Fn;obtain⟨u,st'⟩:=r;refine gV (Vj g3 rfl ?_);refine gV (Oz g3 rfl ?_ (by simp) (by simp only[Array.size_map];have:=j.length_eq;simp at this;rw[this];lia))
  dsimp only at L;rw[L];simp only[bne_self_eq_false,Mx,if_false];refine tv ?_;have gq:=NN g3 (λ_=>Qw (λx=>x.snd) (LP st'));have eo:Qw (λx=>x.snd) (LP st')=((LP st').toList.map λx=>x.snd).toArray:=by apply Qv.mp;simp
  refine q _ ((LP st').toList.map λx=>x.snd) _ (λb o G J=>?_) (by rw[gq,eo]) ?_ ?_
  ·rw[LK _ _ _ _ G];exact keep b o G J
  ·have fv:=j.map (λx:Lm=>x.snd);rw[V0 (by simp)]at fv
   exact fv
  ·rw[LY];refine U.imp_of_mem λ{x y} hx hy hxy=>?_;have mx:=R4 (j.mem_iff.mp hx);have my:=R4 (j.mem_iff.mp hy);unfold dO at hxy;rw[mx.1,my.1,same y.2 (by rw[<-my.1];exact my.2),same x.2 (by rw[<-mx.1];exact mx.2)]at hxy
   exact hxy
 ·rw[if_neg F,if_neg F];have B:2<=vs.length:=by simpa using F
  obtain⟨v0,JQ,JJ⟩:=Cg B;obtain⟨kd,JK,JL⟩:=Gh (prog:=prog) (w:=w) (A:=A) (v:=v0) (vs:=JQ) (by rw[<-JJ];exact JP) hs hu
  rw[<-JJ]at JK JL;refine gV (JK E _ ?_);have run:KN (Lk prog w) A (sortRuns'.run (Qu kd (vs.toArray.zip vs.toArray) #[] 7 Y)) (λr s'=>s'=s3/\Good r.2) E s3:=by
   have ez:(LP (Qu kd (vs.toArray.zip vs.toArray) #[] 7 Y)).toList=vs.zip vs:=by show(vs.toArray.zip vs.toArray).toList=_;simp
   have h9:wpS (Lk prog w) A E s3 sortRuns' (λ_ st'=>Good st') (Qu kd (vs.toArray.zip vs.toArray) #[] 7 Y):=by
    have JM:(LP (Qu kd (vs.toArray.zip vs.toArray) #[] 7 Y)).size=vs.length:=by rw[<-Mr,ez];simp
    refine S _ _ _ _ _ _ _ _ JL (Qu kd (vs.toArray.zip vs.toArray) #[] 7 Y) _ rfl rfl rfl (λx hx=>?_) (by rw[JM];exact B) (by rw[JM];exact JN) λst' p1 p2 p3=>⟨p3,by rw[ez]at p1;exact p1,p2⟩
    rw[ez]at hx;exact(R4 hx).2
   exact h9
  refine gV (Md (Q:=λr s'=>s'=s3/\Good r.2) run (λr s' Fn=>?_) (λ_ _ z=>z));obtain⟨rfl,L,j,U⟩:=Fn;obtain⟨u,st'⟩:=r;refine gV (Vj g3 rfl ?_);refine gV (Oz g3 rfl ?_ (by simp) (by simp only[Array.size_map];have:=j.length_eq;simp at this;rw[this];lia))
  dsimp only at L;rw[L];simp only[bne_self_eq_false,Mx,if_false];refine tv ?_;have gq:=NN g3 (λ_=>Qw (λx=>x.snd) (LP st'));have eo:Qw (λx=>x.snd) (LP st')=((LP st').toList.map λx=>x.snd).toArray:=by apply Qv.mp;simp
  refine q _ ((LP st').toList.map λx=>x.snd) _ (λb o G J=>?_) (by rw[gq,eo]) ?_ ?_
  ·rw[LK _ _ _ _ G];exact keep b o G J
  ·have fv:=j.map (λx:Lm=>x.snd);rw[V0 (by simp)]at fv
   exact fv
  ·rw[LY];refine U.imp_of_mem λ{x y} hx hy hxy=>?_;have mx:=R4 (j.mem_iff.mp hx);have my:=R4 (j.mem_iff.mp hy);unfold dO at hxy;rw[mx.1,my.1,same y.2 (by rw[<-my.1];exact my.2),same x.2 (by rw[<-mx.1];exact mx.2)]at hxy
   exact hxy
theorem uA(u:h8):S2 "sorted" ⟨[u],[]⟩=pure ():=by kernel_rfl
theorem nr{cap:Nat}(S:iD cap){m:Nat}{u:h8}{ds:List Mq}{C:Heap->List h8->Prop}{Q:h8->r0->Prop}(hu:A.units+m+3<Ol)(hs:qp m ds)(F:∀d∈ds,Pl d)(G:∀(E:h8->r0->Prop) (R:List h8->r0->Prop),(∀(h':Heap) (vs':List h8) (t':Nat),C h' vs'->RdL h' vs' ds->vs'.length<=KG/\vs'.length<=cap->s.toks<=t'->R vs' {s with heap:=h',toks:=t'})->KN (Lk prog w) A.in1 (collect u) R E s)(q:∀(h1 h2:Heap) (vs out:List h8) (n' t':Nat),C h1 vs->(∀b o,h1.get? b=Z o->h2.get? b=Z o)->h2.get? h1.objs.size=Z (Uh "list" out.toArray n')->out.Perm vs->out.Pairwise (λx y=>ltK (toK (MX h2 y)) (toK (MX h2 x))=Wj)->RdL h2 out ds->vs.length<=KG->s.toks<=t'->Q (.ref h1.objs.size) {s with heap:=h2,toks:=t'}):
 KN (Lk prog w) A (call (.builtin "sorted") [u]) Q E s:=by
 refine Sl (QH plain_sorted entry_sorted (Nq (uA u) ?_));unfold Builtin.sorted;refine gV (Nq (a:=()) (by kernel_rfl) ?_)
 refine gV (G _ _ λh1 vs t' hC L J ht=>?_);obtain⟨J,O⟩:=J;refine gV (QA ?_ J);refine gV (LH ?_);have U:RdL (h1.push {cls:=Lw "list",data:=OV vs.toArray}) vs ds:=λv B=>by obtain⟨d,hd,as,r⟩:=L v B;exact⟨d,hd,as,b9 (λb o z _=>hQ _ z) (F d hd) r⟩
 have ha:(h1.push {cls:=Lw "list",data:=OV vs.toArray}).get? h1.objs.size=Z (Uh "list" vs.toArray 0):=A2 _ rfl;refine Le slot_list_sort (T:="list") ⟨_,ha,rfl⟩ entry_list_sort ?_ (args_list_sort _);refine Ch S (m:=m) ha U hs F J O (by show A.units+1+1+m+1<Ol;lia) λh2 out n' keep g2 j Fn=>⟨_,rfl,tv ?_⟩
 have old:∀b o,h1.get? b=Z o->h2.get? b=Z o:=λb o z=>keep b o (Lg (B1 z)) (hQ _ z);have fv:RdL h2 vs ds:=λv B=>by obtain⟨d,hd,as,r⟩:=L v B;exact⟨d,hd,as,b9 (λb o z _=>old b o z) (F d hd) r⟩
 refine q h1 h2 vs out n' t' hC old g2 j ?_ (λv B=>fv v (j.mem_iff.mp B)) J ht;have same:∀v∈vs,MX (h1.push {cls:=Lw "list",data:=OV vs.toArray}) v=MX h2 v:=λv B=>by obtain⟨d,hd,as,r⟩:=L v B;rw[NM (hs.lay d hd).1 (b9 (λb o z _=>old b o z) (F d hd) r),NM (hs.lay d hd).1 (b9 (λb o z _=>hQ _ z) (F d hd) r)]
 refine Fn.imp_of_mem λ{x y} hx hy hxy=>?_;rw[same y (j.mem_iff.mp hy),same x (j.mem_iff.mp hx)]at hxy;exact hxy
end
end Srt
namespace It
noncomputable def iO(f0:h8)(b:Bool)(d:Wk)(i n ep:Nat)(ok ov:h8):Obj:={cls:=.type "dict_itemiterator",data:=.fields #[f0,.bool b,.ref d,.int i 0,.int n 0,.int ep 0,ok,ov]}
theorem slot_next:Slot "dict_itemiterator" "__next__" "dict_itemiterator.__next__":=.of (owner:="dict_itemiterator") (n:="__next__") (by rw[PQ,Oc];kernel_rfl) (by decide +kernel) (by decide +kernel) (by decide +kernel) (.inl (by decide +kernel)) (by rw[Nt];kernel_rfl)
theorem bq:Uz table "dict_itemiterator.__next__"=Z Mh.«dict_itemiterator.__next__»:=Qt (by kernel_rfl)
theorem bE(a:h8):Sx "dict_itemiterator.__next__" ⟨[a],[]⟩:=by unfold Sx;kernel_rfl
theorem kg:mroOf (.type "dict_itemiterator")=pure [.type "dict_itemiterator",.type "object"]:=by rw[mroOf_type];kernel_rfl
variable{a it d:Wk}{b:Bool}{i ep:Nat}{ov:h8}{oa:Obj}
section
variable{prog:L4}{w:Lq}{A:Lv}{E:h8->r0->Prop}{s:r0}
theorem zG{M:QU}{Q:Option Obj->r0->Prop}(q:Q (s.heap.get? a) s):KN M A (loadIfAlive a) Q E s:=λΓ p hp=>by show Sem.wp M Γ (Sem.loadIfAlive a Sem.pure) _ _ p s;rw[Sem.wp_loadIfAlive];exact q
theorem cS(ty:s.TypeIs (.ref it) "dict_itemiterator"){types:List String}{Q:Bool->r0->Prop}(q:Q (types.any λt=>[Lw "dict_itemiterator",Lw "object"].contains (Lw t)) s):KN (model prog w) A (O9 (.ref it) types) Q E s:=by
 have hm:=kg;unfold O9
 wp_walk
 exact q
theorem wR{n:Nat}{ok:h8}{Q:Bool->r0->Prop}(hi:s.heap.get? it=Z (iO (MQ a) b d i n ep ok ov))(j:s.heap.get? a=Z oa)(q:∀h',h'.get? it=Z (iO (MQ a) F2 d i n ep ok ov)->Mg it s.heap h'->Q Wj {s with heap:=h'}):KN (model prog w) A (NU (.ref it)) Q E s:=by
 unfold NU;refine gV (Lc hi rfl (x:=MQ a) rfl ?_);refine gV (zG ?_);rw[show((a:Int)).toNat=a from J4 a,j];dsimp only;rw[if_neg (by simp)]
 refine gV (Lc hi rfl (x:=.bool b) rfl ?_)
 cases b with
 |true=>
  rw[if_neg (by decide)]
  exact tv (q s.heap hi (Heap.SameBut.refl ..))
 |false=>
  rw[if_pos (by decide)]
  refine gV (KS hi (by simp) λh' e' s'=>?_)
  exact tv (q h' e' s')
theorem wU{n:Nat}{ok k v:h8}{Q:h8->r0->Prop}(hi:s.heap.get? it=Z (iO (MQ a) b d i n ep ok ov))(z:s.heap.get? a=Z oa)(q:∀h',h'.get? it=Z (iO (MQ a) F2 d i n ep ok ov)->h'.get? s.heap.objs.size=Z {cls:=.type "tuple",data:=.seq #[k,v]}->(∀b o,b≠it->s.heap.get? b=Z o->h'.get? b=Z o)->Q (.ref s.heap.objs.size) {s with heap:=h'}):KN (model prog w) A (N9 (.ref it) 6 k v) Q E s:=by
 unfold N9;refine gV (Pg ?_ (by size_fits))
 have j:=B1 hi;refine gV (wR (a:=a) (oa:=oa) (hQ _ hi) (hQ _ z) λh' e' s'=>?_);dsimp only;rw[if_neg (by simp)]
 refine tv (q h' e' ?_ λb o B e=>?_)
 ·exact s'.extBut _ _ (LL j) (A2 _ rfl)
 ·exact s'.extBut _ _ B (hQ _ e)
theorem Ci{ok cd:h8}{dd:Option Wk}{sl:Array (Option h8)}{es:Array LW}{e:LW}{Q:Option h8->r0->Prop}(hi:s.heap.get? it=Z (iO (MQ a) b d i es.size ep ok ov))(B:a≠it)(L:s.heap.get? a=Z oa)(hd:s.heap.get? d=Z {cls:=cd,dict:=dd,data:=.dict es ep,slots:=sl})(he:es[i]?=Z e)(q:∀h',h'.get? it=Z (iO (MQ a) F2 d (i+1) es.size ep ok ov)->h'.get? s.heap.objs.size=Z {cls:=.type "tuple",data:=.seq #[e.key,e.val]}->(∀b o,b≠it->s.heap.get? b=Z o->h'.get? b=Z o)->Q (Z (.ref s.heap.objs.size)) {s with heap:=h'}):KN (model prog w) A (MZ (.ref it)) Q E s:=by
 have ty:s.TypeIs (.ref it) "dict_itemiterator":=⟨_,hi,rfl⟩;unfold MZ;refine gV (MB (L6 (name:=Lf "__next__") ty slot_next (Le slot_next ty bq ?_ (bE _))));unfold Mh.«dict_itemiterator.__next__»;have hm:=kg
 wp_walk
 dsimp only;rw[if_neg (by simp)]
 wp_walk
 simp only[J4,he];refine gV (Md (Q:=λn s'=>n=2/\s'=s) ?_ (λn s' hs=>?_) λ_ _ z=>z)
 ·wp_walk
  exact⟨by kernel_rfl,rfl⟩
 obtain⟨rfl,rfl⟩:=hs;refine gV (cS ty ?_);refine gV (KS hi (by simp) λh1 e1 s1=>?_)
 refine gV (LH ?_);have j:RH {s' with heap:=h1} (.ref it) "dict_itemiterator":=⟨_,e1,rfl⟩
 refine gV (cS j ?_);rw[if_neg (by decide +kernel)]at e1
 have e1:h1.get? it=Z (iO (MQ a) b d (i+1) es.size ep ok ov):=e1;have hsz:h1.objs.size=s'.heap.objs.size:=s1.1;have F:h1.get? a=Z oa:=s1.extBut a oa B L;refine OT (by decide +kernel) ?_
 refine gV (cS j ?_);refine OT (by decide +kernel) ?_
 refine wU (s:={s' with heap:=h1}) e1 F λh2 e2 G O=>?_
 refine tv ⟨_,rfl,tv ?_⟩;dsimp only at G⊢;rw[hsz]at G⊢;exact q h2 e2 G λb o J e=>O b o J (s1.extBut b o J e)
theorem nx_end{f0 ok cd:h8}{dd:Option Wk}{sl:Array (Option h8)}{es:Array LW}{Q:Option h8->r0->Prop}(j:A.handled=Y)(hi:s.heap.get? it=Z (iO f0 b d es.size es.size ep ok ov))(hd:s.heap.get? d=Z {cls:=cd,dict:=dd,data:=.dict es ep,slots:=sl})(q:∀h',(∀b o,b≠it->s.heap.get? b=Z o->h'.get? b=Z o)->Q Y {s with heap:=h'}):KN (model prog w) A (MZ (.ref it)) Q E s:=by
 have ty:s.TypeIs (.ref it) "dict_itemiterator":=⟨_,hi,rfl⟩;unfold MZ;refine gV (MB (L6 (name:=Lf "__next__") ty slot_next (Le slot_next ty bq ?_ (bE _))));unfold Mh.«dict_itemiterator.__next__»;have hm:=kg
 wp_walk
 dsimp only;rw[if_neg (by simp)]
 wp_walk
 have he:es[es.size]?=Y:=OM (KO _);simp only[J4,he];refine gV (Md (Q:=λn s'=>n=2/\s'=s) ?_ (λn s' hs=>?_) λ_ _ z=>z)
 ·wp_walk
  exact⟨by kernel_rfl,rfl⟩
 obtain⟨rfl,rfl⟩:=hs;refine gV (KS hi (by simp) λh1 e1 s1=>?_)
 refine gV (m:=Ud (.type "StopIteration") []) ?_;simp only[Ud,Uw];refine gV (LN ?_ (by size_fits))
 refine gV (m:=O8 _ _) (Nq (a:=MY) (by first|rfl|(simp only[O8];rfl)) (LN ?_ (by size_fits)))
 simp only[VG];refine gV (RG ?_)
 first|rw[show A.in1.handled=Y from j]|rw[j]
 refine gV (tv (T8 ?_));exact gV (Ng (T:="StopIteration") (b:=F2) ⟨_,A2 _ rfl,rfl⟩ Ph (tv (q _ λb o B e=>hQ _ (hQ _ (s1.extBut b o B e)))))
end
end It
namespace It
variable{it d:Wk}{ep:Nat}
section
variable{prog:L4}{w:Lq}{A:Lv}{E:h8->r0->Prop}{s:r0}
theorem wV{i n:Nat}{k v:h8}{Q:h8->r0->Prop}(hi:s.heap.get? it=Z (iO .none Wj d i n ep .none .none))(q:∀h',h'.get? it=Z (iO (MQ s.heap.objs.size) Wj d i n ep k v)->h'.get? s.heap.objs.size=Z {cls:=.type "tuple",data:=.seq #[k,v]}->(∀b o,b≠it->s.heap.get? b=Z o->h'.get? b=Z o)->Q (.ref s.heap.objs.size) {s with heap:=h'}):KN (model prog w) A (N9 (.ref it) 6 k v) Q E s:=by
 unfold N9;refine gV (Pg ?_ (by size_fits))
 have B:=B1 hi;have j:=hQ ({cls:=.type "tuple",data:=.seq [k,v].toArray}) hi;unfold NU;refine gV (gV (Lc j rfl (x:=.none) rfl (tv ?_)));dsimp only;rw[if_pos rfl];refine gV (Lc j rfl (x:=.none) rfl ?_);refine gV (Lc j rfl (x:=.none) rfl ?_);refine gV (KS j (by simp) λh1 e1 s1=>?_)
 refine gV (KS e1 (by simp) λh2 e2 s2=>?_)
 refine gV (KS e2 (by simp) λL G s3=>?_)
 refine gV (KS G (by simp) λF J s4=>?_)
 refine gV (Oo ?_);have kp:∀b o,b≠it->(s.heap.push {cls:=.type "tuple",data:=.seq [k,v].toArray}).get? b=Z o->F.get? b=Z o:=λb o z e=>s4.extBut b o z (s3.extBut b o z (s2.extBut b o z (s1.extBut b o z e)));refine tv (q F J (kp _ _ (LL B) (A2 _ rfl)) λb o z e=>kp b o z (hQ _ e))
theorem Cj{i:Nat}{cd:h8}{dd:Option Wk}{sl:Array (Option h8)}{es:Array LW}{e:LW}{Q:Option h8->r0->Prop}(hi:s.heap.get? it=Z (iO .none Wj d i es.size ep .none .none))(hd:s.heap.get? d=Z {cls:=cd,dict:=dd,data:=.dict es ep,slots:=sl})(he:es[i]?=Z e)(q:∀h',h'.get? it=Z (iO (MQ s.heap.objs.size) Wj d (i+1) es.size ep e.key e.val)->h'.get? s.heap.objs.size=Z {cls:=.type "tuple",data:=.seq #[e.key,e.val]}->(∀b o,b≠it->s.heap.get? b=Z o->h'.get? b=Z o)->Q (Z (.ref s.heap.objs.size)) {s with heap:=h'}):KN (model prog w) A (MZ (.ref it)) Q E s:=by
 have ty:s.TypeIs (.ref it) "dict_itemiterator":=⟨_,hi,rfl⟩;unfold MZ;refine gV (MB (L6 (name:=Lf "__next__") ty slot_next (Le slot_next ty bq ?_ (bE _))));unfold Mh.«dict_itemiterator.__next__»;have hm:=kg
 wp_walk
 dsimp only;rw[if_neg (by simp)]
 wp_walk
 simp only[J4,he];refine gV (Md (Q:=λn s'=>n=2/\s'=s) ?_ (λn s' hs=>?_) λ_ _ z=>z)
 ·wp_walk
  exact⟨by kernel_rfl,rfl⟩
 obtain⟨rfl,rfl⟩:=hs;refine gV (cS ty ?_);refine gV (KS hi (by simp) λh1 e1 s1=>?_)
 refine gV (LH ?_);have j:RH {s' with heap:=h1} (.ref it) "dict_itemiterator":=⟨_,e1,rfl⟩
 refine gV (cS j ?_);rw[if_neg (by decide +kernel)]at e1
 have e1:h1.get? it=Z (iO .none Wj d (i+1) es.size ep .none .none):=e1;have hsz:h1.objs.size=s'.heap.objs.size:=s1.1;refine OT (by decide +kernel) ?_
 refine gV (cS j ?_);refine OT (by decide +kernel) ?_
 refine wV (s:={s' with heap:=h1}) e1 λh2 e2 B G=>?_
 refine tv ⟨_,rfl,tv ?_⟩;dsimp only at e2 B⊢;rw[hsz]at e2 B⊢;exact q h2 e2 B λb o F e=>G b o F (s1.extBut b o F e)
structure Hu(h0:Heap)(s:r0)(it d:Wk)(es:Array LW)(ep i:Nat)(acc:Array h8):Prop where
 dict:∃cd dd sl,s.heap.get? d=Z {cls:=cd,dict:=dd,data:=.dict es ep,slots:=sl}
 iter:(i=0/\s.heap.get? it=Z (iO .none Wj d 0 es.size ep .none .none))∨(1<=i/\∃(a:Wk) (b:Bool) (ok ov:h8) (oa:Obj),s.heap.get? it=Z (iO (MQ a) b d i es.size ep ok ov)/\a≠it/\s.heap.get? a=Z oa/\oa.cls=.type "tuple")
 size:acc.size=i
 nd:acc.toList.Nodup
 item:∀j,j<i->∃t e,acc[j]?=Z (.ref t)/\es[j]?=Z e/\s.heap.get? t=Z {cls:=.type "tuple",data:=.seq #[e.key,e.val]}/\h0.get? t=Y
theorem Ck(hn:A.handled=Y){S:Wk}{es:Array LW}{res:h8}{R:U3->r0->Prop}(G:S≠it)(JM:S≠d)(JN:it≠d)(hz:es.size<=KG)(h0:Heap)(JQ:S<h0.objs.size->True):
 ∀(k i:Nat) (s:r0) (acc:Array h8) (c:Nat),es.size-i=k->i<=es.size->Hu h0 s it d es ep i acc->s.heap.get? S=Z {cls:=.type "list",data:=.seq acc c}->
  (∀b o,b≠it->b≠S->h0.get? b=Z o->s.heap.get? b=Z o)->
  (∀(h':Heap) (acc':Array h8) (c':Nat),(∀b o,b≠it->b≠S->h0.get? b=Z o->h'.get? b=Z o)->h'.get? S=Z {cls:=.type "list",data:=.seq acc' c'}->acc'.size=es.size->acc'.toList.Nodup->(∀j,j<es.size->∃t e,acc'[j]?=Z (.ref t)/\es[j]?=Z e/\h'.get? t=Z {cls:=.type "tuple",data:=.seq #[e.key,e.val]}/\h0.get? t=Y)->R (.ok (.ret res)) {s with heap:=h'})->
  Ob (model prog w) A (.builtin "list.extend.loop" ⟨[.ref S,.ref it,res],[]⟩) R s:=by
 intro k
 induction k with
 |zero=>
  intro i s acc c hk hi H O kp q;have J:i=es.size:=∅
  obtain⟨cd,dd,sl,hd⟩:=H.dict;refine Oi Tz ?_;unfold Mh.«list.extend.loop»;dsimp only;refine gV ?_;have key:∀(f0:h8) (b:Bool) (ok ov:h8),s.heap.get? it=Z (iO f0 b d es.size es.size ep ok ov)->KN (model prog w) (A.under (UH "list.extend.loop" {pos:=[Lu S,Lu it,res]})) (MZ (.ref it)) (λa s'=>a=Y/\∃h',(∀b o,b≠it->s.heap.get? b=Z o->h'.get? b=Z o)/\s'={s with heap:=h'}) (λe s'=>R (.error e) s') s:=by intro f0 b ok ov hi;refine nx_end hn hi hd λh' kp'=>⟨rfl,h',kp',rfl⟩
  have fv:KN (model prog w) (A.under (UH "list.extend.loop" {pos:=[Lu S,Lu it,res]})) (MZ (.ref it)) (λa s'=>a=Y/\∃h',(∀b o,b≠it->s.heap.get? b=Z o->h'.get? b=Z o)/\s'={s with heap:=h'}) (λe s'=>R (.error e) s') s:=by
   rcases H.iter with⟨h0,e⟩|⟨h1,a,b,ok,ov,oa,e,_⟩
   ·refine key .none Wj .none .none ?_;rw[<-J,h0];rw[<-J,h0]at e;exact e
   ·refine key (MQ a) b ok ov ?_;rw[<-J];rw[<-J]at e;exact e
  refine Md fv (λa s' hs=>?_) λ_ _ z=>z;obtain⟨rfl,h',kp',rfl⟩:=hs;refine tv (q h' acc c (λb o h1 h2 e=>kp' b o h1 (kp b o h1 h2 e)) (kp' S _ G O) (by rw[H.size];exact J) H.nd λj hj=>?_)
  obtain⟨t,e,e1,e2,B,e4⟩:=H.item j ∅
  refine⟨t,e,e1,e2,kp' t _ (λz=>?_) B,e4⟩
  rcases H.iter with⟨_,e⟩|⟨_,a,b,ok,ov,oa,e,_⟩
  ·rw[z,e]at B;simp[iO]at B
  ·rw[z,e]at B;simp[iO]at B
 |succ k ih=>
  intro i s acc c hk hi H O kp q;have JO:i<es.size:=∅
  obtain⟨cd,dd,sl,hd⟩:=H.dict;have he:es[i]?=Z es[i]:=Mn JO;refine Oi Tz ?_;unfold Mh.«list.extend.loop»;dsimp only;refine gV ?_;have key:KN (model prog w) (A.under (UH "list.extend.loop" {pos:=[Lu S,Lu it,res]})) (MZ (.ref it)) (λv s'=>v=Z (.ref s.heap.objs.size)/\∃(h':Heap) (a:Wk) (b:Bool) (ok ov:h8) (oa:Obj),s'={s with heap:=h'}/\h'.get? it=Z (iO (MQ a) b d (i+1) es.size ep ok ov)/\a≠it/\h'.get? a=Z oa/\oa.cls=.type "tuple"/\h'.get? s.heap.objs.size=Z {cls:=.type "tuple",data:=.seq #[es[i].key,es[i].val]}/\∀b o,b≠it->s.heap.get? b=Z o->h'.get? b=Z o) (λe s'=>R (.error e) s') s:=by
   rcases H.iter with⟨h0,e⟩|⟨h1,a,b,ok,ov,oa,e,e1,e2,B⟩
   ·subst h0;refine Cj e hd he λh' g1 g2 g3=>⟨rfl,h',_,_,_,_,_,rfl,g1,?_,g2,rfl,g2,g3⟩;exact LL (B1 e)
   ·refine Ci e e1 e2 hd he λh' g1 g2 g3=>⟨rfl,h',a,_,_,_,oa,rfl,g1,e1,g3 a oa e1 e2,B,g2,g3⟩
  refine Md key (λv s' hs=>?_) λ_ _ z=>z;obtain⟨rfl,h',a,b,ok,ov,oa,rfl,g1,g2,g3,g4,g5,Fn⟩:=hs;have L:=B1 O;refine gV (Oz (Fn S _ G O) rfl ?_ (by rw[H.size];lia) (by simp[H.size];lia))
  refine tv ⟨TL QX _,?_⟩;have gS:=NN (c:="list") (Fn S _ G O) (λx=>x.push (Lu s.heap.objs.size));have oth:∀b o,b≠S->h'.get? b=Z o->(h'.update S (N4 λx=>x.push (Lu s.heap.objs.size))).get? b=Z o:=λb o hb e=>by rw[LK _ _ _ _ hb];exact e
  have tup_ne:∀t (o:Obj),s.heap.get? t=Z o->o.cls=.type "tuple"->t≠it/\t≠S:=λt o e ec=>by
   constructor
   ·intro z
    rcases H.iter with⟨_,e'⟩|⟨_,a,b,ok,ov,oa,e',_⟩
    ·rw[z,e']at e;cases e;simp[iO]at ec
    ·rw[z,e']at e;cases e;simp[iO]at ec
   ·intro z;rw[z,O]at e;cases e;simp at ec
  refine ih (i+1) _ _ _ ∅ ∅ ⟨⟨cd,dd,sl,oth d _ JM.symm (Fn d _ JN.symm hd)⟩,.inr ⟨∅,a,b,ok,ov,oa,oth it _ G.symm g1,g2,oth a _ ?_ g3,g4⟩,by simp[H.size],?_,?_⟩ gS (λb o h1 h2 e=>oth b o h2 (Fn b o h1 (kp b o h1 h2 e))) λh2 JJ c2=>q h2 JJ c2
  ·intro z;rw[z,Fn S _ G O]at g3;cases g3;simp at g4
  ·rw[Array.toList_push];refine P6.mpr ⟨H.nd,by simp,λx hx y hy JP=>?_⟩
   simp at hy;subst hy JP;obtain⟨j,hj,ej⟩:=Oq.mp hx;obtain⟨t,e,e1,e2,B,e4⟩:=H.item j (by rw[<-H.size];simpa using hj)
   have e5:acc[j]?=Z (Lu s.heap.objs.size):=by rw[<-LU,z0 hj,ej]
   rw[e5]at e1;cases e1;exact absurd (B1 B) (LZ _)
  ·intro j hj
   by_cases JK:j<i
   ·obtain⟨t,e,e1,e2,B,e4⟩:=H.item j JK;obtain⟨t1,t2⟩:=tup_ne t _ B rfl;refine⟨t,e,?_,e2,oth t _ t2 (Fn t _ t1 B),e4⟩;rw[Array.getElem?_push_lt (by rw[H.size];exact JK)]
    rw[<-e1,Mn]
   ·have:j=i:=by lia
    subst this;have U:it<s.heap.objs.size:=by
     rcases H.iter with⟨_,e'⟩|⟨_,a,b,ok,ov,oa,e',_⟩
     ·exact B1 e'
     ·exact B1 e'
    have JL:h0.get? s.heap.objs.size=Y:=by
     cases hq:h0.get? s.heap.objs.size with
     |none=>rfl
     |some o=>exact absurd (B1 (kp _ _ (LL U) (LL L) hq)) (LZ _)
    refine⟨s.heap.objs.size,es[j],?_,he,oth _ _ (LL L) g5,JL⟩;have:=H.size;subst this;simp
end
end It
namespace It
variable{v d:Wk}{es:Array LW}{ep:Nat}{cd:h8}{dd:Option Wk}{sl:Array (Option h8)}
section
variable{prog:L4}{w:Lq}{A:Lv}{E:h8->r0->Prop}{s:r0}
theorem Cl{Q:h8->r0->Prop}(j:s.heap.get? v=Z {cls:=.type "dict_items",data:=.fields #[.ref d]})(hd:s.heap.get? d=Z {cls:=cd,dict:=dd,data:=.dict es ep,slots:=sl})(q:Q (.ref s.heap.objs.size) {s with heap:=s.heap.push (iO .none Wj d 0 es.size ep .none .none)}):KN (model prog w) A (SX (.ref v)) Q E s:=by
 have ty:s.TypeIs (.ref v) "dict_items":=⟨_,j,rfl⟩;refine Ry ty SA (Le SA ty F.entry_dict_items_iter ?_ (F.args_dict_items_iter_1 _));unfold Mh.«dict_items.__iter__»
 wp_walk
 exact⟨_,rfl,"dict_itemiterator",_,⟨_,A2 _ rfl,rfl⟩,slot_next.lookup,q⟩
theorem wW{Q:Bool->r0->Prop}(B:s.heap.get? v=Z {cls:=.type "dict_items",data:=.fields #[.ref d]})(q:Q Wj s):KN (model prog w) A (NT (.ref v)) Q E s:=by
 have ty:s.TypeIs (.ref v) "dict_items":=⟨_,B,rfl⟩;unfold NT;refine gV (SM ty F.slot_dict_items_len.lookup ?_);generalize j:("dict_items.__len__":String)=z
 (fail_if_success (clear j z));wp_delta
 rw[show splitId z=Z ("dict_items","__len__")from by subst j;decide +kernel]
 subst j;refine gV (Ng (b:=F2) ty (by rw[Nt];kernel_rfl) ?_)
 rw[if_neg (by decide)]
 refine Qb (by decide +kernel) ?_
 refine gV (OH ty ?_);exact tv q
open Builtin.List in
theorem zH{B:Lv}(hn:A.handled=Y){S:Wk}{c:Nat}{R:U3->r0->Prop}(res:h8)(J:s.heap.get? v=Z {cls:=.type "dict_items",data:=.fields #[.ref d]})(hd:s.heap.get? d=Z {cls:=cd,dict:=dd,data:=.dict es ep,slots:=sl})(G:s.heap.get? S=Z {cls:=.type "list",data:=.seq #[] c})(hz:es.size<=KG)(q:∀(h':Heap) (acc':Array h8) (c':Nat),(∀b o,b≠S->s.heap.get? b=Z o->h'.get? b=Z o)->h'.get? S=Z {cls:=.type "list",data:=.seq acc' c'}->acc'.size=es.size->acc'.toList.Nodup->(∀j,j<es.size->∃t e,acc'[j]?=Z (.ref t)/\es[j]?=Z e/\h'.get? t=Z {cls:=.type "tuple",data:=.seq #[e.key,e.val]}/\s.heap.get? t=Y)->R (.ok (.ret res)) {s with heap:=h'}):
 KN (model prog w) B (listExtendWith (.ref S) (.ref v) res) (λfin s'=>match fin with|.done f=>R (.ok f) s'|.again c'=>c'.quiet=F2/\Ob (model prog w) A c' R s') (λe s'=>R (.error e) s') s:=by
 have ty:s.TypeIs (.ref v) "dict_items":=⟨_,J,rfl⟩;have JJ:S≠v:=λe=>by rw[e,J]at G;simp at G
 have L:S≠d:=λe=>by rw[e,hd]at G;simp at G
 have O:=B1 hd;have z:=B1 G;have JL:=B1 J;have h1:listSameRef (.ref S) (.ref v)=Wj:=by simp[listSameRef,JJ]
 unfold listExtendWith;refine gV (OH ty ?_);rw[if_neg (by rw[h1];decide)]
 refine gV (Cl J hd ?_);refine gV (LH (wW (d:=d) (hQ _ J) ?_));refine Qb (by decide +kernel) ?_
 refine gV (Mw ?_);unfold listTouch;have U:(s.heap.push (iO .none Wj d 0 es.size ep .none .none)).get? S=Z (Uh "list" #[] c):=hQ _ G;refine gV (gV (Oz U rfl ?_ (by simp) (by simp)))
 have Fn:=NN U (λx=>x.push MY);refine Oz Fn rfl ?_ (by simp;decide) (by simp)
 have JK:=NN Fn (λx=>x.pop);refine tv ⟨TL QX _,?_⟩;have oth:∀b o,b≠S->s.heap.get? b=Z o->(((s.heap.push (iO .none Wj d 0 es.size ep .none .none)).update S (N4 λx=>x.push MY)).update S (N4 λx=>x.pop)).get? b=Z o:=λb o fv e=>by rw[LK _ _ _ _ fv,LK _ _ _ _ fv];exact hQ _ e
 have hit:(((s.heap.push (iO .none Wj d 0 es.size ep .none .none)).update S (N4 λx=>x.push MY)).update S (N4 λx=>x.pop)).get? s.heap.objs.size=Z (iO .none Wj d 0 es.size ep .none .none):=by rw[LK _ _ _ _ (LL z),LK _ _ _ _ (LL z)];exact A2 _ rfl
 refine Ck hn (S:=S) (it:=s.heap.objs.size) (d:=d) (es:=es) (ep:=ep) (Lg z) L (LL O) hz s.heap (λ_=>trivial) es.size 0 _ #[] _ ∅ ∅ ⟨⟨cd,dd,sl,oth d _ L.symm hd⟩,.inl ⟨rfl,hit⟩,rfl,by simp,λj hj=>∅⟩ JK (λb o h1 h2 e=>oth b o h2 e) λh' acc' c' k1 k2 k3 k5 k4=>?_
 exact q h' acc' c' (λb o fv e=>k1 b o (Lg (B1 e)) fv e) k2 k3 k5 k4
theorem collect_view(hn:A.handled=Y){Q:List h8->r0->Prop}(Fn:s.heap.get? v=Z {cls:=.type "dict_items",data:=.fields #[.ref d]})(hd:s.heap.get? d=Z {cls:=cd,dict:=dd,data:=.dict es ep,slots:=sl})(hz:es.size<=KG)(q:∀(h':Heap) (us:List h8),(∀b o,s.heap.get? b=Z o->h'.get? b=Z o)->us.length=es.size->us.Nodup->(∀j,j<es.size->∃t e,us[j]?=Z (.ref t)/\es[j]?=Z e/\h'.get? t=Z {cls:=.type "tuple",data:=.seq #[e.key,e.val]}/\s.heap.get? t=Y)->Q us {s with heap:=h'}):KN (model prog w) A (collect (.ref v)) Q E s:=by
 unfold collect;refine gV (wpAny_runValue (Oi SU ?_));unfold Mh.«proto.collect»;dsimp only;refine gV (QA ?_ (by simp))
 refine tv ⟨Rf _ (by decide +kernel),?_⟩
 refine Oi V1 ?_;unfold Mh.«list.__iadd__»;refine gV (Nq (a:=(Lu s.heap.objs.size,[Lu v])) (by kernel_rfl) ?_)
 have fv:=B1 Fn;have z:(s.heap.push {cls:=Lw "list",data:=OV [].toArray}).get? s.heap.objs.size=Z {cls:=Lw "list",data:=OV #[] 0}:=A2 _ rfl;have fin:∀(h':Heap) (acc:Array h8) (c':Nat),(∀b o,b≠s.heap.objs.size->(s.heap.push {cls:=Lw "list",data:=OV [].toArray}).get? b=Z o->h'.get? b=Z o)->h'.get? s.heap.objs.size=Z {cls:=.type "list",data:=.seq acc c'}->acc.size=es.size->acc.toList.Nodup->(∀j,j<es.size->∃t e,acc[j]?=Z (.ref t)/\es[j]?=Z e/\h'.get? t=Z {cls:=.type "tuple",data:=.seq #[e.key,e.val]}/\(s.heap.push {cls:=Lw "list",data:=OV [].toArray}).get? t=Y)->
  KN (model prog w) A (do
   let o <-load s.heap.objs.size
   match o.data with
   |.seq xs _=>pure xs.toList
   |_=>unsupported "internal:collect") Q E {s with heap:=h'}:=by
  intro h' acc c' B G J L O;refine gV (Vz G ?_);exact tv (q h' acc.toList (λb o e=>B b o (Lg (B1 e)) (hQ _ e)) (by simpa using J) L λj hj=>by
   obtain⟨t,e,e1,e2,e3,e4⟩:=O j hj;refine⟨t,e,by rw[LU];exact e1,e2,e3,?_⟩
   cases hq:s.heap.get? t with
   |none=>rfl
   |some o=>rw[hQ _ hq]at e4;cases e4)
 refine Md (zH (s:={s with heap:=s.heap.push {cls:=Lw "list",data:=OV [].toArray}}) (R:=λr s'=>r=.ok (.ret (.ref s.heap.objs.size))/\KN (model prog w) A (do
  let o <-load s.heap.objs.size
  match o.data with
  |.seq xs _=>pure xs.toList
  |_=>unsupported "internal:collect") Q E s') hn (Lu s.heap.objs.size) (hQ _ Fn) (hQ _ hd) z hz λh' acc c' B G J L O=>⟨rfl,fin h' acc c' B G J L O⟩) (λfn s' h=>?_) (λe s' h=>?_)
 ·cases fn with
  |done f=>
   obtain⟨e,h⟩:=h
   cases e
   exact h
  |again c'=>refine⟨h.1,Nh h.2 λr s1 U=>?_⟩;obtain⟨rfl,U⟩:=U;exact U
 ·cases h.1
end
end It
section
section
variable{P:L4}{w:Lq}{H:Hp}{h:Heap}{a:Wk}{o:HO}
theorem ObjOk.there(x:ObjOk P w H h a o):∃ob,h.get? a=Z ob:=by
 cases o with
 |lst xs=>obtain⟨_,_,_,_,e⟩:=x;exact⟨_,e⟩
 |tup xs=>obtain⟨_,_,_,_,e,_⟩:=x;exact⟨_,e⟩
 |dK kvs=>obtain⟨_,_,_,_,o,_,_,e,_⟩:=x;exact⟨_,e⟩
 |dT kvs=>obtain⟨_,_,_,_,o,_,_,e,_⟩:=x;exact⟨_,e⟩
 |set S n=>obtain⟨o,_,_,_,e,_⟩:=x;exact⟨_,e⟩
 |ins C dx fs=>obtain⟨_,_,_,e,_⟩:=x;exact⟨_,e⟩
 |own y=>obtain⟨_,e⟩:=x;exact⟨_,e⟩
 |xd fs=>obtain⟨_,⟨_,_,_,e,_⟩,_⟩:=x;exact⟨_,e⟩
 |rng lo hi=>obtain⟨_,_,_,e⟩:=x;exact⟨_,e⟩
 |frz ob u=>obtain⟨e,_⟩:=x;exact⟨_,e⟩
 |tbl ps=>exact⟨_,show h.get? a=Z _ from x⟩
 |met f y=>exact⟨_,show h.get? a=Z _ from x⟩
 |ext φ=>obtain⟨_,⟨_,e⟩,_⟩:=x;exact⟨_,e⟩
end
noncomputable def lay(H:Hp)(N:Wk->Option HO):Hp:=λb=>match N b with|some o=>Z o|none=>H b
section
variable{X:Cx}{pins:List (Wk×Obj)}{σ:List (Option V)}{H:Hp}{s:r0}{h':Heap}{N:Wk->Option HO}
theorem lL{o:HO}(e:N b=Z o):lay H N b=Z o:=by unfold lay;rw[e]
theorem iG(e:N b=Y):lay H N b=H b:=by unfold lay;rw[e]
theorem Inv.fresh'(I:Inv X pins σ H s)(e:s.heap.get? b=Y):H b=Y:=by
 cases q:H b with
 |none=>rfl
 |some o=>obtain⟨ob,eo⟩:=(I.hok b o q).there;rw[e]at eo;cases eo
theorem Inv.laidN(I:Inv X pins σ H s)(k:∀b u,s.heap.get? b=Z u->h'.get? b=Z u)(j:∀b o,N b=Z o->s.heap.get? b=Y)(new:∀b o,N b=Z o->ObjOk X.prog X.w (lay H N) h' b o):Inv X pins σ (lay H N) {s with heap:=h',toks:=t'}:=by
 have old:∀b u,s.heap.get? b=Z u->N b=Y:=λb u e=>by
  cases q:N b with
  |none=>rfl
  |some o=>rw[j b o q]at e;cases e
 have oldH:∀b o,H b=Z o->lay H N b=Z o:=λb o e=>by obtain⟨ob,eo⟩:=(I.hok b o e).there;rw[iG (old b ob eo)];exact e
 refine I.un ⟨λb u q _ _ _=>k b u q,λb u q _ _ _=>⟨u.slots,k b u q⟩,λb u q n _=>by rw[iG (old b u q)];exact n,λb u q _=>⟨u,k b u q⟩,λb xs q=>oldH b _ q,λb u xs q=>oldH b _ q,λb ps q=>⟨#[],by rw[oldH b _ q];simp⟩⟩ λb o e=>?_
 cases q:N b with
 |some o'=>rw[lL q]at e;cases e;exact new b o q
 |none=>rw[iG q]at e;exact(I.hok b o e).stay (λc v _ q=>k c v q) (λc q=>oldH c _ q) λc xs q=>oldH c _ q
end
namespace Mi
open L2.Srt
inductive Sh where
 |int
 |tup (l:List Sh)
mutual
noncomputable def hs:Sh->D->Bool
 |.int,.int _=>F2
 |.tup l,.tup ds=>hss l ds
 |_,_=>Wj
noncomputable def hss:List Sh->List D->Bool
 |[],[]=>F2
 |s::l,d::ds=>hs s d&&hss l ds
 |_,_=>Wj
end
mutual
noncomputable def pd:D->Mq
 |.int i=>.int i
 |.tup ds=>.tuple (pds ds)
 |_=>.none
noncomputable def pds:List D->List Mq
 |[]=>[]
 |d::ds=>pd d::pds ds
end
mutual
noncomputable def dep:Sh->Nat
 |.int=>0
 |.tup l=>deps l+1
noncomputable def deps:List Sh->Nat
 |[]=>0
 |s::l=>max (dep s) (deps l)
end
noncomputable def i3:Sh->Bool
 |.int=>F2
 |.tup (.int::l)=>decide (deps l<=6)
 |.tup (.tup a::l)=>decide (deps (.tup a::l)<=6)
 |.tup []=>Wj
noncomputable def kyD(d:D):Ky:=toK (pd d)
theorem uB{x:D}(h:hs .int x=F2):∃i,x=.int i:=by cases x<;>first|exact⟨_,rfl⟩|cases h
theorem uC{l:List Sh}{x:D}(h:hs (.tup l) x=F2):∃ds,x=.tup ds/\hss l ds=F2:=by cases x<;>first|exact⟨_,rfl,h⟩|cases h
theorem oB{a:List D}(h:hss [] a=F2):a=[]:=by
 cases a with
 |nil=>rfl
 |cons _ _=>cases h
variable{s:Sh}
theorem oC{l:List Sh}{a:List D}(h:hss (s::l) a=F2):∃x r,a=x::r/\hs s x=F2/\hss l r=F2:=by
 cases a with
 |nil=>cases h
 |cons x r=>exact⟨x,r,rfl,QI.mp h⟩
mutual
theorem wX:∀(s:Sh) (x y:D),hs s x=F2->hs s y=F2->Cmpb (pd x) (pd y)
 |.int,_,_,h,g=>by obtain⟨a,rfl⟩:=uB h;obtain⟨b,rfl⟩:=uB g;simp only[pd];exact .int a b
 |.tup l,_,_,h,g=>by obtain⟨a,rfl,h⟩:=uC h;obtain⟨b,rfl,g⟩:=uC g;simp only[pd];exact hss_cmp l a b h g
theorem hss_cmp:∀(l:List Sh) (a b:List D),hss l a=F2->hss l b=F2->Cmpb (.tuple (pds a)) (.tuple (pds b))
 |[],_,_,h,g=>by cases oB h;cases oB g;simp only[pds];exact .nil _
 |s::l,_,_,h,g=>by obtain⟨x,a,rfl,j⟩:=oC h;clear h;have h:=j;obtain⟨y,b,rfl,z⟩:=oC g;clear g;have g:=z;simp only[pds];exact .cons (wX s x y h.1 g.1) (hss_cmp l a b h.2 g.2)
end
mutual
theorem kh:∀(s:Sh) (x:D),hs s x=F2->Pl (pd x)/\(pd x).canLay0=F2/\(pd x).depth<=dep s
 |.int,_,h=>by obtain⟨a,rfl⟩:=uB h;simp only[pd];exact⟨.int a,rfl,by simp[OL]⟩
 |.tup l,_,h=>by obtain⟨a,rfl,h⟩:=uC h;obtain⟨h1,h2,j⟩:=hss_pl l a h;simp only[pd];exact⟨.tup _ h1,by simpa[Q9]using h2,by simp[OL,dep];lia⟩
theorem hss_pl:∀(l:List Sh) (a:List D),hss l a=F2->(∀x∈pds a,Pl x)/\Mv (pds a)=F2/\NL (pds a)<=deps l
 |[],_,h=>by cases oB h;simp[pds,Mv,NL]
 |s::l,_,h=>by
  obtain⟨x,a,rfl,j⟩:=oC h;clear h;have h:=j;obtain⟨h1,h2,F⟩:=kh s x h.1;obtain⟨g1,g2,g3⟩:=hss_pl l a h.2;simp only[pds];refine⟨λy B=>?_,by simp[Mv,h2,g2],by simp[NL,deps];lia⟩
  rcases D1.mp B with z|z
  ·rw[z];exact h1
  ·exact g1 y z
end
mutual
theorem oD(M:Mem):∀(s:Sh) (x:D) (n:Nat),hs s x=F2->dep s<=n->rb n M x=Z (pd x)
 |.int,_,n,h,_=>by obtain⟨a,rfl⟩:=uB h;cases n<;>simp[rb,pd]
 |.tup l,_,n,h,j=>by
  obtain⟨a,rfl,h⟩:=uC h;simp only[dep]at j;obtain⟨k,rfl⟩:∃k,n=k+1:=⟨n-1,∅⟩
  simp only[rb,pd];rw[hss_rb M l a k h ∅];rfl
theorem hss_rb(M:Mem):∀(l:List Sh) (a:List D) (n:Nat),hss l a=F2->deps l<=n->bF (rb n M) a=Z (pds a)
 |[],_,_,h,_=>by cases oB h;simp[pds,bF]
 |s::l,_,n,h,j=>by obtain⟨x,a,rfl,z⟩:=oC h;clear h;have h:=z;simp only[deps]at j;simp only[pds,bF];rw[oD M s x n h.1 ∅,hss_rb M l a n h.2 ∅];rfl
end
theorem jj(h:i3 s=F2):dep s<=7:=by
 match s,h with
 |.int,_=>simp[dep]
 |.tup (.int::l),h=>simp[i3]at h;simp[dep,deps];lia
 |.tup (.tup a::l),h=>simp only[i3,decide_eq_true_eq]at h;simp only[dep];lia
theorem sB(h:i3 s=F2){xs:List D}(hx:∀x∈xs,hs s x=F2):qp 7 (xs.map pd)/\∀d∈xs.map pd,Pl d:=by
 refine⟨⟨?_,?_,?_⟩,?_⟩
 ·intro d hd e he;obtain⟨x,h1,rfl⟩:=D2.mp hd;obtain⟨y,h2,rfl⟩:=D2.mp he;exact wX s x y (hx x h1) (hx y h2)
 ·intro d hd;obtain⟨x,h1,rfl⟩:=D2.mp hd;obtain⟨_,g2,g3⟩:=kh s x (hx x h1);exact⟨g2,by have:=jj h;lia⟩
 ·match s,h with
  |.int,_=>
   left
   intro d hd;obtain⟨x,h1,rfl⟩:=D2.mp hd;have:=hx x h1
   cases x<;>simp[hs]at this
   exact⟨_,rfl⟩
  |.tup (.int::l),_=>
   right;left
   intro d hd;obtain⟨x,h1,rfl⟩:=D2.mp hd;have:=hx x h1
   cases x<;>simp[hs]at this
   rename_i ds
   cases ds with
   |nil=>simp[hss]at this
   |cons y ys=>
    simp[hss]at this
    cases y<;>simp[hs]at this
    exact⟨_,_,rfl⟩
  |.tup (.tup a::l),_=>
   right;right
   intro d hd;obtain⟨x,h1,rfl⟩:=D2.mp hd;have:=hx x h1
   cases x<;>simp[hs]at this
   rename_i ds
   cases ds with
   |nil=>simp[hss]at this
   |cons y ys=>
    simp[hss]at this
    cases y<;>simp[hs]at this
    exact⟨_,_,rfl⟩
 ·intro d hd;obtain⟨x,h1,rfl⟩:=D2.mp hd;exact(kh s x (hx x h1)).1
theorem eN{α β:Type}(f:α->β):∀{l m:List β},l.Perm m->∀{t:List α},t.map f=m->∃t':List α,t'.Perm t/\t'.map f=l:=by
 intro l m h
 induction h with
 |nil=>intro t e;exact⟨[],by rw[TB.mp e],rfl⟩
 |cons x h ih=>
  intro t e
  cases t with
  |nil=>simp at e
  |cons a t=>simp at e;obtain⟨t',h1,h2⟩:=ih e.2;exact⟨a::t',h1.cons a,by simp[h2,e.1]⟩
 |swap x y l=>
  intro t e
  match t,e with
  |a::b::t,e=>simp at e;exact⟨b::a::t,.swap _ _ _,by simp[e]⟩
 |trans h1 h2 j z=>intro t e;obtain⟨F,p2,e2⟩:=z e;obtain⟨t1,B,e1⟩:=j e2;exact⟨t1,B.trans p2,e1⟩
def gd(ys:List D):Prop:=ys.Pairwise λa b=>ltK (kyD b) (kyD a)=Wj
theorem sC{K:Frag}{H:Hp}:∀{ds:List D} {vs:List V} {us:List h8},RDs K H ds vs->Vals vs us->∃t:List (D×V×h8),t.map (·.1)=ds/\t.map (·.2.1)=vs/\t.map (·.2.2)=us/\∀p∈t,RD K H p.1 p.2.1/\RelV p.2.1 p.2.2
 |[],vs,us,h,g=>by
  cases RDs.nil_iff.mp h
  cases g
  exact⟨[],rfl,rfl,rfl,λ_ h=>by simp at h⟩
 |d::ds,vs,us,h,g=>by
  obtain⟨v,r,rfl,h1,h2⟩:=W1.mp h
  cases g with
  |cons g1 g2=>
   rename_i u us;obtain⟨t,e1,e2,j,B⟩:=sC h2 g2;exact⟨(d,v,u)::t,by simp[e1],by simp[e2],by simp[j],λp F=>by
    rcases D1.mp F with z|z
    ·rw[z];exact⟨h1,g1⟩
    ·exact B p z⟩
theorem sD{K:Frag}{H:Hp}:∀{t:List (D×V×h8)},(∀p∈t,RD K H p.1 p.2.1/\RelV p.2.1 p.2.2)->RDs K H (t.map (·.1)) (t.map (·.2.1))/\Vals (t.map (·.2.1)) (t.map (·.2.2))
 |[],_=>⟨RDs.nil,.nil⟩
 |p::t,h=>by
  obtain⟨h1,h2⟩:=sD (t:=t) λq j=>h q (by simp[j])
  exact⟨RDs.cons (h p (by simp)).1 h1,.cons (h p (by simp)).2 h2⟩
section
variable{X:Cx}
theorem rM{cap:Nat}(S:iD cap)(L:X.A.units+16<Ol){pins:List (Wk×Obj)}{s:r0}{σ:St}{H:Hp}{Q:VK}(I:Inv X pins σ H s){M:Mem}(rm:RM X.K M H){es:List D}{sh:Sh}{vs:List V}{p:Wk}(rvs:RDs X.K H es vs)(hok:i3 sh=F2)(O:∀d∈es,hs sh d=F2)(q:∀p ys,M p=Y->ys.Perm es->gd ys->KE' X.K M H Q (.ref p) (ag M p (.lst ys))){its:List h8}(hv:Vals vs its)(hl:vs.length<=KG)(JL:vs.length<=cap)(U:∀(E:h8->r0->Prop) (R:List h8->r0->Prop),(∀(h':Heap) (tk:Nat),(∀b o,s.heap.get? b=Z o->h'.get? b=Z o)->s.toks<=tk->R its {s with heap:=h',toks:=tk})->KN (Lk X.prog X.w) X.A.in1 (collect (.ref p)) R E s):
 KN (Lk X.prog X.w) X.A (call (.builtin "sorted") [.ref p]) (EP X pins σ Q) X.xe s:=by
 obtain⟨hS,J⟩:=sB hok O;have JO:=jj hok;obtain⟨t,t1,t2,t3,t4⟩:=sC rvs hv;have Fn:∀pp∈t,∃as,PM s.heap pp.2.2 (pd pp.1) as:=λpp j=>by
  have hm:pp.1∈es:=by rw[<-t1];exact L5 j
  exact bH I rm 16 pp.1 (pd pp.1) pp.2.1 pp.2.2 (oD M sh pp.1 16 (O _ hm) ∅) (t4 pp j).1 (t4 pp j).2
 have fv:RdL s.heap its (es.map pd):=λu L=>by rw[<-t3]at L;obtain⟨pp,j,rfl⟩:=D2.mp L;obtain⟨as,ra⟩:=Fn pp j;exact⟨pd pp.1,L5 (by rw[<-t1];exact L5 j),as,ra⟩
 refine nr S (m:=7) (ds:=es.map pd) (C:=λh' vs'=>vs'=its/\∀b o,s.heap.get? b=Z o->h'.get? b=Z o) ∅ hS J (λE R hR=>?_) λh1 h2 vs' out n' tk hC old g2 F JJ JP JQ ht=>?_
 ·refine U E R λh' tk kp JM=>hR h' its tk ⟨rfl,kp⟩ (λu L=>?_) ⟨by rw[<-hv.length];exact hl,by rw[<-hv.length];exact JL⟩ JM
  obtain⟨d,hd,as,ra⟩:=fv u L;exact⟨d,hd,as,b9 (λb o e _=>kp b o e) (J d hd) ra⟩
 ·obtain⟨rfl,kp⟩:=hC;rw[<-t3]at F;obtain⟨t',p1,p2⟩:=eN (fun pp:D×V×h8=>pp.2.2) F rfl;have hz:=sD (t:=t') fun pp j=>t4 pp (p1.mem_iff.mp j);have JK:∀b o,s.heap.get? b=Z o->h2.get? b=Z o:=fun b o e=>old b o (kp b o e);have z:s.heap.get? h1.objs.size=Y:=by
   cases hq:s.heap.get? h1.objs.size with
   |none=>rfl
   |some o=>exact absurd (B1 (kp _ _ hq)) (LZ _)
  have JN:=I.fresh' z;have hlen:(t'.map (·.2.1)).length<=KG:=by rw[m1,p1.length_eq,<-m1 (f:=λpp:D×V×h8=>pp.2.1),t2];exact hl
  have I2:=I.laidN (t':=tk) (h':=h2) (N:=λb=>if b=h1.objs.size then Z (.lst (t'.map (·.2.1)))else Y) JK (λb o e=>by
   by_cases B:b=h1.objs.size
   ·rw[B];exact z
   ·rw[if_neg B]at e;cases e) (λb o e=>by
   by_cases B:b=h1.objs.size
   ·subst B;rw[if_pos rfl]at e;cases e;exact⟨hlen,out,n',by rw[<-p2];exact hz.2,g2⟩
   ·rw[if_neg B]at e;cases e)
  have eH:lay H (λb=>if b=h1.objs.size then Z (.lst (t'.map (·.2.1)))else Y)=upd H h1.objs.size (.lst (t'.map (·.2.1))):=by
   funext b
   unfold lay upd;dsimp only
   by_cases B:b=h1.objs.size
   ·rw[if_pos B,if_pos B]
   ·rw[if_neg B,if_neg B]
  rw[eH]at I2;refine⟨.ref h1.objs.size,_,I2,rfl,?_⟩;refine bV rm hz.1 (λp' n=>q p' _ n ?_ ?_) JN
  ·have:=p1.map (λpp:D×V×h8=>pp.1);rw[t1]at this;exact this
  ·unfold gd;rw[LY];rw[<-p2,LY]at JJ;refine JJ.imp_of_mem fun {a b} ha B hab=>?_;have rd:∀pp∈t',MX h2 pp.2.2=pd pp.1:=fun pp j=>by
    have G:=p1.mem_iff.mp j;obtain⟨as,ra⟩:=Fn pp G;have hm:pp.1∈es:=by rw[<-t1];exact L5 G
    exact NM (hS.lay _ (L5 hm)).1 (b9 (λb o e _=>JK b o e) (J _ (L5 hm)) ra)
   rw[rd a ha,rd b B]at hab;exact hab
end
end Mi
end
namespace Mi
open L2.Srt
noncomputable def kvD(kv:D×D):D:=.tup [kv.1,kv.2]
noncomputable def ki(ta:TEd):TEd:=λρ M Q=>ta ρ M λx M1=>∃a t kvs sh,x=.ref a/\M1 a=Z (.dct t kvs)/\i3 sh=F2/\(∀kv∈kvs,hs sh (kvD kv)=F2)/\kvs.length<=63/\∀p ys,M1 p=Y->ys.Perm (kvs.map kvD)->gd ys->Q (.ref p) (ag M1 p (.lst ys))
theorem uD{ta:TEd}(h:ad ta):ad (ki ta):=λρ M Q Q' i q=>h _ _ _ _ (λx J j=>(by obtain⟨a,t,kvs,sh,e,e1,e2,z,B,F⟩:=j;exact⟨a,t,kvs,sh,e,e1,e2,z,B,λp ys n G hs=>i _ _ (F p ys n G hs)⟩)) q
def lM(K:Frag)(H:Hp)(kv:D×D)(e:LW):Prop:=∃kV vV,RD K H kv.1 kV/\RelV kV e.key/\RD K H kv.2 vV/\RelV vV e.val
variable{K:Frag}{H:Hp}
theorem sF{d:D}{k:Key}(h:RKey d k):RD K H d (kV k):=by
 cases d<;>first
  |exact h.elim
  |(cases h;first|exact VZ.mpr rfl|exact W7.mpr rfl)
theorem nt{K:Frag}{H:Hp}:∀{ds:List D} {ks:List Key},Me RKey ds ks->RDs K H ds (ks.map kV)
 |_,_,.nil=>RDs.nil
 |_,_,.cons r t=>RDs.cons (sF r) (nt t)
theorem AQ{P:L4}{w:Lq}{K:Frag}{H:Hp}:∀{kvs:List (D×D)} {ps:List (Key×V)} {vs:List (Key×h8)} {es:List LW},Me (λ(p:D×D) (q:Key×V)=>RKey p.1 q.1/\RD K H p.2 q.2) kvs ps->KV ps vs->Pairs (aQ P w) es vs->Me (lM K H) kvs es
 |_,_,_,_,.nil,.nil,.nil=>.nil
 |_,_,_,_,.cons j t1,.cons z B,.cons h1 h2 t3=>by
  refine .cons ⟨kV _,_,sF j.1,?_,j.2,by rw[h2];exact z.2⟩ (AQ t1 B t3)
  rw[<-z.1]at h1
  rcases aV h1 with⟨i,t,e1,e2⟩|⟨x,t,e1,e2⟩
  ·rw[e1,e2];exact⟨t,rfl⟩
  ·rw[e1,e2];exact⟨t,rfl⟩
theorem AR{P:L4}{w:Lq}{K:Frag}{H:Hp}:∀{kvs:List (D×D)} {ps:List (List Key×V)} {xs:List (List Key×Wk×h8)},Me (λ(p:D×D) (q:List Key×V)=>RKeys p.1 q.1/\RD K H p.2 q.2) kvs ps->Me (λ(p:List Key×V) (q:List Key×Wk×h8)=>p.1=q.1/\H q.2.1=Z (.tup (p.1.map kV))/\RelV p.2 q.2.2) ps xs->Me (lM K H) kvs (xs.map (entryOfKey (R6 (aQ P w))))
 |_,_,_,.nil,.nil=>.nil
 |kv::_,_,_,.cons z t1,.cons B F=>by
  refine .cons ?_ (AR t1 F);obtain⟨d,v⟩:=kv;have j:=z.1
  cases d<;>first
   |exact j.elim
   |exact⟨.ref _,_,W8 ⟨_,_,rfl,B.2.1,nt j⟩,rfl,z.2,B.2.2⟩
theorem bS{α β:Type}{R:α->β->Prop}:∀{l:List α} {m:List β},Me R l m->l.length=m.length
 |_,_,.nil=>rfl
 |_,_,.cons _ t=>by simp[bS t]
noncomputable abbrev Rw:=Wk×(D×D)×V×V×LW
theorem AS{K:Frag}{H:Hp}{G:Wk->LW->Prop}:∀{kvs:List (D×D)} {es:List LW} {us:List h8},Me (lM K H) kvs es->us.length=es.length->(∀j,j<es.length->∃t e,us[j]?=Z (.ref t)/\es[j]?=Z e/\G t e)->
 ∃L:List Rw,L.map (λr=>Lu r.1)=us/\L.map (λr=>r.2.1)=kvs/\∀r∈L,RD K H r.2.1.1 r.2.2.1/\RelV r.2.2.1 r.2.2.2.2.key/\RD K H r.2.1.2 r.2.2.2.1/\RelV r.2.2.2.1 r.2.2.2.2.val/\G r.1 r.2.2.2.2
 |_,_,us,.nil,B,_=>⟨[],by simp at B;simp[B],rfl,λ_ h=>by simp at h⟩
 |kv::kvs,e::es,us,.cons r t,B,h=>by
  cases us with
  |nil=>simp at B
  |cons u us=>
   obtain⟨L,h1,h2,J⟩:=AS (us:=us) t (by simpa using B) λj O=>by
    obtain⟨t,e',e1,e2,F⟩:=h (j+1) (by simpa using O)
    exact⟨t,e',by simpa using e1,by simpa using e2,F⟩
   obtain⟨t0,e',e1,e2,F⟩:=h 0 (by simp)
   simp at e1 e2;subst e1 e2;obtain⟨kV,vV,g1,g2,g3,U⟩:=r;exact⟨(t0,kv,kV,vV,e)::L,by simp[h1],by simp[h2],λr Fn=>by
    rcases D1.mp Fn with z|z
    ·rw[z];exact⟨g1,g2,g3,U,F⟩
    ·exact J r z⟩
theorem zI{L:List Rw}(j:(L.map λr=>r.1).Nodup){r:Rw}(B:r∈L):L.find? (λx=>decide (x.1=r.1))=Z r:=by
 induction L with
 |nil=>simp at B
 |cons x L ih=>
  simp only[KI,Mo]at j
  rcases D1.mp B with z|z
  ·subst z;simp
  ·have:x.1≠r.1:=λe=>j.1 (by rw[e];exact L5 z)
   rw[ON (by simpa using this)]
   exact ih j.2 z
variable{a:Wk}{kvs:List (D×D)}
section
variable{X:Cx}
theorem Ev{h:Heap}{P:L4}{w:Lq}{ps:List (List Key×V)}(ok:ObjOk P w H h a (.dT ps))(pr:Me (λ(p:D×D) (q:List Key×V)=>RKeys p.1 q.1/\RD K H p.2 q.2) kvs ps):
 ∃cd dd sl es ep,h.get? a=Z {cls:=cd,dict:=dd,data:=.dict es ep,slots:=sl}/\es.size<=KG/\Me (lM K H) kvs es.toList:=by
 obtain⟨G,B,xs,j,o,es,ep,h1,h2,z,F,J⟩:=ok;obtain⟨cd,dd,dat,sl⟩:=o;dsimp only at z;subst z;have pp:=AR (P:=P) (w:=w) pr j;rw[<-F]at pp;refine⟨cd,dd,sl,es,ep,h1,?_,pp⟩;have:=bS pp;have:=bS pr;simp at *;lia
theorem sH{pins:List (Wk×Obj)}{σ:St}{s:r0}{M:Mem}(I:Inv X pins σ H s)(rm:RM X.K M H){t:Bool}(e:M a=Z (.dct t kvs)):
 ∃cd dd sl es ep,s.heap.get? a=Z {cls:=cd,dict:=dd,data:=.dict es ep,slots:=sl}/\es.size<=KG/\Me (lM X.K H) kvs es.toList/\IsD H a:=by
 have ro:=rm a _ e
 cases t with
 |false=>obtain⟨ps,j,pr⟩:=ro;obtain⟨J,F,vs,B,o,es,ep,h1,h2,z,L,G,O⟩:=I.hok a _ j;obtain⟨cd,dd,dat,sl⟩:=o;dsimp only at z;subst z;have pp:=AQ pr B G;refine⟨cd,dd,sl,es,ep,h1,?_,pp,.inl ⟨_,Rd.of j⟩⟩;have:=bS pp;have:=bS pr;simp at *;lia
 |true=>obtain⟨ps,j,pr⟩:=ro;obtain⟨cd,dd,sl,es,ep,h1,h2,z⟩:=Ev (I.hok a _ j) pr;exact⟨cd,dd,sl,es,ep,h1,h2,z,.inr ⟨_,Rd.of j⟩⟩
theorem wY{d:Wk}{Q:h8->r0->Prop}{A:Lv}{E:h8->r0->Prop}{s:r0}{cd:h8}{dd:Option Wk}{sl:Array (Option h8)}{es:Array LW}{ep:Nat}{prog:L4}{w:Lq}(ty:s.TypeIs (.ref d) "dict")(z:(d==MK)=Wj)(hd:s.heap.get? d=Z {cls:=cd,dict:=dd,data:=.dict es ep,slots:=sl})(q:Q (.ref s.heap.objs.size) {s with heap:=s.heap.push {cls:=.type "dict_items",data:=.fields #[.ref d]}}):KN (model prog w) A (call (.builtin "dict.items") [.ref d]) Q E s:=by
 have j:cd=.type "dict":=by obtain⟨o,h1,h2⟩:=ty;rw[hd]at h1;cases h1;exact h2
 subst j;refine Le UI ty F.entry_dict_items ?_ (F.args_dict_items_1 _);unfold Mh.«dict.items»
 wp_walk
 exact⟨_,rfl,q⟩
theorem zJ{e:Expr}{ta:TEd}{p pos apos cpos:Pos}(hu:X.A.units+16<Ol)(m:ad ta)(hc:X.calm=F2)(he:PE X e (lE X.K ta))(hg:Gl X "sorted")(hm:X.mg "sorted"=Y)(JM:RE e "items" X.env (eval e X.env)=eval e X.env)(JN:(apos.endLine==cpos.line)=F2):
 PE X (.Call (.Name "sorted" p) [.Call (.Attribute e "items" apos) [] [] cpos] [] pos) (lE X.K (ki ta)):=by
 intro pins s σ H Q I h;obtain⟨ρ,M,rs,rm,h⟩:=h;refine LO (bL I hg hm (u:=.builtin "sorted") (by decide +kernel) ?_ (by decide) (by decide))
 refine Qm ?_ rfl rfl;refine N3 ?_;refine wpAny_Call_method0_late JM JN (thn (he pins s σ H (λv H1=>∃fv a t kvs sh,Ext M H fv H1/\RM X.K fv H1/\v=.ref a/\fv a=Z (.dct t kvs)/\i3 sh=F2/\(∀kv∈kvs,hs sh (kvD kv)=F2)/\kvs.length<=63/\∀p ys,fv p=Y->ys.Perm (kvs.map kvD)->gd ys->KE' X.K M H Q (.ref p) (ag fv p (.lst ys))) I ⟨ρ,M,rs,rm,m _ _ _ _ (λx fv ⟨a,t,kvs,sh,e,e1,e2,e3,e4,q1⟩ v H1 x1 Fn JY=>by subst e;exact⟨fv,a,t,kvs,sh,x1,Fn,W0.mp JY,e1,e2,e3,e4,q1⟩) h⟩) λv s1 ⟨x,H1,I1,r1,fv,a,t,kvs,sh,x1,Fn,ex,e1,hok,JR,Ka,q⟩=>?_)
 subst ex;obtain rfl:v=Lu a:=r1;obtain⟨cd,dd,sl,es,ep,hd,hz,JO,hD⟩:=sH I1 Fn e1;obtain⟨t1,t2,JZ⟩:=jH I1 hD;refine⟨"dict","dict.items",F.plainAttrs_dict,UI,F.type_dict_items,t1,t2,Q4 rfl (PySem.evalArgs_none ?_)⟩;refine wY t1 JZ hd ?_;refine Ny ?_;have kpv:∀b o,s1.heap.get? b=Z o->(s1.heap.push {cls:=Lw "dict_items",data:=Vd #[Lu a]}).get? b=Z o:=λb o e=>hQ _ e;obtain⟨hS,K0⟩:=sB (xs:=kvs.map kvD) hok (λd hd=>by obtain⟨kv,K1,rfl⟩:=D2.mp hd;exact JR kv K1)
 have U:=jj hok;have JS:∀(h':Heap) (r:Rw),(∀b o,s1.heap.get? b=Z o->h'.get? b=Z o)->r.2.1∈kvs->RD X.K H1 r.2.1.1 r.2.2.1->RelV r.2.2.1 r.2.2.2.2.key->RD X.K H1 r.2.1.2 r.2.2.2.1->RelV r.2.2.2.1 r.2.2.2.2.val->h'.get? r.1=Z {cls:=.type "tuple",data:=.seq #[r.2.2.2.2.key,r.2.2.2.2.val]}->∃as,PM h' (.ref r.1) (pd (kvD r.2.1)) as:=by
  intro h' r kp hm g1 g2 g3 g4 g5;have J:=JR _ hm
  match sh,J,U with
  |.tup l,J,U=>
   simp only[kvD,hs]at J
   match l,J,U with
   |[sa,sb],J,U=>
    simp only[hss,p0,and_true]at J;simp only[dep,deps]at U;obtain⟨as,ra⟩:=bH I1 Fn 16 _ _ _ _ (oD fv sa _ 16 J.1 ∅) g1 g2
    obtain⟨bs,rb'⟩:=bH I1 Fn 16 _ _ _ _ (oD fv sb _ 16 J.2 ∅) g3 g4
    have ra:=b9 (λb o e _=>kp b o e) (kh sa _ J.1).1 ra;have rb':=b9 (λb o e _=>kp b o e) (kh sb _ J.2).1 rb';have fin:PM h' (.ref r.1) (.tuple [pd r.2.1.1,pd r.2.1.2]) (as++(bs++[])):=.tuple g5 rfl rfl (.cons ra (.cons rb' .nil));exact⟨_,fin⟩
   |[],J,_=>simp[hss]at J
   |[_],J,_=>simp[hss]at J
   |_::_::_::_,J,_=>simp[hss]at J
  |.int,J,_=>simp[kvD,hs]at J
 refine nr (cap:=63) j6 (m:=7) (ds:=(kvs.map kvD).map pd) (C:=λh' us=>(∀b o,s1.heap.get? b=Z o->h'.get? b=Z o)/\∃L:List Rw,L.map (λr=>Lu r.1)=us/\L.map (λr=>r.2.1)=kvs/\us.Nodup/\∀r∈L,RD X.K H1 r.2.1.1 r.2.2.1/\RelV r.2.2.1 r.2.2.2.2.key/\RD X.K H1 r.2.1.2 r.2.2.2.1/\RelV r.2.2.2.1 r.2.2.2.2.val/\h'.get? r.1=Z {cls:=.type "tuple",data:=.seq #[r.2.2.2.2.key,r.2.2.2.2.val]}/\s1.heap.get? r.1=Y) ∅ hS K0 (λE R hR=>?_) λh1 h2 us out n' tk hC old g2 JJ JT Kb Kc ht=>?_
 ·refine It.collect_view (A:=X.A.in1) (s:={s1 with heap:=s1.heap.push {cls:=Lw "dict_items",data:=Vd #[Lu a]}}) (I.ok.hd hc) (A2 _ rfl) (kpv _ _ hd) hz λh' us k1 k2 k3 k4=>?_
  obtain⟨L,l1,l2,l3⟩:=AS (G:=λt e=>h'.get? t=Z {cls:=.type "tuple",data:=.seq #[e.key,e.val]}/\s1.heap.get? t=Y) JO (by simpa using k2) λj hj=>by
   obtain⟨t,e,e1,e2,e3,e4⟩:=k4 j (by simpa using hj)
   refine⟨t,e,e1,by rw[LU];exact e2,e3,?_⟩
   cases hq:s1.heap.get? t with
   |none=>rfl
   |some o=>rw[kpv _ _ hq]at e4;cases e4
  refine hR h' us _ ⟨λb o e=>k1 b o (kpv b o e),L,l1,l2,k3,l3⟩ (λu hu=>?_) ⟨by rw[k2];exact hz,by rw[k2];have h9:=bS JO;simp at h9;lia⟩ (KO _)
  rw[<-l1]at hu;obtain⟨r,O,rfl⟩:=D2.mp hu;obtain⟨p1,p2,p3,p4,p5,p6⟩:=l3 r O;have hm:r.2.1∈kvs:=by rw[<-l2];exact L5 O
  obtain⟨as,ra⟩:=JS h' r (λb o e=>k1 b o (kpv b o e)) hm p1 p2 p3 p4 p5;exact⟨_,L5 (L5 hm),as,ra⟩
 ·obtain⟨kp,L,l1,l2,l3,l4⟩:=hC;rw[<-l1]at JJ;obtain⟨L',p1,p2⟩:=eN (fun r:Rw=>Lu r.1) JJ rfl;have JU:∀b o,s1.heap.get? b=Z o->h2.get? b=Z o:=fun b o e=>old b o (kp b o e);have B:s1.heap.get? h1.objs.size=Y:=by
   cases hq:s1.heap.get? h1.objs.size with
   |none=>rfl
   |some o=>exact absurd (B1 (kp _ _ hq)) (LZ _)
  have K5:(L.map λr=>r.1).Nodup:=by
   rw[<-l1]at l3;have:(L.map λr=>Lu r.1)=(L.map λr=>r.1).map Lu:=by simp
   rw[this]at l3;exact List.Pairwise.of_map _ (λa b JL he=>JL (by rw[he])) l3
  have JK:∀r∈L',r∈L:=λr O=>p1.mem_iff.mp O;have hp:∀r∈L,r.1≠h1.objs.size:=λr O=>Lg (B1 (l4 r O).2.2.2.2.1)
  let N:Wk->Option HO:=λb=>if b=h1.objs.size then Z (.lst (L'.map λr=>V.ref r.1))else(L.find? λx=>decide (x.1=b)).map λr=>.tup [r.2.2.1,r.2.2.2.1]
  have JV:N h1.objs.size=Z (.lst (L'.map λr=>V.ref r.1)):=by show(if _ then _ else _)=_;rw[if_pos rfl]
  have K6:∀r∈L,N r.1=Z (.tup [r.2.2.1,r.2.2.2.1]):=λr O=>by
   show(if _ then _ else _)=_
   rw[if_neg (hp r O),zI K5 O];rfl
  have JP:∀b o,N b=Z o->b=h1.objs.size/\o=.lst (L'.map λr=>V.ref r.1)∨∃r∈L,b=r.1/\o=.tup [r.2.2.1,r.2.2.2.1]:=λb o e=>by
   by_cases hb:b=h1.objs.size
   ·subst hb;rw[JV]at e;cases e;exact .inl ⟨rfl,rfl⟩
   ·right
    have e:((L.find? λx=>decide (x.1=b)).map λr=>HO.tup [r.2.2.1,r.2.2.2.1])=Z o:=by
     have e':(if b=h1.objs.size then Z (HO.lst (L'.map λr=>V.ref r.1))else(L.find? λx=>decide (x.1=b)).map λr=>HO.tup [r.2.2.1,r.2.2.2.1])=Z o:=e
     rw[if_neg hb]at e';exact e'
    cases hf:L.find? λx=>decide (x.1=b)with
    |none=>rw[hf]at e;cases e
    |some r=>rw[hf]at e;cases e;have K7:=Vs hf;exact⟨r,Ro hf,(by simpa using K7:r.1=b).symm,rfl⟩
  have oldH:∀b o,H1 b=Z o->lay H1 N b=Z o:=λb o e=>by
   rw[iG]
   ·exact e
   ·cases hq:N b with
    |none=>rfl
    |some o'=>
     obtain⟨ob,eo⟩:=(I1.hok b o e).there
     rcases JP b o' hq with⟨rfl,_⟩|⟨r,O,rfl,_⟩
     ·rw[B]at eo;cases eo
     ·rw[(l4 r O).2.2.2.2.2]at eo;cases eo
  have st:Stab H1 (lay H1 N):=⟨λb xs e=>oldH b _ e,λb o u e=>oldH b _ e⟩;have JQ:L'.length=kvs.length:=by rw[p1.length_eq,<-l2];simp
  have K8:=bS JO;have I2:=I1.laidN (t':=tk) (h':=h2) (N:=N) JU (λb o e=>by
   rcases JP b o e with⟨rfl,_⟩|⟨r,O,rfl,_⟩
   ·exact B
   ·exact(l4 r O).2.2.2.2.2) (λb o e=>by
   rcases JP b o e with⟨rfl,rfl⟩|⟨r,O,rfl,rfl⟩
   ·refine⟨by rw[m1,JQ,K8];simpa using hz,out,n',?_,g2⟩
    rw[<-p2];have:∀l:List Rw,Vals (l.map λr=>V.ref r.1) (l.map λr=>Lu r.1):=by
     intro l
     induction l with
     |nil=>exact .nil
     |cons r l ih=>exact .cons rfl ih
    exact this L'
   ·obtain⟨q1,q2,q3,q4,q5,q6⟩:=l4 r O;exact⟨by show 2<=KG;decide,[r.2.2.2.2.key,r.2.2.2.2.val],.cons q2 (.cons q4 .nil),_,old _ _ q5,rfl,0,rfl⟩)
  refine⟨.ref h1.objs.size,_,I2,rfl,?_⟩;have JW:fv h1.objs.size=Y:=Fn.out (I1.fresh' B);have JX:RDs X.K (lay H1 N) (L'.map λr=>kvD r.2.1) (L'.map λr=>V.ref r.1):=by
   have:∀l:List Rw,(∀r∈l,r∈L)->RDs X.K (lay H1 N) (l.map λr=>kvD r.2.1) (l.map λr=>V.ref r.1):=by
    intro l
    induction l with
    |nil=>intro _;exact RDs.nil
    |cons r l ih=>
     intro hl;obtain⟨q1,q2,q3,q4,q5,q6⟩:=l4 r (hl r (by simp))
     refine RDs.cons (W8 ⟨r.1,_,rfl,lL (K6 r (hl r (by simp))),RDs.cons (q1.mono st) (RDs.cons (q3.mono st) RDs.nil)⟩) (ih λr' K9=>hl r' (by simp[K9]))
   exact this L' JK
  refine q h1.objs.size (L'.map λr=>kvD r.2.1) JW ?_ ?_ (.ref h1.objs.size) (lay H1 N) (x1.trans ⟨λb o _ e=>oldH b o e,λb o n e=>?_⟩) (λa' o' e'=>?_) (W0.mpr rfl)
  ·have:=p1.map (λr:Rw=>kvD r.2.1);rw[show L.map (λr:Rw=>kvD r.2.1)=(L.map λr=>r.2.1).map kvD by simp,l2]at this
   exact this
  ·unfold gd;rw[LY];rw[<-p2,LY]at JT;refine JT.imp_of_mem fun {a b} ha hb JL=>?_;have rd:∀r∈L',MX h2 (Lu r.1)=pd (kvD r.2.1):=fun r O=>by
    obtain⟨q1,q2,q3,q4,q5,q6⟩:=l4 r (JK r O);have hm:r.2.1∈kvs:=by rw[<-l2];exact L5 (JK r O)
    obtain⟨as,ra⟩:=JS h2 r JU hm q1 q2 q3 q4 (old _ _ q5);exact NM (hS.lay _ (L5 (L5 hm))).1 ra
   rw[rd a ha,rd b hb]at JL;exact JL
  ·have hb:b≠h1.objs.size:=fun z=>by
    rw[z,I1.fresh' B]at e;cases e
   exact aE hb
  ·by_cases hz:a'=h1.objs.size
   ·subst hz;rw[aa]at e';cases e';exact⟨_,lL JV,JX⟩
   ·rw[aE hz]at e';exact(Fn a' o' e').mono st λho e=>oldH a' ho e
end
section
noncomputable def oE(to tk tx:TEd):TEd:=λρ M Q=>to ρ M λx M1=>∃a t kvs,x=.ref a/\M1 a=Z (.dct t kvs)/\tk ρ M1 λk M2=>tx ρ M2 λz M3=>∃t' kvs',M3 a=Z (.dct t' kvs')/\eJ t' k=F2/\Q ((dget kvs' k).getD z) M3
theorem wZ{to tk tx:TEd}(h1:ad to)(h2:ad tk)(B:ad tx):ad (oE to tk tx):=λρ M Q Q' i q=>h1 _ _ _ _ (λx O j=>(by obtain⟨a,t,kvs,e,e1,F⟩:=j;exact⟨a,t,kvs,e,e1,h2 _ _ _ _ (λk M2 G=>B _ _ _ _ (λz U j=>(by obtain⟨t',kvs',J,ok,L⟩:=j;exact⟨t',kvs',J,ok,i _ _ L⟩)) G) F⟩)) q
section
variable{X:Cx}
theorem Ew{M:Mem}(rm:RM K M H){t:Bool}(e:M a=Z (.dct t kvs)):IsD H a:=by
 have ro:=rm a _ e
 cases t with
 |false=>obtain⟨ps,j,_⟩:=ro;exact .inl ⟨_,Rd.of j⟩
 |true=>obtain⟨ps,j,_⟩:=ro;exact .inr ⟨_,Rd.of j⟩
theorem Cn{o e f:Expr}{to tk tx:TEd}{apos cpos:Pos}(Fn:X.A.units+1<Ol)(mo:ad to)(mk:ad tk)(mx:ad tx)(ho:PE X o (lE X.K to))(he:PE X e (lE X.K tk))(hf:PE X f (lE X.K tx))(m:M2 X o "get" apos e f cpos):
 PE X (.Call (.Attribute o "get" apos) [e,f] [] cpos) (lE X.K (oE to tk tx)):=by
 refine PE.imp (yE Fn ho he hf m) λσ H Q h=>?_;obtain⟨ρ,M,rs,rm,q⟩:=h;refine⟨ρ,M,rs,rm,mo _ _ _ _ (λx fv g9 v H1 L j rd1=>?_) q⟩;obtain⟨a,t,kvs,e,e1,q1⟩:=g9;subst e
 cases W0.mp rd1
 have B:=rs.mono (L.stab rm);refine⟨a,rfl,Ew j e1,ρ,fv,B,j,mk _ _ _ _ (λk M2 q2 v2 H2 O F G=>?_) q1⟩;have J:=B.mono (O.stab j);refine⟨ρ,M2,J,F,mx _ _ _ _ (λz M3 g9 v3 H3 U rm3 rd3=>?_) q2⟩;obtain⟨t',kvs',e3,ok,q3⟩:=g9;obtain⟨w,g,g1,g2⟩:=lr rm3 e3 ok (G.mono (U.stab F));refine⟨w,g,?_⟩;refine q3 _ H3 (L.trans (O.trans U)) rm3 ?_
 cases e4:dget kvs' k with
 |none=>rw[g2 e4];exact rd3
 |some d=>obtain⟨w',e5,r5⟩:=g1 d e4;rw[e5];exact r5
end
end
end Mi
section
noncomputable def Itv(K:Frag)(a:Wk)(n:Nat):It:=⟨λi H=>i<n/\∃xs x,SqL K H a xs/\xs[n-1-i]?=Z x,λi H x H'=>H'=H/\∀xs,SqL K H a xs->xs[n-1-i]?=Z x,λi _=>n<=i⟩
theorem zK{tg:Expr}(a it:Wk)(n:Nat):fM P w K tg (Itv K a n) [it] it (λi h=>i<=n/\h.get? it=Z (Rv.rO a ((n:Int)-1-i))) where
 mem:=by simp
 obj:=λi h st b j=>by
  have e:b=it:=by simpa using j
  subst e;exact⟨_,st.2,λv z=>by cases z⟩
 keep:=λi h h' st k=>⟨st.1,k it (by simp) _ st.2⟩
 item:=by
  intro X F hw G O i pins s σ H E I hf st B;subst F hw G;obtain⟨hi,xs,x,U,hx⟩:=B;obtain⟨its,rv,p,hz⟩:=I.list U;obtain⟨u,Fn,ru⟩:=rv.get hx;obtain⟨f0,f1,f2,J,f4,L⟩:=hf it (by simp)
  have e:(n:Int)-1-i=((n-1-i:Nat):Int):=∅
  have e2:(n:Int)-1-((i+1:Nat):Int)=((n-1-i:Nat):Int)-1:=∅
  refine Rv.nx_item (i:=n-1-i) (x:=u) (by rw[<-e];exact st.2) p.isList (by simpa using Fn) λh' st' sb=>?_
  have fv:Inv X pins σ H {s with heap:=h'}:=I.turned (t':=s.toks) (λb o j e=>(sb.2 b j).trans e) f0 f1 J f4 L
  exact⟨u,rfl,nV (s:={s with heap:=h'}) (n:="list_reverseiterator") st' rfl rfl (by decide) ⟨x,H,fv,ru,⟨rfl,λys hy=>by rw[I.list_inj hy U];exact hx⟩,⟨∅,by rw[e2];exact st'⟩,λb j=>(hf b j).1⟩⟩
 done:=by
  intro X F hw G O i pins s σ H E I hf st B;subst F hw G;have B:n<=i:=B;obtain⟨f0,f1,f2,J,f4,L⟩:=hf it (by simp)
  have e:(n:Int)-1-i = -1:=by have:=st.1;lia
  exact Rv.nx_end (I.ok.hd O) (by rw[<-e];exact st.2) λh' k=>⟨rfl,I.turned (t':=s.toks) (λb o _ e=>k b o e) f0 f1 J f4 L⟩
 self:=λA i s Q E st h=>Rv.it_self st.2 h
section
variable{X:Cx}
noncomputable def Hv(K:Frag)(tl:TE):TI:=λσ H R=>tl σ H λx H1=>∃a xs,x=.ref a/\SqL K H1 a xs/\R (Itv K a xs.length) H1
theorem Ex{tg:Expr}(he:PE X e te)(G:Gl X "reversed")(hm:X.mg "reversed"=Y)(hs:KU [e] X.env=[(Wj,eval e X.env)]):
 PI X tg (.Call (.Name "reversed" p) [e] [] pos) (Hv X.K te):=by
 intro pins s σ H R I h;refine LO (bL I G hm (u:=.type "reversed") boot_reversed ?_ (by decide) (by decide))
 refine Ln ?_ (by rw[hs];rfl) rfl
 rw[hs];refine N3 (thn (he pins s σ H _ I h) λu s1 J=>?_);obtain⟨x,H1,B,L,O⟩:=J;obtain⟨a,xs,rfl,sq,q⟩:=O
 cases L
 refine Ny ?_;obtain⟨its,rv,pl,Fn⟩:=B.list sq;have hlen:=rv.length;obtain⟨⟨cls,dd,dat,sl⟩,n,e1,j,F,z⟩:=pl;dsimp only at j F z;subst j z;refine Rv.call_rev e1 ?_;have sz:its.toArray.size=its.length:=KJ;rw[sz,<-hlen];refine Rv.it_self (s:={s1 with heap:=s1.heap.push (Rv.rO a ((xs.length:Nat)-1))}) (A2 _ rfl) ?_
 refine⟨s1.heap.objs.size,[s1.heap.objs.size],_,_,H1,rfl,B.kept (t':=s1.toks) λb o e=>hQ _ e,zK a _ xs.length,⟨N7 _,?_⟩,λb U=>?_,q⟩
 ·rw[show((xs.length:Int)-1-(0:Nat))=(xs.length:Int)-1 by lia];exact A2 _ rfl
 ·have e:b=s1.heap.objs.size:=by simpa using U
  subst e;exact B.fpOk (KO _) (B.hok.fresh (KO _))
end
namespace Mi
section
variable{X:Cx}
noncomputable def oF(ta:TEd):TId:=λρ M R=>ta ρ M λx M1=>∃a ds,x=.ref a/\M1 a=Z (.lst ds)/\R ds.reverse (λM=>M a=Z (.lst ds)) M1
theorem xf{ta:TEd}(h:ad ta):bY (oF ta):=λρ M Q Q' i q=>h _ _ _ _ (λx B j=>(by obtain⟨a,ds,e,e1,z⟩:=j;exact⟨a,ds,e,e1,i _ _ _ z⟩)) q
theorem Ey{K:Frag}{H1:Hp}{a:Wk}{ds:List D}:fX K H1 ds.reverse (λM=>M a=Z (.lst ds)) (Itv K a ds.length):=λM H st rm c i=>by
 obtain⟨vs,j,rv⟩:=rm _ _ c;have sq:=SqL.of (K:=K) j;have l:=rv.length;rw[Pz];refine⟨λhi=>hi,λhi=>⟨⟨hi,vs,vs[ds.length-1-i]'∅,sq,z0 ∅⟩,λx H' y=>?_⟩⟩
 obtain⟨e,y⟩:=y;subst e;obtain⟨d,hd,rd⟩:=rv.getV (y vs sq);exact⟨.inl rfl,d,by rw[SR hi];exact hd,rd⟩
theorem Ez{tg e:Expr}{ta:TEd}{p pos:Pos}(m:ad ta)(he:PE X e (lE X.K ta))(j:Gl X "reversed")(hm:X.mg "reversed"=Y)(hs:KU [e] X.env=[(Wj,eval e X.env)]):
 PI X tg (.Call (.Name "reversed" p) [e] [] pos) (lI X.K (oF ta)):=by
 refine PI.imp (Ex he j hm hs) λσ H R h=>?_;obtain⟨ρ,M,rs,rm,q⟩:=h;refine⟨ρ,M,rs,rm,m _ _ _ _ (λx F g9 v H1 x1 rm1 rd1=>?_) q⟩;obtain⟨a,ds,e,e1,z⟩:=g9;subst e
 cases W0.mp rd1
 obtain⟨vs,B,rv⟩:=rm1 _ _ e1;refine⟨a,vs,rfl,SqL.of B,?_⟩;rw[rv.length];exact z _ H1 x1 rm1 Ey
end
end Mi
end
namespace Mi
end Mi
section
section
variable{prog:L4}{w:Lq}{A:Lv}{E:h8->r0->Prop}
theorem nv{it l:Wk}{items:Array h8}(j:l≠it):∀(n i:Nat) (s:r0) (Q:List h8->r0->Prop),s.heap.IsListIter it l i->s.heap.IsList l items->i+n<=items.size->
 (∀h':Heap,h'.IsListIter it l (i+n)->Mg it s.heap h'->Q ((items.toList.drop i).take n) {s with heap:=h'})->KN (model prog w) A (draw (.ref it) n) Q E s
 |0,i,s,Q,hi,B,hs,q=>by
  unfold draw;have:=q s.heap (by simpa using hi) ⟨rfl,λ_ _=>rfl⟩
  exact tv (by simpa using this)
 |n+1,i,s,Q,hi,B,hs,q=>by
  unfold draw;refine gV (Sk hi B (x:=items[i]'∅) (by simp) λh' F sb=>?_)
  refine gV (LH (nv j n (i+1) _ _ F (B.extBut sb.extBut j) ∅ λh2 G z=>?_))
  refine tv ?_;have e:items[i]'∅::(items.toList.drop (i+1)).take n=(items.toList.drop i).take (n+1):=by rw[Of (i:=i) (l:=items.toList) (by simp;lia),List.take_succ_cons];rfl
  have:=q h2 (by rw[show i+(n+1)=i+1+n by lia];exact G) ⟨z.1.trans sb.1,λb J=>(z.2 b J).trans (sb.2 b J)⟩
  rw[<-e]at this;exact this
theorem jk{l:Wk}{items:Array h8}{Q:List h8->r0->Prop}(F:A.handled=Y)(j:s.heap.IsList l items)(q:∀h',(∀b o,s.heap.get? b=Z o->h'.get? b=Z o)->Q items.toList {s with heap:=h'}):KN (model prog w) A (Vc (.ref l) items.size Y) Q E s:=by
 unfold Vc;have nb:∀Q':Bool->r0->Prop,Q' Wj s->KN (model prog w) A (V2 (.ref l)) Q' E s:=λQ' h=>by unfold V2;refine gV (SM j.typeIs slot_list_iter.lookup ?_);exact tv h
 refine gV (nb _ ?_);simp only[Mx,if_false];refine gV (LH (NA j ?_));have lt:l<s.heap.objs.size:=by obtain⟨o,e,_⟩:=j;exact B1 e
 refine gV (LH (nv (items:=items) (Lg lt) items.size 0 _ _ ⟨_,A2 _ rfl,rfl,rfl⟩ (j.push _) ∅ λh2 G z=>?_))
 have B:h2.IsList l items:=(j.push _).extBut z.extBut (Lg lt);rw[Tc,OK (by simp)]
 rw[if_neg (by simp)]
 refine gV (LH (SO F (s:={s with heap:=h2}) G B (by simp) λJ eb=>?_))
 simp only[Option.isSome_none,Mx,if_false];refine tv (q J λb o e=>?_);have nb:b≠s.heap.objs.size:=Lg (B1 e);exact eb b o nb (z.extBut b o nb (hQ _ e))
theorem rN{k:Nat}{l:Wk}{items:Array h8}{Q:Unit->r0->Prop}(z:A.handled=Y)(B:s.heap.IsList l items)(F:(Mj elts env).length=items.size)(j:(Mj elts env).findIdx? (·.1)=Y)(q:∀h',(∀b o,s.heap.get? b=Z o->h'.get? b=Z o)->KN (model prog w) A (RB ((Mj elts env).map (·.2)) items.toList) Q E {s with heap:=h'}):
 KN (model prog w) A (assign (.Tuple elts k pos) env (.ref l)) Q E s:=by
 rw[assign_Tuple];refine gV (Ot ?_);unfold unpack;rw[j,F];exact gV (LH (jk z B q))
end
section
variable{X:Cx}
noncomputable def Hw(K:Frag)(n:Nat)(t:TGs):TG:=λv σ H Q=>∃a xs,v=.ref a/\SqL K H a xs/\xs.length=n/\t xs σ H Q
theorem EA{es:List Expr}{k:Nat}{t:TGs}{n:Nat}(z:X.calm=F2)(h:PGs X es t)(B:(Mj es X.env).length=n)(j:(Mj es X.env).findIdx? (·.1)=Y):PG X (.Tuple es k pos) (Hw X.K n t):=by
 intro pins s σ H v u Q I r hw;obtain⟨a,xs,e1,F,G,hw⟩:=hw;subst e1
 cases r
 obtain⟨its,rv,J,O⟩:=I.list F;refine rN (I.ok.hd z) J.isList (by simp[B,<-G,rv.length]) j λh' hx=>?_
 have L:Inv X pins σ H {s with heap:=h'}:=I.kept (t':=s.toks) hx
 exact h pins _ σ H xs _ Q L (by simpa using rv) hw
end
namespace Mi
section
variable{X:Cx}{K:Frag}
noncomputable def lGL(K:Frag)(b:BTs):TG:=λv σ H Q=>∃a vs ds ρ ρ',v=.ref a/\SqL K H a vs/\RDs K H ds vs/\RS K H σ ρ/\b ds ρ=Z ρ'/\∀σ',RS K H σ' ρ'->Q σ' H
theorem EB{es:List Expr}{k:Nat}{bs:BTs}{n:Nat}{pos:Pos}(z:X.calm=F2)(hlen:∀ds ρ ρ',bs ds ρ=Z ρ'->ds.length=n)(h:PGs X es (lGs X.K bs))(B:(Mj es X.env).length=n)(j:(Mj es X.env).findIdx? (·.1)=Y):PG X (.Tuple es k pos) (lGL X.K bs):=PG.imp (EA z h B j) λv σ H Q g9=>(by obtain⟨a,vs,ds,ρ,ρ',e,sq,r,rs,eb,q⟩:=g9;exact⟨a,vs,e,sq,by rw[r.length];exact hlen _ _ _ eb,ds,ρ,ρ',r,rs,eb,q⟩)
noncomputable def oG(te:TEd)(b:BTs):TSd:=λD ρ M=>te ρ M λx M1=>∃a ds ρ',x=.ref a/\M1 a=Z (.lst ds)/\b ds ρ=Z ρ'/\D.nx ρ' M1
theorem xg{te:TEd}{bt:BTs}(h:ad te):aJ (oG te bt):=λa b ρ M i q=>h _ _ _ _ (λd B j=>(by obtain⟨x,ds,ρ',e,e1,e2,z⟩:=j;exact⟨x,ds,ρ',e,e1,e2,i.nx _ _ z⟩)) q
theorem xh{te:TEd}{b:BTs}(m:ad te)(D:bK)(σ:St)(H:Hp)(h:lS K (oG te b) D σ H):oX (lE K te) (lGL K b) D σ H:=by
 obtain⟨ρ,M,A,rs,rm,l,q⟩:=h;refine⟨ρ,M,rs,rm,m _ _ _ _ (λd B g9 v H1 z j rd1=>?_) q⟩;obtain⟨a,ds,ρ',e1,e2,e,F⟩:=g9;subst e1
 cases W0.mp rd1
 obtain⟨vs,G,rv⟩:=j _ _ e2;exact⟨a,vs,ds,ρ,ρ',rfl,SqL.of G,rv,rs.mono (z.stab rm),e,λσ' rs'=>l.nx ρ' B σ' H1 z rs' j F⟩
end
end Mi
end
namespace Mi
end Mi
namespace Dk
variable{it d:Wk}{ep:Nat}{dd:Option Wk}{sl:Array (Option h8)}{es:Array LW}
section
variable{prog:L4}{w:Lq}{A:Lv}{E:h8->r0->Prop}{s:r0}
noncomputable def kO(d:Wk)(i n ep:Nat):Obj:={cls:=.type "dict_keyiterator",data:=.fields #[.ref d,.int i 0,.int n 0,.int ep 0]}
theorem slot_next:Slot "dict_keyiterator" "__next__" "dict_keyiterator.__next__":=.of (owner:="dict_keyiterator") (n:="__next__") (by rw[PQ,Oc];kernel_rfl) (by decide +kernel) (by decide +kernel) (by decide +kernel) (.inl (by decide +kernel)) (by rw[Nt];kernel_rfl)
theorem bq:Uz table "dict_keyiterator.__next__"=Z Mh.«dict_keyiterator.__next__»:=Qt (by kernel_rfl)
theorem bE(a:h8):Sx "dict_keyiterator.__next__" ⟨[a],[]⟩:=by unfold Sx;kernel_rfl
theorem cS(ty:s.TypeIs (.ref it) "dict_keyiterator"){types:List String}{Q:Bool->r0->Prop}(q:Q (types.any λt=>[Lw "dict_keyiterator",Lw "object"].contains (Lw t)) s):KN (model prog w) A (O9 (.ref it) types) Q E s:=by
 have hm:=TM;unfold O9
 wp_walk
 exact q
theorem nx_item{i:Nat}{cd:h8}{e:LW}{Q:Option h8->r0->Prop}(hi:s.heap.get? it=Z (kO d i es.size ep))(hd:s.heap.get? d=Z {cls:=cd,dict:=dd,data:=.dict es ep,slots:=sl})(he:es[i]?=Z e)(q:∀h',h'.get? it=Z (kO d (i+1) es.size ep)->Mg it s.heap h'->Q (Z e.key) {s with heap:=h'}):KN (model prog w) A (MZ (.ref it)) Q E s:=by
 have ty:s.TypeIs (.ref it) "dict_keyiterator":=⟨_,hi,rfl⟩;unfold MZ;refine gV (MB (L6 (name:=Lf "__next__") ty slot_next (Le slot_next ty bq ?_ (bE _))));unfold Mh.«dict_keyiterator.__next__»;have hm:=TM
 wp_walk
 dsimp only;rw[if_neg (by simp)]
 simp only[J4,he];refine gV (Md (Q:=λn s'=>n=0/\s'=s) ?_ (λn s' hs=>?_) λ_ _ z=>z)
 ·wp_walk
  exact⟨by kernel_rfl,rfl⟩
 obtain⟨rfl,rfl⟩:=hs;refine gV (cS ty ?_);refine gV (KS hi (by simp) λh1 e1 s1=>?_)
 rw[if_neg (by decide +kernel)]at e1
 have e1:h1.get? it=Z (kO d (i+1) es.size ep):=e1;have j:RH {s' with heap:=h1} (.ref it) "dict_keyiterator":=⟨_,e1,rfl⟩
 refine gV (LH ?_);refine gV (cS j ?_);refine Qb (by decide +kernel) ?_
 refine tv (tv ⟨_,rfl,tv ?_⟩);exact q h1 e1 s1
theorem nx_end{cd:h8}{Q:Option h8->r0->Prop}(j:A.handled=Y)(hi:s.heap.get? it=Z (kO d es.size es.size ep))(hd:s.heap.get? d=Z {cls:=cd,dict:=dd,data:=.dict es ep,slots:=sl})(q:∀h',(∀b o,b≠it->s.heap.get? b=Z o->h'.get? b=Z o)->Q Y {s with heap:=h'}):KN (model prog w) A (MZ (.ref it)) Q E s:=by
 have ty:s.TypeIs (.ref it) "dict_keyiterator":=⟨_,hi,rfl⟩;unfold MZ;refine gV (MB (L6 (name:=Lf "__next__") ty slot_next (Le slot_next ty bq ?_ (bE _))));unfold Mh.«dict_keyiterator.__next__»;have hm:=TM
 wp_walk
 dsimp only;rw[if_neg (by simp)]
 have he:es[es.size]?=Y:=OM (KO _);simp only[J4,he];refine gV (Md (Q:=λn s'=>n=0/\s'=s) ?_ (λn s' hs=>?_) λ_ _ z=>z)
 ·wp_walk
  exact⟨by kernel_rfl,rfl⟩
 obtain⟨rfl,rfl⟩:=hs;refine gV (KS hi (by simp) λh1 e1 s1=>?_)
 refine gV (m:=Ud (.type "StopIteration") []) ?_;simp only[Ud,Uw];refine gV (LN ?_ (by size_fits))
 refine gV (m:=O8 _ _) (Nq (a:=MY) (by first|rfl|(simp only[O8];rfl)) (LN ?_ (by size_fits)))
 simp only[VG];refine gV (RG ?_)
 first|rw[show A.in1.handled=Y from j]|rw[j]
 refine gV (tv (T8 ?_));exact gV (Ng (T:="StopIteration") (b:=F2) ⟨_,A2 _ rfl,rfl⟩ Ph (tv (q _ λb o B e=>hQ _ (hQ _ (s1.extBut b o B e)))))
theorem Co{Q:h8->r0->Prop}(j:(d==MK)=Wj)(hd:s.heap.get? d=Z {cls:=.type "dict",dict:=dd,data:=.dict es ep,slots:=sl})(q:Q (.ref s.heap.objs.size) {s with heap:=s.heap.push (kO d 0 es.size ep)}):KN (model prog w) A (SX (.ref d)) Q E s:=by
 have ty:s.TypeIs (.ref d) "dict":=⟨_,hd,rfl⟩;refine Ry ty V3 (Le V3 ty F.entry_dict_iter ?_ (F.args_dict_iter_1 _));unfold Mh.«dict.__iter__»
 wp_walk
 exact⟨_,rfl,"dict_keyiterator",_,⟨_,A2 _ rfl,rfl⟩,slot_next.lookup,q⟩
theorem walk(hn:A.handled=Y)(it d:Wk)(hne:d≠it)(es:Array LW)(ep:Nat):
 Walks prog w A it [it,d] [it] es.size (λi v=>∃e,es[i]?=Z e/\v=e.key) (λi h=>h.get? it=Z (kO d i es.size ep)/\∃cd dd sl,h.get? d=Z {cls:=cd,dict:=dd,data:=.dict es ep,slots:=sl}) where
 sub:=λb hb=>by simp at hb;simp[hb]
 frame:=λ_ _ _ st k=>⟨k it (by simp) _ st.1,by obtain⟨cd,dd,sl,h⟩:=st.2;exact⟨cd,dd,sl,k d (by simp) _ h⟩⟩
 item:=λi s Q E hi st q=>by obtain⟨h1,cd,dd,sl,h2⟩:=st;refine nx_item (e:=es[i]) h1 h2 (Mn hi) λh' e' s'=>?_;exact q _ h' s.toks ⟨_,Mn hi,rfl⟩ ⟨e',cd,dd,sl,s'.extBut d _ hne h2⟩ λb o hb x=>s'.extBut b o (λz=>hb (by simp[z])) x
 done:=λs Q E st q=>by obtain⟨h1,cd,dd,sl,h2⟩:=st;exact nx_end hn h1 h2 λh' k=>q h' s.toks λb o hb x=>k b o (λz=>hb (by simp[z])) x
 self:=λi s Q E st q=>wpAny_pyIter_keyiter ⟨_,st.1,rfl,rfl⟩ q
theorem xi{Q:Bool->r0->Prop}(ty:s.TypeIs (.ref d) "dict")(q:Q Wj s):KN (model prog w) A (NT (.ref d)) Q E s:=by
 unfold NT;refine gV (SM ty F.slot_dict_len.lookup ?_);generalize j:("dict.__len__":String)=z
 (fail_if_success (clear j z));wp_delta
 rw[show splitId z=Z ("dict","__len__")from by subst j;decide +kernel]
 subst j;refine gV (Ng (b:=F2) ty (by rw[Nt];kernel_rfl) ?_)
 rw[if_neg (by decide)]
 refine Qb (by decide +kernel) ?_
 refine gV (OH ty ?_);exact tv q
open Builtin.List in
theorem zL(hn:A.handled=Y){S:Wk}{c:Nat}{R:U3->r0->Prop}(res:h8)(fv:(d==MK)=Wj)(hd:s.heap.get? d=Z {cls:=.type "dict",dict:=dd,data:=.dict es ep,slots:=sl})(Fn:s.heap.get? S=Z {cls:=.type "list",data:=.seq #[] c})(hz:es.size<=KG)(q:∀(h':Heap) (tk:Nat) (acc':Array h8) (c':Nat),(∀b o,b≠S->s.heap.get? b=Z o->h'.get? b=Z o)->h'.get? S=Z {cls:=.type "list",data:=.seq acc' c'}->acc'.toList=es.toList.map (·.key)->s.toks<=tk->R (.ok (.ret res)) {s with heap:=h',toks:=tk}):
 KN (model prog w) A.in1 (listExtendWith (.ref S) (.ref d) res) (λfin s'=>match fin with|.done f=>R (.ok f) s'|.again c'=>c'.quiet=F2/\Ob (model prog w) A c' R s') (λe s'=>R (.error e) s') s:=by
 have ty:s.TypeIs (.ref d) "dict":=⟨_,hd,rfl⟩;have G:S≠d:=λe=>by rw[e,hd]at Fn;simp at Fn
 have h1:listSameRef (.ref S) (.ref d)=Wj:=by simp[listSameRef,G]
 unfold listExtendWith;refine gV (OH ty ?_);rw[if_neg (by rw[h1];decide)]
 refine gV (Co fv hd ?_);refine gV (LH (xi (s:={s with heap:=s.heap.push (kO d 0 es.size ep)}) ⟨_,hQ _ hd,rfl⟩ ?_))
 have B:=B1 Fn;have J:=B1 hd;have W:=(walk (prog:=prog) (w:=w) (A:=A.in1) hn s.heap.objs.size d (Lg J) es ep).toS;have JJ:S∉[s.heap.objs.size,d]:=λhm=>by
  simp only[D1,Lb,or_false]at hm
  rcases hm with e|e
  ·exact absurd (e▸B) (LZ _)
  ·exact G e
 refine Qb (by decide +kernel) ?_
 refine gV (Mw ?_);unfold listTouch;have L:(s.heap.push (kO d 0 es.size ep)).get? S=Z (Uh "list" #[] c):=hQ _ Fn;refine gV (gV (Oz L rfl ?_ (by simp) (by simp)))
 have O:=NN L (λx=>x.push MY);refine Oz O rfl ?_ (by simp;decide) (by simp)
 have JK:=NN O (λx=>x.pop);have oth:∀b o,b≠S->s.heap.get? b=Z o->(((s.heap.push (kO d 0 es.size ep)).update S (N4 λx=>x.push MY)).update S (N4 λx=>x.pop)).get? b=Z o:=λb o U e=>by rw[LK _ _ _ _ U,LK _ _ _ _ U];exact hQ _ e
 have hit:(((s.heap.push (kO d 0 es.size ep)).update S (N4 λx=>x.push MY)).update S (N4 λx=>x.pop)).get? s.heap.objs.size=Z (kO d 0 es.size ep):=by rw[LK _ _ _ _ (LL B),LK _ _ _ _ (LL B)];exact A2 _ rfl
 refine tv ⟨TL QX _,codeAny_extend_loopS W hz _ JJ _ es.size 0 _ _ _ rfl (N7 _) ⟨hit,_,_,_,oth d _ G.symm hd⟩ JK (ItemsOf.nil _) λs' acc c' hm JL ha=>?_⟩;rw[hm.eq_with];refine q _ _ acc c' (λb o U e=>?_) JL ?_ hm.toks
 ·exact hm.heap b o (fun z=>by
   simp only[D1,Lb,or_false]at z
   rcases z with z|z
   ·exact U z
   ·exact absurd (z▸B1 e) (LZ _)) (oth b o U e)
 ·obtain⟨g1,g2⟩:=ha;apply MM;intro j;rw[LU,KL,LU]
  by_cases hj:j<es.size
  ·obtain⟨e,he,hv⟩:=g2 j (acc[j]'∅) (Mn ∅)
   rw[Mn ∅,hv,he];rfl
  ·rw[OM ∅,OM ∅];rfl
theorem collect_dict(L:A.handled=Y){Q:List h8->r0->Prop}(j:(d==MK)=Wj)(hd:s.heap.get? d=Z {cls:=.type "dict",dict:=dd,data:=.dict es ep,slots:=sl})(O:es.size<=KG)(q:∀(h':Heap) (tk:Nat),(∀b o,s.heap.get? b=Z o->h'.get? b=Z o)->s.toks<=tk->Q (es.toList.map (·.key)) {s with heap:=h',toks:=tk}):KN (model prog w) A (collect (.ref d)) Q E s:=by
 unfold collect;refine gV (wpAny_runValue (Oi SU ?_));unfold Mh.«proto.collect»;dsimp only;refine gV (QA ?_ (by simp))
 refine tv ⟨Rf _ (by decide +kernel),?_⟩
 refine Oi V1 ?_;unfold Mh.«list.__iadd__»;refine gV (Nq (a:=(Lu s.heap.objs.size,[Lu d])) (by kernel_rfl) ?_)
 have z:(s.heap.push {cls:=Lw "list",data:=OV [].toArray}).get? s.heap.objs.size=Z {cls:=Lw "list",data:=OV #[] 0}:=A2 _ rfl;rw[Ue (by rfl) (by rfl)]
 refine Md (zL (s:={s with heap:=s.heap.push {cls:=Lw "list",data:=OV [].toArray}}) (R:=λr s'=>r=.ok (.ret (.ref s.heap.objs.size))/\KN (model prog w) A (do
  let o <-load s.heap.objs.size
  match o.data with
  |.seq xs _=>pure xs.toList
  |_=>unsupported "internal:collect") Q E s') L (Lu s.heap.objs.size) j (hQ _ hd) z O λh' tk acc c' kp B U G=>⟨rfl,?_⟩) (λfn s' h=>?_) (λe s' h=>?_)
 ·refine gV (Vz B ?_);refine tv ?_;rw[U];exact q h' tk (λb o e=>kp b o (Lg (B1 e)) (hQ _ e)) G
 ·cases fn with
  |done f=>
   obtain⟨e,h⟩:=h
   cases e
   exact h
  |again c'=>refine⟨h.1,Nh h.2 λr s1 J=>?_⟩;obtain⟨rfl,J⟩:=J;exact J
 ·cases h.1
end
end Dk
namespace Mi
open L2.Srt
noncomputable def kj:RAd:=λds M Q=>∃a t kvs sh,ds=[.ref a]/\M a=Z (.dct t kvs)/\i3 sh=F2/\(∀kv∈kvs,hs sh kv.1=F2)/\kvs.length<=63/\∀p ys,M p=Y->ys.Perm (kvs.map (·.1))->gd ys->Q (.ref p) (ag M p (.lst ys))
theorem km:aM kj:=λ_ _ _ _ h j=>(by obtain⟨a,t,kvs,sh,e,e1,e2,z,B,q⟩:=j;exact⟨a,t,kvs,sh,e,e1,e2,z,B,λp ys n F hs=>h _ _ (q p ys n F hs)⟩)
theorem sJ{K:Frag}{H:Hp}:∀{kvs:List (D×D)} {es:List LW},Me (lM K H) kvs es->∃vs,RDs K H (kvs.map (·.1)) vs/\Vals vs (es.map (·.key))
 |_,_,.nil=>⟨[],RDs.nil,.nil⟩
 |_,_,.cons r t=>by obtain⟨vs,h1,h2⟩:=sJ t;obtain⟨kV,vV,g1,g2,_,_⟩:=r;exact⟨kV::vs,RDs.cons g1 h1,.cons g2 h2⟩
section
variable{X:Cx}
theorem qr(L:X.A.units+16<Ol)(O:X.calm=F2):CallR X (.builtin "sorted") (lR X.K kj):=by
 intro pins s σ H xs us Q I r h;obtain⟨ds,M,rm,rs,a,t,kvs,sh,rfl,e,hok,j,U,q⟩:=h;obtain⟨v,rfl,rv⟩:=rs.one;obtain⟨u,rfl,ru⟩:=fN r
 cases W0.mp rv
 cases(show u=Lu a from ru)
 obtain⟨cd,dd,sl,es,ep,hd,Fn,z,fv⟩:=sH I rm e;obtain⟨t1,t2,B⟩:=jH I fv;obtain⟨vs,h1,h2⟩:=sJ z;have F:cd=.type "dict":=by obtain⟨o,g1,g2⟩:=t1;rw[hd]at g1;cases g1;exact g2
 subst F;have hn:X.A.in1.handled=Y:=I.ok.hd O;exact rM j6 L I rm h1 hok (λd hd=>by obtain⟨kv,G,rfl⟩:=D2.mp hd;exact j kv G) q h2 (by have:=h2.length;rw[m1]at this;simp at this;lia) (by have:=h2.length;rw[m1]at this;have h9:=h1.length;rw[m1]at h9;lia) λE R hR=>Dk.collect_dict hn B hd Fn λh' tk kp J=>hR h' tk kp J
end
end Mi
namespace Mi
end Mi
namespace Mi
end Mi
namespace Mi
end Mi
namespace Mi
section
variable{X:Cx}
def dI(M:Mem)(a:Wk)(kvs:List (D×D)):Prop:=(M a=Z (.dct F2 kvs)∨M a=Z (.fdc kvs))/\∀kv∈kvs,∃i,kv.2=.int i
theorem dI.at{K:Frag}{M:Mem}{H:Hp}{a:Wk}{kvs:List (D×D)}(rm:RM K M H)(h:dI M a kvs):∃ps,Rd H a (.dT ps)/\Me (λ(p:D×D) (q:List Key×V)=>RKeys p.1 q.1/\RD K H p.2 q.2) kvs ps:=by
 rcases h.1 with e|e
 ·obtain⟨ps,j,pr⟩:=rm a _ e;exact⟨ps,.inl j,pr⟩
 ·obtain⟨o,ps,j,pr⟩:=rm a _ e;exact⟨ps,.inr ⟨o,j⟩,pr⟩
end
section
section
variable{lt:Nat->Nat->Bool}{prog:L4}{w:Lq}{A:Lv}{R:U3->r0->Prop}{I:Wk}{fp wr:List Wk}{n:Nat}{P:Nat->h8->Prop}{St:Nat->Heap->Prop}{h0:Heap}{S:Wk}
def Kpt(wr:List Wk)(S:Wk)(h h':Heap):Prop:=∀b o,b∉wr->b≠S->h.get? b=Z o->h'.get? b=Z o
theorem Kpt.trans{wr:List Wk}{S:Wk}{a b c:Heap}(h:Kpt wr S a b)(g:Kpt wr S b c):Kpt wr S a c:=λx o h1 h2 e=>g x o h1 h2 (h x o h1 h2 e)
end
end
end Mi
section
section
variable{X:Cx}
noncomputable def sK:V->List V->Hp->VK->Prop:=λx vs H Q=>∃(l:Wk) (xs:List V) (i:Int) (y:V),x=.ref l/\vs=[.int i,y]/\H l=Z (.lst xs)/\0<=i/\i.toNat<=xs.length/\xs.length<KG/\Q .non (upd H l (.lst (xs.take i.toNat++y::xs.drop i.toNat)))
theorem Wg:∀{xs:List V} {us:List h8} (n:Nat),Vals xs us->Vals (xs.take n) (us.take n)
 |_,_,0,_=>by simp only[List.take_zero];exact .nil
 |_,_,_+1,.nil=>.nil
 |_,_,n+1,.cons r t=>.cons r (Wg n t)
theorem We:∀{xs:List V} {us:List h8} (n:Nat),Vals xs us->Vals (xs.drop n) (us.drop n)
 |_,_,0,r=>r
 |_,_,_+1,.nil=>.nil
 |_,_,n+1,.cons _ t=>We n t
theorem xj:MtM X "list.insert" sK:=by
 intro pins s σ H x vs v us Q I rx rv h;obtain⟨l,xs,i,y,rfl,rfl,B,h0,J,G,q⟩:=h
 cases rx
 obtain⟨u,u2,rfl,ru,j⟩:=AE rv;obtain⟨t,rfl⟩:=ru;obtain⟨z,its,n,r,L,e⟩:=I.lstM B;have hf:¬(!Builtin.List.listFitsIndex i)=F2:=by
  have:Ri i=F2:=by unfold Ri;rw[A0]at G;rw[p0];exact⟨decide_eq_true ∅,decide_eq_true ∅⟩
  rw[this];decide
 have hs:its.toArray.size<=KG:=by rw[KJ];lia
 have mt:=PySem.AutoSeq1.list_insert_list_int_val_1 l its.toArray n i t u2 hf hs;refine Qn RJ ⟨_,e,rfl⟩ PySem.F.entry_list_insert (PySem.F.args_list_insert_3 _ _ _) mt ⟨e,?_⟩;refine⟨.non,_,I.lset (its':=its.take i.toNat++u2::its.drop i.toNat) B e ?_ ((Wg i.toNat r).append (.cons j (We i.toNat r))) ?_,rfl,q⟩
 ·have hm:(if i<0 then(i+(its.toArray.size:Int)).toNat else min i.toNat its.toArray.size)=i.toNat:=by
   rw[if_neg ∅,KJ];lia
  show(its.toArray.extract 0 (if i<0 then(i+(its.toArray.size:Int)).toNat else min i.toNat its.toArray.size)).push u2++its.toArray.extract (if i<0 then(i+(its.toArray.size:Int)).toNat else min i.toNat its.toArray.size)=_
  rw[hm];apply Array.ext';simp only[List.extract_toArray,List.push_toArray,List.append_toArray];simp[OK]
 ·rw[B0,La,Ll,N6];lia
end
namespace Mi
noncomputable def iH:D->List D->Mem->QD->Prop:=λx ds M Q=>∃(a:Wk) (xs:List D) (i:Int) (y:D),x=.ref a/\ds=[.int i,y]/\M a=Z (.lst xs)/\0<=i/\i.toNat<=xs.length/\xs.length<KG/\Q .non (ag M a (.lst (xs.take i.toNat++y::xs.drop i.toNat)))
theorem j7:jR iH:=λ_ _ _ _ _ h j=>(by obtain⟨a,xs,k,y,e1,e2,B,F,z,G,q⟩:=j;exact⟨a,xs,k,y,e1,e2,B,F,z,G,h _ _ q⟩)
theorem zM{K:Frag}(v:V)(vs:List V)(H:Hp)(Q:VK)(h:lMt K iH v vs H Q):sK v vs H Q:=by
 obtain⟨x,ds,M,rm,rx,rs,a,xs,i,y,rfl,rfl,e,j,z,B,q⟩:=h
 cases W0.mp rx
 obtain⟨J,w,rfl,F,rw'⟩:=rs.two
 cases VZ.mp F
 obtain⟨us,G,ru⟩:=rm _ _ e;exact⟨a,us,i,w,rfl,rfl,G,j,by rw[ru.length];exact z,by rw[ru.length];exact B,lD rm e ((ru.take i.toNat).append (RDs.cons rw' (ru.drop i.toNat))) (W6.mpr rfl) q⟩
end Mi
end
namespace Mi
section
section
variable{X:Cx}
noncomputable def uE:R2d
 |.int i,y,M,Q=>∃ns:List Int,aF M y=Z (ns.map .int)/\Q (.bl (decide (i∈ns))) M
 |_,_,_,_=>False
theorem zN:aG uE:=by
 intro x y M Q Q' h q
 cases x<;>first
  |exact q.elim
  |(obtain⟨ns,e,q⟩:=q;exact⟨ns,e,h _ _ q⟩)
theorem qt{i:Int}:∀ns:List Int,inV (.int i) (ns.map V.int)=decide (i∈ns)
 |[]=>by simp[inV]
 |n::ns=>by
  have ih:=qt (i:=i) ns;unfold inV at ih⊢;rw[KI,N8,ih];show(n==i || decide (i∈ns))=_
  by_cases h:n=i
  ·subst h;simp
  ·rw[show(n==i)=Wj by simpa using h]
   simp only[Qz,D1];exact decide_eq_decide.mpr ⟨.inr,λz=>z.resolve_left λw=>h w.symm⟩
theorem zO:OpR X (Na .In) (l2 X.K uE):=by
 refine OpR.of vM λv u H Q h=>?_;obtain⟨x,y,M,rm,rx,ry,q⟩:=h
 cases x<;>first
  |exact q.elim
  |skip
 case int i=>
  obtain⟨ns,e,q⟩:=q;obtain⟨p,vs,rfl,hs,r⟩:=wf rm ry e;have rv:=r.ints_eq;subst rv
  cases VZ.mp rx
  refine⟨p,_,rfl,hs,rfl,?_,?_⟩
  ·simp[dH]
  ·rw[if_neg B2,qt];exact q _ H Ext.refl rm (W2.mpr rfl)
end
end
section
section
variable{X:Cx}
def DF(M:Mem)(a:Wk)(t:Bool)(kvs:List (D×D)):Prop:=M a=Z (.dct t kvs)∨(t=F2/\M a=Z (.fdc kvs))
noncomputable def uF(neg:Bool):R2d:=λk x M Q=>∃a t kvs,x=.ref a/\DF M a t kvs/\eJ t k=F2/\Q (.bl (if neg then !(dget kvs k).isSome else(dget kvs k).isSome)) M
theorem zP{neg:Bool}:aG (uF neg):=λ_ _ _ _ _ h j=>(by obtain⟨a,t,kvs,e1,e2,z,q⟩:=j;exact⟨a,t,kvs,e1,e2,z,h _ _ q⟩)
theorem EC{K:Frag}{M:Mem}{H:Hp}{a:Wk}{t:Bool}{kvs:List (D×D)}{k:D}{v:V}(rm:RM K M H)(e:DF M a t kvs)(ok:eJ t k=F2)(rk:RD K H k v):∃o,DGet H a v o/\o.isSome=(dget kvs k).isSome:=by
 have:∃o,DGet H a v o/\(∀d,dget kvs k=Z d->∃w,o=Z w/\RD K H d w)/\(dget kvs k=Y->o=Y):=by
  rcases e with e|⟨rfl,e⟩
  ·exact lr rm e ok rk
  ·obtain⟨ob,ps,j,pr⟩:=rm a _ e;exact pY (.inr ⟨ob,j⟩) pr ok rk
 obtain⟨o,g,g1,g2⟩:=this;refine⟨o,g,?_⟩
 cases h:dget kvs k with
 |none=>rw[g2 h];rfl
 |some d=>obtain⟨w,rfl,_⟩:=g1 d h;rfl
theorem xk(j:X.A.units+1<Ol):OpR X (Na .NotIn) (l2 X.K (uF F2)):=by
 intro pins s σ H y x u v Q I ry rx h;obtain⟨dk,dx,M,rm,rk,rd,a,t,kvs,rfl,e,ok,q⟩:=h
 cases W0.mp rd
 cases rx
 obtain⟨o,g,ho⟩:=EC rm e ok rk;exact Bt j I g ry λs' I'=>⟨.bl (!o.isSome),H,I',rfl,by rw[ho];exact q _ H Ext.refl rm (W2.mpr rfl)⟩
end
end
end Mi
namespace Mi
end Mi
namespace Mi
open L2.Srt
end Mi
namespace Srt
open AutoSeq1 (wpAny_loadPart')
open MeetsSeq MeetsSeq2 MeetsSeq3
end Srt
namespace Srt
end Srt
namespace Mi
open L2.Srt
end Mi
section
theorem KT.drop(r:KT H kvs xs)(k:List Key):KT H (nW kvs k) (xs.filter λx=>decide (x.1≠k)):=by
 unfold nW
 induction r with
 |nil=>exact .nil
 |@cons p q ps qs h t ih=>
  obtain⟨h1,h2,j⟩:=h
  by_cases e:p.1=k
  ·rw[ND (by simp[e]),ND (by simp[h1.symm.trans e])];exact ih
  ·rw[NF (by simp[e]),NF (by simpa usingλz=>e (h1.trans z))];exact .cons ⟨h1,h2,j⟩ ih
namespace Mi
end Mi
end
namespace Mi
end Mi
namespace Mi
end Mi
namespace It
end It
namespace Mi
end Mi
section
section
variable{X:Cx}
noncomputable def Gi(K:Frag)(te:TE)(ts:TO):TE:=λσ H Q=>te σ H λx H1=>ts σ H1 λst H3=>∃a xs,x=.ref a/\SqL K H3 a xs/\st=Z (-1)/\∀q,H3 q=Y->Q (.ref q) (upd H3 q (.lst xs.reverse))
theorem Cp{st:Expr}{ts:TO}(he:PE X e te)(hs:PO X (Z st) ts):PE X (.Subscript e (.Slice Y Y (Z st) p2) pos) (Gi X.K te ts):=by
 intro pins s σ H Q I h;refine VC (thn (he pins s σ H _ I h) λv s1 j=>?_);obtain⟨x,H1,G,J,L⟩:=j;refine wpAny_Slice ?_;rw[TJ];refine tv ?_;refine tv (thn (hs pins s1 σ H1 _ G L) λvs s3 j=>?_);obtain⟨u,O,U,ps,Fn⟩:=j;have B:Inv X pins σ O {s3 with heap:=s3.heap.push {cls:=.type "slice",data:=.fields #[.none,.none,vs]}}:=U.kept (t':=s3.toks) λb ob q=>hQ _ q
 obtain⟨a,xs,rfl,sq,rfl,q⟩:=Fn
 cases J
 obtain⟨its,r,F,fv⟩:=B.list sq;have hlen:=r.length;show KN (model X.prog X.w) X.A (TK e (.Slice Y Y (Z st) p2) (.ref a) (.ref s3.heap.objs.size)) (EP X pins σ Q) X.xe {s3 with heap:=s3.heap.push {cls:=.type "slice",data:=.fields #[.none,.none,vs]}}
 refine tail_any (ops:=[.ref a,.ref s3.heap.objs.size]) F.isList.typeIs slot_list_getitem.lookup ?_ (by with_unfolding_all rfl)
 refine RC F.isList (U8 ..) .none .none ps (by intro z;have:=Ml.inj z;lia) ?_ (by rw[KJ]<;>lia)
 rw[PySem.W.krv_pick];refine⟨.ref _,_,B.laid (t':=s3.toks) (o:=.lst xs.reverse) (λb ob q=>hQ _ q) (KO _) ?_,rfl,q _ (B.hok.fresh (KO _))⟩;refine⟨by rw[Pz];exact fv,_,0,?_,A2 _ rfl⟩
 exact r.reverse
noncomputable def Gj:R2:=λx y H Q=>∃l b xs zs,x=.ref l/\y=.ref b/\H l=Z (.lst xs)/\H b=Z (.lst zs)/\xs.length+zs.length<=KG/\Q (.ref l) (upd H l (.lst (xs++zs)))
theorem Gk{M:QU}{E:h8->r0->Prop}{a b:h8}{Q:h8->r0->Prop}(B:s.TypeIs a "list")(L:s.TypeIs b "list")(O:KN M A (call (.builtin "list.__iadd__") [a,b]) Q E s):KN M A (NW .Add a b) Q E s:=by
 unfold NW;refine LH ?_;have G:U7 (.type "list") (dunderI "add")=pure (Z (.builtin "list.__iadd__")):=PySem.F.slot_list_iadd.lookup;have J:isSeqSlot (Z (.builtin "list.__iadd__"))=F2:=by decide +kernel
 have j:V4 (.type "list") "add" (Operator.Add==.Add)=pure Wj:=by unfold V4;show(U7 (.type "list") (dunderI "add")>>=λfi=>pure (fi.isSome && !isSeqSlot fi))=pure Wj;rw[G,UQ,J];rfl
 have z:seqSlot? (.type "list") (dunderI "add")=pure (Z (.builtin "list.__iadd__")):=PySem.seqSlot_of G J;refine gV (OH B (gV (Nq j ?_)));show KN M A (if Wj=F2 then _ else _) Q E s
 rw[if_neg B2];refine gV (PySem.wpAny_binaryOp1_none (nm:="add") B L PySem.noFill_list_add ?_);refine gV (Nq z ?_);exact gV (Mw O)
theorem Cq:OpR X (NW .Add) Gj:=by
 intro pins s σ H x y v u Q I rx ry h;obtain⟨l,b,xs,zs,rfl,rfl,G,J,Fn,q⟩:=h
 cases rx
 cases ry
 obtain⟨z,its,n,r,fv,e⟩:=I.lstM G;obtain⟨z2,j,L,O,U,e2⟩:=I.lstM J;have hsz:its.toArray.size+j.toArray.size<=KG:=by rw[KJ,KJ];lia
 have B:¬(!its.toArray.isEmpty&&Ox (its.toArray.size+j.toArray.size))=F2:=by rw[pE hsz,Bool.and_false];exact B2
 refine Gk ⟨_,e,rfl⟩ ⟨_,e2,rfl⟩ (Qn PySem.F.slot_list_iadd ⟨_,e,rfl⟩ PySem.F.entry_list_iadd (PySem.F.args_list_iadd_2 _ _)
  (AutoSeq1.list___iadd___list_list_0 l its.toArray n b j.toArray L B (by rw[KJ];lia) ∅) ⟨e,e2,?_⟩)
 refine⟨.ref l,_,I.lset (its':=its++j) G e (by simp) (r.append O) ?_,rfl,q⟩
 rw[B0];lia
noncomputable def Hx(ta tb:TE)(K:Frag):TE:=λσ H Q=>ta σ H λx H1=>∃a xs,x=.ref a/\SqL K H1 a xs/\if xs.isEmpty=F2 then tb σ H1 Q else Q (.ref a) H1
theorem ED{a b:Expr}{ta tb:TE}(G:PE X a ta)(J:PE X b tb):PE X (.BoolOp .Or [a,b] pos) (Hx ta tb X.K):=by
 intro pins s σ H Q I h;refine BoolOp_or (thn (G pins s σ H _ I h) λv s1 z=>?_);obtain⟨x,H1,L,B,j⟩:=z;obtain⟨c,xs,rfl,sq,j⟩:=j;refine thn (vH pins s1 σ H1 (.ref c) v (λk H'=>H'=H1/\k = !xs.isEmpty) L B ⟨_,.inl ⟨xs,sq,rfl⟩,rfl,rfl⟩) λk s2 z=>?_;obtain⟨H2,F,e,ek⟩:=z;subst e ek
 cases hx:xs.isEmpty with
 |true=>rw[hx,if_pos rfl]at j;exact BoolOp_one (J pins s2 σ H2 Q F j)
 |false=>rw[hx,if_neg B2]at j;exact⟨.ref c,H2,F,B,j⟩
end
namespace Mi
variable{ta:TEd}
section
variable{X:Cx}
noncomputable def oH(te:TEd)(ts:TOd):TEd:=λρ M Q=>te ρ M λx M1=>ts ρ M1 λu M3=>∃a ds,x=.ref a/\M3 a=Z (.lst ds)/\u=Z (-1)/\∀q,M3 q=Y->Q (.ref q) (ag M3 q (.lst ds.reverse))
theorem xl{te:TEd}{ts:TOd}(m:ad te)(mh:dM ts):ad (oH te ts):=λρ M Q Q' i q=>m _ _ _ _ (λx G j=>mh _ _ _ _ (λu J z=>(by obtain⟨a,ds,e1,e2,B,F⟩:=z;exact⟨a,ds,e1,e2,B,λp n=>i _ _ (F p n)⟩)) j) q
theorem Cr{e hi:Expr}{th:TOd}{p2 pos:Pos}(m:ad ta)(mh:dM th)(he:PE X e (lE X.K ta))(O:PO X (Z hi) (lO X.K th)):
 PE X (.Subscript e (.Slice Y Y (Z hi) p2) pos) (lE X.K (oH ta th)):=by
 refine PE.imp (Cp he O) λσ H Q h=>?_;obtain⟨ρ,M,rs,rm,q⟩:=h;refine⟨ρ,M,rs,rm,m _ _ _ _ (λx U Fn v H1 J j B=>?_) q⟩;refine⟨ρ,U,rs.mono (J.stab rm),j,mh _ _ _ _ (λu M3 F H3 L z=>?_) Fn⟩;have G:=B.mono (L.stab j);obtain⟨a,ds,rfl,e,rfl,F⟩:=F
 cases W0.mp G
 obtain⟨vs,fv,r⟩:=z _ _ e;exact⟨a,vs,rfl,SqL.of fv,rfl,λp' n=>bV z r.reverse (λp' n'=>(F p' n').ext (J.trans L)) n⟩
noncomputable def oI:R2d:=λx y M Q=>∃a b xs ys,x=.ref a/\y=.ref b/\M a=Z (.lst xs)/\M b=Z (.lst ys)/\xs.length+ys.length<=KG/\Q (.ref a) (ag M a (.lst (xs++ys)))
theorem nA:aG oI:=λ_ _ _ _ _ h j=>(by obtain⟨a,b,xs,y,e1,e2,B,F,z,q⟩:=j;exact⟨a,b,xs,y,e1,e2,B,F,z,h _ _ q⟩)
theorem xm:OpR X (NW .Add) (l2 X.K oI):=by
 refine OpR.of Cq λv u H Q h=>?_;obtain⟨x,y,M,rm,rx,ry,a,b,xs,ys,rfl,rfl,e1,e2,z,q⟩:=h
 cases W0.mp rx
 cases W0.mp ry
 obtain⟨us,j,ru⟩:=rm _ _ e1;obtain⟨ws,B,rw'⟩:=rm _ _ e2;exact⟨a,b,us,ws,rfl,rfl,j,B,by rw[ru.length,rw'.length];exact z,lD rm e1 (ru.append rw') (W0.mpr rfl) q⟩
noncomputable def uG(ta tb:TEd):TEd:=λρ M Q=>ta ρ M λx M1=>∃a xs,x=.ref a/\M1 a=Z (.lst xs)/\if xs.isEmpty=F2 then tb ρ M1 Q else Q (.ref a) M1
theorem zQ{tb:TEd}(h:ad ta)(k:ad tb):ad (uG ta tb):=λρ M Q Q' i q=>h _ _ _ _ (λx z ⟨a,xs,e,e1,j⟩=>⟨a,xs,e,e1,by
 cases hx:xs.isEmpty with
 |true=>rw[hx,if_pos rfl]at j;rw[if_pos rfl];exact k _ _ _ _ i j
 |false=>rw[hx,if_neg B2]at j;rw[if_neg B2];exact i _ _ j⟩) q
theorem EE{a b:Expr}{tb:TEd}{pos:Pos}(ma:ad ta)(mb:ad tb)(G:PE X a (lE X.K ta))(J:PE X b (lE X.K tb)):PE X (.BoolOp .Or [a,b] pos) (lE X.K (uG ta tb)):=by
 refine PE.imp (ED G J) λσ H Q h=>?_;obtain⟨ρ,M,rs,rm,q⟩:=h;refine⟨ρ,M,rs,rm,ma _ _ _ _ (λx L g9 v H1 B j rd1=>?_) q⟩;obtain⟨c,xs,e,e1,z⟩:=g9;subst e
 cases W0.mp rd1
 obtain⟨us,O,ru⟩:=j _ _ e1;refine⟨c,us,rfl,SqL.of O,?_⟩;have F:=ru.length
 cases hx:xs.isEmpty with
 |true=>
  have:us.isEmpty=F2:=by rw[List.isEmpty_iff]at hx⊢;subst hx;exact OE F
  rw[hx,if_pos rfl]at z;rw[this,if_pos rfl];exact⟨ρ,L,rs.mono (B.stab rm),j,mb _ _ _ _ (λd M2 k=>k.ext B) z⟩
 |false=>
  have:us.isEmpty=Wj:=by
   cases us with
   | nil=>cases xs with
     |nil=>cases hx
     |cons _ _=>cases F
   |cons _ _=>rfl
  rw[hx,if_neg B2]at z;rw[this,if_neg B2];exact z _ H1 B j (W0.mpr rfl)
end
end Mi
end
namespace Mi
open L2.Srt
end Mi
namespace Mi
end Mi
namespace Mi
end Mi
namespace Mi
variable{K:Frag}
section
mutual
noncomputable def GV(K:Frag):D->h8->Prop
 |.int i,v=>∃t,v=.int i t
 |.str x,v=>∃t,v=.str x t
 |.tup ds,v=>∃a o its n,v=.ref a/\K.lookup a=Z o/\o.cls=.type "tuple"/\o.data=.seq its n/\its.size<=KG/\fk ds=Wj/\GVs K ds its.toList
 |_,_=>False
noncomputable def GVs(K:Frag):List D->List h8->Prop
 |[],us=>us=[]
 |d::ds,us=>∃u r,us=u::r/\GV K d u/\GVs K ds r
end
theorem GV.ints{i:Int}{t}:GV K (.int i) (.int i t):=by unfold GV;exact⟨t,rfl⟩
theorem GV.tups{ds:List D}{a:Wk}{od sl}{its:Array h8}{n:Nat}(h:K.lookup a=Z ⟨.type "tuple",od,.seq its n,sl⟩)(j:its.size<=1000)(f:fk ds=Wj)(r:GVs K ds its.toList):GV K (.tup ds) (.ref a):=by unfold GV;exact⟨a,_,its,n,rfl,h,rfl,rfl,by rw[A0];lia,f,r⟩
theorem GVs.nil:GVs K [] []:=by unfold GVs;rfl
theorem GVs.cons{K:Frag}{d:D}{ds:List D}{u:h8}{us:List h8}(h:GV K d u)(r:GVs K ds us):GVs K (d::ds) (u::us):=by unfold GVs;exact⟨u,us,rfl,h,r⟩
end
end Mi
namespace Mi
end Mi
namespace Mi
variable{f:Nat}{cs js:List Nat}{P:Wk}{pos:Pos}
section
inductive BOp where|add|sub|mul|fdiv|mod|pow|ext
inductive COp where|eq|ne|lt|gt|ge|inS|ninD
inductive BF where|len|abs|max2|int|list|tuple|sorts
inductive MF where|append
set_option genCtorIdx false
set_option genInjectivity false
mutual
inductive MG where
 |name (i:Nat)
 |tup (gs:MGs)
inductive MGs where
 |nil
 |cons (g:MG) (r:MGs)
end
mutual
inductive ME where
 |var (i:Nat)
 |int (i:Int)
 |bl (b:Bool)
 |non
 |bin (op:BOp) (a b:ME)
 |neg (a:ME)
 |cmp (op:COp) (a b:ME)
 |and (es:MEs)
 |or (es:MEs)
 |not (a:ME)
 |ite (c:MT) (a b:ME)
 |tup (es:MEs)
 |lst (es:MEs)
 |ix (a b:ME)
 |sl (a:ME) (lo hi:MO)
 |call (f:Nat) (es:MEs)
 |callC (i:Nat) (es:MEs)
 |callL (f:Nat) (es:MEs) (j:Nat) (cs js:List Nat) (P:Wk) (pos:Pos) (q:Str)
 |blt (f:BF) (es:MEs)
 |lrng (a:ME)
 |lrng2 (a b:ME)
 |dnew (t:Bool)
 |sortI (a:ME)
 |dget (o k x:ME)
 |meth (m:MF) (o a:ME)
 |ins (o i a:ME)
 |comp (fr:List (Option Nat)) (N:List Str) (c:MC)
 |revS (a st:ME)
 |orL (a b:ME)
inductive MEs where
 |nil
 |cons (e:ME) (r:MEs)
inductive MO where
 |none
 |some (e:ME)
inductive MT where
 |tru (e:ME)
 |cmp (op:COp) (a b:ME)
 |and (ts:MTs)
 |or (ts:MTs)
 |not (t:MT)
inductive MTs where
 |nil
 |cons (t:MT) (r:MTs)
inductive MI where
 |seq (e:ME)
 |rng1 (a:ME)
 |rng2 (a b:ME)
 |zip (a b:ME)
 |zip3 (a b c:ME)
 |enum (a:ME)
 |rev (a:ME)
inductive MC where
 |last (src:MI) (g:MG) (ifs:MTs) (elt:ME)
 |more (src:MI) (g:MG) (ifs:MTs) (rest:MC)
end
mutual
inductive MS where
 |asg (g:MG) (e:ME)
 |asgL (gs:MGs) (e:ME)
 |par (i j:Nat) (a b:ME)
 |put (o i e:ME)
 |aug (i:Nat) (op:BOp) (e:ME)
 |augI (o i:ME) (op:BOp) (e:ME)
 |drop (e:ME)
 |ret (e:ME)
 |ite (c:MT) (a b:MSs)
 |for (g:MG) (src:MI) (b:MSs)
 |while (c:MT) (b:MSs)
 |pass|brk|cnt
inductive MSs where
 |nil
 |cons (s:MS) (r:MSs)
end
set_option genCtorIdx true
set_option genInjectivity true
noncomputable def opB:BOp->R2d
 |.add=>eZ|.sub=>pQ|.mul=>fV|.fdiv=>jM|.mod=>pS|.pow=>pT|.ext=>eZ
noncomputable def opC:COp->R2d
 |.eq=>wEq|.ne=>wNe|.lt=>wLt| .gt=>wGt|.ge=>wGe| .inS=>uE| .ninD=>uF F2
noncomputable def opF:BF->RAd
 |.len=>fW| .abs=>lv|.max2=>jO| .int=>lw|.list=>og|.tuple=>jP| .sorts=>kj
noncomputable def opM:MF->D->List D->Mem->QD->Prop
 |.append=>iy
noncomputable def opI:BOp->R2d
 |.add=>jX|.sub=>jY|.mul=>jZ|.ext=>oI|_=>λ_ _ _ _=>False
theorem qv:∀o,aG (opB o)
 |.add=>pU|.sub=>yS|.mul=>yT|.fdiv=>wd|.mod=>yU|.pow=>yV|.ext=>pU
theorem gf:∀o,aG (opC o)
 |.eq=>BN|.ne=>BO|.lt=>BS| .gt=>BU|.ge=>BV| .inS=>zN| .ninD=>zP
theorem zR:∀o,aM (opF o)
 |.len=>q8| .abs=>q9|.max2=>mP| .int=>qa|.list=>mQ|.tuple=>jQ| .sorts=>km
theorem zS:∀o,jR (opM o)
 |.append=>j3
theorem qw:∀o,aG (opI o)
 |.add=>gZ|.sub=>hJ|.mul=>hW|.ext=>nA
 |.fdiv=>λ_ _ _ _ _ _ q=>q.elim|.mod=>λ_ _ _ _ _ _ q=>q.elim|.pow=>λ_ _ _ _ _ _ q=>q.elim
noncomputable abbrev Phi:=Nat->RAd
mutual
noncomputable def bG:MG->BT
 |.name i=>cr i
 |.tup gs=>zi (bGs gs)
noncomputable def bGs:MGs->BTs
 |.nil=>je
 |.cons g r=>cF (bG g) (bGs r)
end
noncomputable def ko(Φ:Phi)(i:Nat)(t:TAd):TEd:=λρ M Q=>∃a,ρ[i]?=Z (Z (.ref a))/\wAr (Φ (5000+a)) t ρ M Q
theorem uH{Φ:Phi}{i:Nat}{t:TAd}(hΦ:∀f,aM (Φ f))(mt:aL t):ad (ko Φ i t):=λρ M Q Q' h g9=>(by obtain⟨a,e,q⟩:=g9;exact⟨a,e,fA (hΦ _) mt _ _ _ _ h q⟩)
noncomputable def lN(cs:List Nat)(ρ:aw):Option (List D):=cs.mapM λc=>(ρ[c]?).join
noncomputable def ku(Φ:Phi)(f:Nat)(t:TAd)(j:Nat)(cs js:List Nat)(P:Wk)(pos:Pos)(q:Str):TEd:=λρ M Q=>∃gs,lN cs ρ=Z gs/\t ρ M λds M1=>M1 P=Z (.tab pos q)/\∀a,M1 a=Y->Φ (1000+f) (ds++[.ref a,.int j,.tup gs,.tup (js.map λi:Nat=>.int i)]) M1 Q
theorem uI{Φ:Phi}{t:TAd}{j:Nat}{q:Str}(hΦ:∀f,aM (Φ f))(mt:aL t):ad (ku Φ f t j cs js P pos q):=λρ M Q Q' h g9=>(by obtain⟨gs,e,z⟩:=g9;exact⟨gs,e,mt _ _ _ _ (λds B y=>⟨y.1,λa n=>hΦ _ _ _ _ _ h (y.2 a n)⟩) z⟩)
mutual
noncomputable def wE(Φ:Phi):ME->TEd
 |.var i=>dD i
 |.int i=>wC (.int i)
 |.bl b=>wC (.bl b)
 |.non=>wC .non
 |.bin op a b=>wOp (opB op) (wE Φ a) (wE Φ b)
 |.neg a=>wUn pW (wE Φ a)
 |.cmp op a b=>wOp (opC op) (wE Φ a) (wE Φ b)
 |.and es=>wAnds Φ es
 |.or es=>wOrs Φ es
 |.not a=>om (wE Φ a)
 |.ite c a b=>wIf (wT Φ c) (wE Φ a) (wE Φ b)
 |.tup es=>wAr u8 (wA Φ es)
 |.lst es=>wAr u9 (wA Φ es)
 |.ix a b=>wOp wIx (wE Φ a) (wE Φ b)
 |.sl a lo hi=>wSl (wE Φ a) (wO Φ lo) (wO Φ hi)
 |.call f es=>wAr (Φ f) (wA Φ es)
 |.callC i es=>ko Φ i (wA Φ es)
 |.callL f es j cs js P pos q=>ku Φ f (wA Φ es) j cs js P pos q
 |.blt f es=>wAr (opF f) (wA Φ es)
 |.lrng a=>nZ (wE Φ a)
 |.lrng2 a b=>jS (au (wE Φ a) (au (wE Φ b) aW))
 |.dnew t=>oA t
 |.sortI a=>ki (wE Φ a)
 |.dget o k x=>oE (wE Φ o) (wE Φ k) (wE Φ x)
 |.meth m o a=>wBM (opM m) (wE Φ o) (au (wE Φ a) aW)
 |.ins o i a=>wBM iH (wE Φ o) (au (wE Φ i) (au (wE Φ a) aW))
 |.comp fr _ c=>wCmp Φ fr c
 |.revS a st=>oH (wE Φ a) (iw (wE Φ st))
 |.orL a b=>uG (wE Φ a) (wE Φ b)
noncomputable def wA(Φ:Phi):MEs->TAd
 |.nil=>aW
 |.cons e r=>au (wE Φ e) (wA Φ r)
noncomputable def wAnds(Φ:Phi):MEs->TEd
 |.nil=>λ_ _ _=>False
 |.cons e .nil=>wE Φ e
 |.cons e (.cons f r)=>oj (wE Φ e) (wAnds Φ (.cons f r))
noncomputable def wOrs(Φ:Phi):MEs->TEd
 |.nil=>λ_ _ _=>False
 |.cons e .nil=>wE Φ e
 |.cons e (.cons f r)=>uf (wE Φ e) (wOrs Φ (.cons f r))
noncomputable def wO(Φ:Phi):MO->TOd
 |.none=>iu
 |.some e=>iw (wE Φ e)
noncomputable def wT(Φ:Phi):MT->TTd
 |.tru e=>ud (wE Φ e)
 |.cmp op a b=>fU (wOp (opC op) (wE Φ a) (wE Φ b))
 |.and ts=>wAndTs Φ ts
 |.or ts=>wOrTs Φ ts
 |.not t=>oh (wT Φ t)
noncomputable def wAndTs(Φ:Phi):MTs->TTd
 |.nil=>λ_ _ _=>False
 |.cons e .nil=>wT Φ e
 |.cons e (.cons f r)=>oi (wT Φ e) (wAndTs Φ (.cons f r))
noncomputable def wOrTs(Φ:Phi):MTs->TTd
 |.nil=>λ_ _ _=>False
 |.cons e .nil=>wT Φ e
 |.cons e (.cons f r)=>ue (wT Φ e) (wOrTs Φ (.cons f r))
noncomputable def wTl(Φ:Phi):MTs->List TTd
 |.nil=>[]
 |.cons t r=>wT Φ t::wTl Φ r
noncomputable def wI(Φ:Phi):MI->TId
 |.seq e=>qd (wE Φ e)
 |.rng1 a=>oo (au (wE Φ a) aW)
 |.rng2 a b=>ot (au (wE Φ a) (au (wE Φ b) aW))
 |.zip a b=>lH (wE Φ a) (wE Φ b)
 |.zip3 a b c=>iA (wE Φ a) (wE Φ b) (wE Φ c)
 |.enum a=>ou (wE Φ a)
 |.rev a=>oF (wE Φ a)
noncomputable def wCl(Φ:Phi):MC->TCd
 |.last src g ifs elt=>cX (wI Φ src) (bG g) (bo (wTl Φ ifs) (dN (wE Φ elt)))
 |.more src g ifs rest=>cX (wI Φ src) (bG g) (bo (wTl Φ ifs) (wCl Φ rest))
noncomputable def wCmp(Φ:Phi)(fr:List (Option Nat)):MC->TEd
 |.last src g ifs elt=>iC fr (wI Φ src) (bG g) (bo (wTl Φ ifs) (dN (wE Φ elt)))
 |.more src g ifs rest=>iC fr (wI Φ src) (bG g) (bo (wTl Φ ifs) (wCl Φ rest))
end
mutual
noncomputable def wS(Φ:Phi):MS->TSd
 |.asg g e=>lJ (wE Φ e) (bG g)
 |.asgL gs e=>oG (wE Φ e) (bGs gs)
 |.par i j a b=>uk (au (wE Φ a) (au (wE Φ b) aW)) (cF (cr i) (cF (cr j) je))
 |.put o i e=>uu (wE Φ e) (wE Φ o) (wE Φ i)
 |.aug i op e=>uv i (opI op) (wE Φ e)
 |.augI o i op e=>oz (wE Φ o) (wE Φ i) (wE Φ e) (opI op)
 |.drop e=>oy (wE Φ e)
 |.ret e=>uj (wE Φ e)
 |.ite c a b=>sIf (wT Φ c) (wSs Φ a) (wSs Φ b)
 |.for g src b=>um (wI Φ src) (bG g) (wSs Φ b)
 |.while c b=>jW (wT Φ c) (wSs Φ b)
 |.pass=>jU
 |.brk=>jV
 |.cnt=>ox
noncomputable def wSs(Φ:Phi):MSs->TSd
 |.nil=>jU
 |.cons s r=>zp (wS Φ s) (wSs Φ r)
end
section
variable{Φ:Phi}(hΦ:∀f,aM (Φ f))
include hΦ
mutual
theorem mE:∀m,ad (wE Φ m)
 |.var _=>yP
 |.int _=>pM
 |.bl _=>pM
 |.non=>pM
 |.bin op a b=>fu (qv op) (mE a) (mE b)
 |.neg a=>BH pX (mE a)
 |.cmp op a b=>fu (gf op) (mE a) (mE b)
 |.and es=>mAnds es
 |.or es=>mOrs es
 |.not a=>wl (mE a)
 |.ite c a b=>C2 (mT c) (mE a) (mE b)
 |.tup es=>fA w8 (mA es)
 |.lst es=>fA w9 (mA es)
 |.ix a b=>fu si (mE a) (mE b)
 |.sl a lo hi=>C4 (mE a) (mO lo) (mO hi)
 |.call f es=>fA (hΦ f) (mA es)
 |.callC i es=>uH hΦ (mA es)
 |.callL f es j cs js P pos q=>uI hΦ (mA es)
 |.blt f es=>fA (zR f) (mA es)
 |.lrng a=>wa (mE a)
 |.lrng2 a b=>uh (aj (mE a) (aj (mE b) aq))
 |.dnew _=>wJ
 |.sortI a=>uD (mE a)
 |.dget o k x=>wZ (mE o) (mE k) (mE x)
 |.meth m o a=>sk (zS m) (mE o) (aj (mE a) aq)
 |.ins o i a=>sk j7 (mE o) (aj (mE i) (aj (mE a) aq))
 |.comp fr _ c=>mCmp fr c
 |.revS a st=>xl (mE a) (gT (mE st))
 |.orL a b=>zQ (mE a) (mE b)
theorem mA:∀m,aL (wA Φ m)
 |.nil=>aq
 |.cons e r=>aj (mE e) (mA r)
theorem mAnds:∀m,ad (wAnds Φ m)
 |.nil=>λ_ _ _ _ _ q=>q.elim
 |.cons e .nil=>mE e
 |.cons e (.cons f r)=>wk (mE e) (mAnds (.cons f r))
theorem mOrs:∀m,ad (wOrs Φ m)
 |.nil=>λ_ _ _ _ _ q=>q.elim
 |.cons e .nil=>mE e
 |.cons e (.cons f r)=>zg (mE e) (mOrs (.cons f r))
theorem mO:∀m,dM (wO Φ m)
 |.none=>rH
 |.some e=>gT (mE e)
theorem mT:∀m,aI (wT Φ m)
 |.tru e=>ze (mE e)
 |.cmp op a b=>yQ (fu (gf op) (mE a) (mE b))
 |.and ts=>mAndTs ts
 |.or ts=>mOrTs ts
 |.not t=>wg (mT t)
theorem mAndTs:∀m,aI (wAndTs Φ m)
 |.nil=>λ_ _ _ _ _ q=>q.elim
 |.cons e .nil=>mT e
 |.cons e (.cons f r)=>wj (mT e) (mAndTs (.cons f r))
theorem mOrTs:∀m,aI (wOrTs Φ m)
 |.nil=>λ_ _ _ _ _ q=>q.elim
 |.cons e .nil=>mT e
 |.cons e (.cons f r)=>zf (mT e) (mOrTs (.cons f r))
theorem mTl:∀m,∀t∈wTl Φ m,aI t
 |.nil=>by rw[wTl];intro t j;simp at j
 |.cons t r=>by
  rw[wTl];intro t' j
  rcases D1.mp j with e|e
  ·rw[e];exact mT t
  ·exact mTl r t' e
theorem mI:∀m,bY (wI Φ m)
 |.seq e=>zk (mE e)
 |.rng1 a=>wq (aj (mE a) aq)
 |.rng2 a b=>wt (aj (mE a) (aj (mE b) aq))
 |.zip a b=>zo (mE a) (mE b)
 |.zip3 a b c=>wu (mE a) (mE b) (mE c)
 |.enum a=>wv (mE a)
 |.rev a=>xf (mE a)
theorem mCl:∀m,cu (wCl Φ m)
 |.last src g ifs elt=>j4 (mI src) (aR (bO (mE elt)) (mTl ifs))
 |.more src g ifs rest=>j4 (mI src) (aR (mCl rest) (mTl ifs))
theorem mCmp(fr:List (Option Nat)):∀m,ad (wCmp Φ fr m)
 |.last src g ifs elt=>mR (mI src) (aR (bO (mE elt)) (mTl ifs))
 |.more src g ifs rest=>mR (mI src) (aR (mCl rest) (mTl ifs))
end
mutual
theorem mS:∀m,aJ (wS Φ m)
 |.asg g e=>zt (mE hΦ e)
 |.asgL gs e=>xg (mE hΦ e)
 |.par i j a b=>zu (aj (mE hΦ a) (aj (mE hΦ b) aq))
 |.put o i e=>zB (mE hΦ e) (mE hΦ o) (mE hΦ i)
 |.aug i op e=>zC (qw op) (mE hΦ e)
 |.augI o i op e=>wH (mE hΦ o) (mE hΦ i) (mE hΦ e) (qw op)
 |.drop e=>wy (mE hΦ e)
 |.ret e=>zq (mE hΦ e)
 |.ite c a b=>zr (mT hΦ c) (mSs a) (mSs b)
 |.for g src b=>zw (mI hΦ src) (mSs b)
 |.while c b=>uq (mT hΦ c) (mSs b)
 |.pass=>mV
 |.brk=>uo
 |.cnt=>ww
theorem mSs:∀m,aJ (wSs Φ m)
 |.nil=>mV
 |.cons s r=>wx (mS s) (mSs r)
end
end
end
variable{Φ:Phi}{e:Expr}{es:List Expr}{env:Env}
section
structure Ctx where
 Γ:List Str
 N:List Str
 sc:Scope
 fn:List Str
 cs:List (Str×D)
 lm:Nat
 nm:Str
noncomputable def glB(sc:Scope)(x:Str):Bool:=sc.names.lookup x==Z .globalImplicit
noncomputable def uJ(sc:Scope)(x:Str):Bool:=sc.names.lookup x==Z .local || sc.names.lookup x==Z .cell || sc.names.lookup x==Z .free
noncomputable def uK(sc:Scope)(x:Str):Bool:=sc.names.lookup x==Z .local || sc.names.lookup x==Z .cell
noncomputable def aC:Expr->Bool
 |.Starred ..=>Wj
 |_=>F2
noncomputable def xo:Expr->Bool
 |.Name ..|.Call ..|.Subscript ..|.Constant ..|.BinOp ..|.Attribute ..=>F2
 |_=>Wj
noncomputable def iI:Expr->Bool
 |.Slice ..=>Wj
 |_=>F2
noncomputable def kw:Expr->Bool
 |.ListComp ..|.SetComp ..|.DictComp ..=>Wj
 |_=>F2
noncomputable def uL:Expr->Bool
 |.Set ..=>Wj
 |_=>F2
noncomputable def fB:Expr->Bool
 |.Call _ (_::_) _ _=>F2
 |.Call ..=>Wj
 |_=>F2
noncomputable def opO:BOp->Pa
 |.add=>.Add|.sub=>.Sub|.mul=>.Mult|.fdiv=>.FloorDiv|.mod=>.Mod|.pow=>.Pow|.ext=>.Add
noncomputable def zT:COp->CmpOp
 |.eq=>.Eq|.ne=>.NotEq|.lt=>.Lt| .gt=>.Gt|.ge=>.GtE| .inS=>.In| .ninD=>.NotIn
noncomputable def qA:BF->Str
 |.len=>"len"| .abs=>"abs"|.max2=>"max"| .int=>"int"|.list=>"list"|.tuple=>"tuple"| .sorts=>"sorted"
noncomputable def EF:MF->Str
 |.append=>"append"
noncomputable def bltNames:List Str:=["len","abs","max","min","int","list","tuple","sum","isinstance","range","bool","str","dict","zip","enumerate","reversed","sorted","all","any","set"]
noncomputable def jm(sc osc:Scope):Scope:={sc with names:=sc.names.map λ(n,k)=>if(k==.free&&osc.kind==.function&&osc.names.lookup n==Z .cell)then(n,.cell)else(n,k)}
theorem rP(sc:Scope)(env:Env):relabel sc env=jm sc env.scope:=rfl
noncomputable def zU(sc osc:Scope)(oN N':List Str)(fr:List (Option Nat)):Bool:=
 decide (sc.kind=.function)&&decide ((sc.names.map (·.1)).Nodup)&&decide (N'.Nodup)
  && sc.names.all (λx=>!(x.2==.free) || osc.names.lookup x.1==Z .cell || osc.names.lookup x.1==Z .free)
  && decide (fr.length=N'.length)
  && (q7 N'.length).all λi=>match fr[i]?,N'[i]? with
   |some (Z j),Z x=>decide (oN[j]?=Z x)&&sc.names.any (λy=>decide (y=(x,Lr)))
   |_,_=>F2
theorem pk{p:Prop}[d:Decidable p]{t:p->Bool}(h:dite p t (λ_=>Wj)=F2):∃c,t c=F2:=by
 cases d with
 |isTrue c=>exact⟨c,h⟩
 |isFalse c=>cases h
noncomputable def eO(e:Expr)(f:Str->Pos->Bool):Bool:=if h:e.ctorIdx=23 then @VT.elim (λ_=>Bool) e h f else Wj
@[elab_as_elim]
theorem gh{P:Expr->Prop}(e:Expr){f:Str->Pos->Bool}(h:eO e f=F2)(k:∀a b,f a b=F2->P (.Name a b)):P e:=(pk h).elim λc=>@VT.elim (λe=>∀c,@VT.elim (λ_=>Bool) e c f=F2->P e) e c (λa b _=>k a b) c
noncomputable def eQ(e:Expr)(f:Const->Nat->Pos->Bool):Bool:=if h:e.ctorIdx=19 then @TN.elim (λ_=>Bool) e h f else Wj
@[elab_as_elim]
theorem i4{P:Expr->Prop}(e:Expr){f:Const->Nat->Pos->Bool}(h:eQ e f=F2)(k:∀a b c,f a b c=F2->P (.Constant a b c)):P e:=(pk h).elim λc=>@TN.elim (λe=>∀c,@TN.elim (λ_=>Bool) e c f=F2->P e) e c (λa b c _=>k a b c) c
noncomputable def xp(e:Expr)(f:Expr->Pa->Expr->Pos->Bool):Bool:=if h:e.ctorIdx=2 then @VI.elim (λ_=>Bool) e h f else Wj
@[elab_as_elim]
theorem EG{P:Expr->Prop}(e:Expr){f:Expr->Pa->Expr->Pos->Bool}(h:xp e f=F2)(k:∀a b c d,f a b c d=F2->P (.BinOp a b c d)):P e:=(pk h).elim λc=>@VI.elim (λe=>∀c,@VI.elim (λ_=>Bool) e c f=F2->P e) e c (λa b c d _=>k a b c d) c
noncomputable def gj(e:Expr)(f:UnaryOp->Expr->Pos->Bool):Bool:=if h:e.ctorIdx=3 then @UJ.elim (λ_=>Bool) e h f else Wj
@[elab_as_elim]
theorem jn{P:Expr->Prop}(e:Expr){f:UnaryOp->Expr->Pos->Bool}(h:gj e f=F2)(k:∀a b c,f a b c=F2->P (.UnaryOp a b c)):P e:=(pk h).elim λc=>@UJ.elim (λe=>∀c,@UJ.elim (λ_=>Bool) e c f=F2->P e) e c (λa b c _=>k a b c) c
noncomputable def jo(e:Expr)(f:Expr->List CmpOp->List Expr->Pos->Bool):Bool:=if h:e.ctorIdx=15 then @UK.elim (λ_=>Bool) e h f else Wj
@[elab_as_elim]
theorem qB{P:Expr->Prop}(e:Expr){f:Expr->List CmpOp->List Expr->Pos->Bool}(h:jo e f=F2)(k:∀a b c d,f a b c d=F2->P (.Compare a b c d)):P e:=(pk h).elim λc=>@UK.elim (λe=>∀c,@UK.elim (λ_=>Bool) e c f=F2->P e) e c (λa b c d _=>k a b c d) c
noncomputable def dW(e:Expr)(f:BoolOp->List Expr->Pos->Bool):Bool:=if h:e.ctorIdx=0 then @Vk.elim (λ_=>Bool) e h f else Wj
@[elab_as_elim]
theorem fC{P:Expr->Prop}(e:Expr){f:BoolOp->List Expr->Pos->Bool}(h:dW e f=F2)(k:∀a b c,f a b c=F2->P (.BoolOp a b c)):P e:=(pk h).elim λc=>@Vk.elim (λe=>∀c,@Vk.elim (λ_=>Bool) e c f=F2->P e) e c (λa b c _=>k a b c) c
noncomputable def xq(e:Expr)(f:Expr->Expr->Expr->Pos->Bool):Bool:=if h:e.ctorIdx=5 then @VJ.elim (λ_=>Bool) e h f else Wj
@[elab_as_elim]
theorem EH{P:Expr->Prop}(e:Expr){f:Expr->Expr->Expr->Pos->Bool}(h:xq e f=F2)(k:∀a b c d,f a b c d=F2->P (.IfExp a b c d)):P e:=(pk h).elim λc=>@VJ.elim (λe=>∀c,@VJ.elim (λ_=>Bool) e c f=F2->P e) e c (λa b c d _=>k a b c d) c
noncomputable def cT(e:Expr)(f:List Expr->Nat->Pos->Bool):Bool:=if h:e.ctorIdx=25 then @VL.elim (λ_=>Bool) e h f else Wj
@[elab_as_elim]
theorem dq{P:Expr->Prop}(e:Expr){f:List Expr->Nat->Pos->Bool}(h:cT e f=F2)(k:∀a b c,f a b c=F2->P (.Tuple a b c)):P e:=(pk h).elim λc=>@VL.elim (λe=>∀c,@VL.elim (λ_=>Bool) e c f=F2->P e) e c (λa b c _=>k a b c) c
noncomputable def AT(e:Expr)(f:List Expr->Pos->Bool):Bool:=if h:e.ctorIdx=24 then @VU.elim (λ_=>Bool) e h f else Wj
@[elab_as_elim]
theorem Gm{P:Expr->Prop}(e:Expr){f:List Expr->Pos->Bool}(h:AT e f=F2)(k:∀a b,f a b=F2->P (.List a b)):P e:=(pk h).elim λc=>@VU.elim (λe=>∀c,@VU.elim (λ_=>Bool) e c f=F2->P e) e c (λa b _=>k a b) c
noncomputable def cU(e:Expr)(f:Expr->Expr->Pos->Bool):Bool:=if h:e.ctorIdx=21 then @Td.elim (λ_=>Bool) e h f else Wj
@[elab_as_elim]
theorem dP{P:Expr->Prop}(e:Expr){f:Expr->Expr->Pos->Bool}(h:cU e f=F2)(k:∀a b c,f a b c=F2->P (.Subscript a b c)):P e:=(pk h).elim λc=>@Td.elim (λe=>∀c,@Td.elim (λ_=>Bool) e c f=F2->P e) e c (λa b c _=>k a b c) c
noncomputable def uM(e:Expr)(f:Expr->List Expr->List QZ->Pos->Bool):Bool:=if h:e.ctorIdx=16 then @VV.elim (λ_=>Bool) e h f else Wj
@[elab_as_elim]
theorem AU{P:Expr->Prop}(e:Expr){f:Expr->List Expr->List QZ->Pos->Bool}(h:uM e f=F2)(k:∀a b c d,f a b c d=F2->P (.Call a b c d)):P e:=(pk h).elim λc=>@VV.elim (λe=>∀c,@VV.elim (λ_=>Bool) e c f=F2->P e) e c (λa b c d _=>k a b c d) c
noncomputable def kx(e:Expr)(f:Expr->Str->Pos->Bool):Bool:=if h:e.ctorIdx=20 then @Te.elim (λ_=>Bool) e h f else Wj
@[elab_as_elim]
theorem uN{P:Expr->Prop}(e:Expr){f:Expr->Str->Pos->Bool}(h:kx e f=F2)(k:∀a b c,f a b c=F2->P (.Attribute a b c)):P e:=(pk h).elim λc=>@Te.elim (λe=>∀c,@Te.elim (λ_=>Bool) e c f=F2->P e) e c (λa b c _=>k a b c) c
noncomputable def xr(e:Expr)(f:Option Expr->Option Expr->Option Expr->Pos->Bool):Bool:=if h:e.ctorIdx=26 then @VM.elim (λ_=>Bool) e h f else Wj
@[elab_as_elim]
theorem EI{P:Expr->Prop}(e:Expr){f:Option Expr->Option Expr->Option Expr->Pos->Bool}(h:xr e f=F2)(k:∀a b c d,f a b c d=F2->P (.Slice a b c d)):P e:=(pk h).elim λc=>@VM.elim (λe=>∀c,@VM.elim (λ_=>Bool) e c f=F2->P e) e c (λa b c d _=>k a b c d) c
noncomputable def nB(e:Expr)(f:Expr->List LV->Scope->Pos->Bool):Bool:=if h:e.ctorIdx=8 then @TQ.elim (λ_=>Bool) e h f else Wj
@[elab_as_elim]
theorem xt{P:Expr->Prop}(e:Expr){f:Expr->List LV->Scope->Pos->Bool}(h:nB e f=F2)(k:∀a b c d,f a b c d=F2->P (.ListComp a b c d)):P e:=(pk h).elim λc=>@TQ.elim (λe=>∀c,@TQ.elim (λ_=>Bool) e c f=F2->P e) e c (λa b c d _=>k a b c d) c
noncomputable def AV(e:Expr)(f:List (Option Expr)->List Expr->Pos->Bool):Bool:=if h:e.ctorIdx=6 then @VW.elim (λ_=>Bool) e h f else Wj
@[elab_as_elim]
theorem Gn{P:Expr->Prop}(e:Expr){f:List (Option Expr)->List Expr->Pos->Bool}(h:AV e f=F2)(k:∀a b c,f a b c=F2->P (.Dict a b c)):P e:=(pk h).elim λc=>@VW.elim (λe=>∀c,@VW.elim (λ_=>Bool) e c f=F2->P e) e c (λa b c _=>k a b c) c
noncomputable def eh(e:Stmt)(f:List Expr->Expr->Pos->Bool):Bool:=if h:e.ctorIdx=5 then @Vl.elim (λ_=>Bool) e h f else Wj
@[elab_as_elim]
theorem gk{P:Stmt->Prop}(e:Stmt){f:List Expr->Expr->Pos->Bool}(h:eh e f=F2)(k:∀a b c,f a b c=F2->P (.Assign a b c)):P e:=(pk h).elim λc=>@Vl.elim (λe=>∀c,@Vl.elim (λ_=>Bool) e c f=F2->P e) e c (λa b c _=>k a b c) c
noncomputable def fe(e:Stmt)(f:Expr->Pa->Expr->Pos->Bool):Bool:=if h:e.ctorIdx=7 then @Tf.elim (λ_=>Bool) e h f else Wj
@[elab_as_elim]
theorem j8{P:Stmt->Prop}(e:Stmt){f:Expr->Pa->Expr->Pos->Bool}(h:fe e f=F2)(k:∀a b c d,f a b c d=F2->P (.AugAssign a b c d)):P e:=(pk h).elim λc=>@Tf.elim (λe=>∀c,@Tf.elim (λ_=>Bool) e c f=F2->P e) e c (λa b c d _=>k a b c d) c
noncomputable def xu(e:Stmt)(f:Expr->Pos->Bool):Bool:=if h:e.ctorIdx=24 then @VX.elim (λ_=>Bool) e h f else Wj
@[elab_as_elim]
theorem EJ{P:Stmt->Prop}(e:Stmt){f:Expr->Pos->Bool}(h:xu e f=F2)(k:∀a b,f a b=F2->P (.Expr a b)):P e:=(pk h).elim λc=>@VX.elim (λe=>∀c,@VX.elim (λ_=>Bool) e c f=F2->P e) e c (λa b _=>k a b) c
noncomputable def qC(e:Stmt)(f:Option Expr->Pos->Bool):Bool:=if h:e.ctorIdx=3 then @Vm.elim (λ_=>Bool) e h f else Wj
@[elab_as_elim]
theorem zV{P:Stmt->Prop}(e:Stmt){f:Option Expr->Pos->Bool}(h:qC e f=F2)(k:∀a b,f a b=F2->P (.Return a b)):P e:=(pk h).elim λc=>@Vm.elim (λe=>∀c,@Vm.elim (λ_=>Bool) e c f=F2->P e) e c (λa b _=>k a b) c
noncomputable def EK(e:Stmt)(f:Expr->List Stmt->List Stmt->Pos->Bool):Bool:=if h:e.ctorIdx=12 then @Stmt.If.elim (λ_=>Bool) e h f else Wj
@[elab_as_elim]
theorem Hy{P:Stmt->Prop}(e:Stmt){f:Expr->List Stmt->List Stmt->Pos->Bool}(h:EK e f=F2)(k:∀a b c d,f a b c d=F2->P (.If a b c d)):P e:=(pk h).elim λc=>@Stmt.If.elim (λe=>∀c,@Stmt.If.elim (λ_=>Bool) e c f=F2->P e) e c (λa b c d _=>k a b c d) c
noncomputable def AW(e:Stmt)(f:Expr->Expr->List Stmt->List Stmt->Pos->Bool):Bool:=if h:e.ctorIdx=9 then @Stmt.For.elim (λ_=>Bool) e h f else Wj
@[elab_as_elim]
theorem Go{P:Stmt->Prop}(e:Stmt){f:Expr->Expr->List Stmt->List Stmt->Pos->Bool}(h:AW e f=F2)(k:∀a b c d e,f a b c d e=F2->P (.For a b c d e)):P e:=(pk h).elim λc=>@Stmt.For.elim (λe=>∀c,@Stmt.For.elim (λ_=>Bool) e c f=F2->P e) e c (λa b c d e _=>k a b c d e) c
noncomputable def sL(e:Stmt)(f:Expr->List Stmt->List Stmt->Pos->Bool):Bool:=if h:e.ctorIdx=11 then @VN.elim (λ_=>Bool) e h f else Wj
@[elab_as_elim]
theorem Ct{P:Stmt->Prop}(e:Stmt){f:Expr->List Stmt->List Stmt->Pos->Bool}(h:sL e f=F2)(k:∀a b c d,f a b c d=F2->P (.While a b c d)):P e:=(pk h).elim λc=>@VN.elim (λe=>∀c,@VN.elim (λ_=>Bool) e c f=F2->P e) e c (λa b c d _=>k a b c d) c
noncomputable def xv(e:Stmt)(f:Pos->Bool):Bool:=if h:e.ctorIdx=25 then @VY.elim (λ_=>Bool) e h f else Wj
@[elab_as_elim]
theorem EL{P:Stmt->Prop}(e:Stmt){f:Pos->Bool}(h:xv e f=F2)(k:∀a,f a=F2->P (.Pass a)):P e:=(pk h).elim λc=>@VY.elim (λe=>∀c,@VY.elim (λ_=>Bool) e c f=F2->P e) e c (λa _=>k a) c
noncomputable def sM(e:Stmt)(f:Pos->Bool):Bool:=if h:e.ctorIdx=26 then @VO.elim (λ_=>Bool) e h f else Wj
@[elab_as_elim]
theorem Cu{P:Stmt->Prop}(e:Stmt){f:Pos->Bool}(h:sM e f=F2)(k:∀a,f a=F2->P (.Break a)):P e:=(pk h).elim λc=>@VO.elim (λe=>∀c,@VO.elim (λ_=>Bool) e c f=F2->P e) e c (λa _=>k a) c
noncomputable def ky(e:Stmt)(f:Pos->Bool):Bool:=if h:e.ctorIdx=27 then @TR.elim (λ_=>Bool) e h f else Wj
@[elab_as_elim]
theorem uO{P:Stmt->Prop}(e:Stmt){f:Pos->Bool}(h:ky e f=F2)(k:∀a,f a=F2->P (.Continue a)):P e:=(pk h).elim λc=>@TR.elim (λe=>∀c,@TR.elim (λ_=>Bool) e c f=F2->P e) e c (λa _=>k a) c
noncomputable def lv0{α:Type}(xs:List α)(b:Bool):Bool:=xs.isEmpty&&b
noncomputable def lvc{α:Type}(xs:List α)(f:α->List α->Bool):Bool:=match xs with
 |y::r=>f y r
 |[]=>Wj
noncomputable def lv1{α:Type}(xs:List α)(f:α->Bool):Bool:=lvc xs λy r=>lv0 r (f y)
noncomputable def lv2{α:Type}(xs:List α)(f:α->α->Bool):Bool:=lvc xs λy r=>lv1 r (f y)
noncomputable def lv3{α:Type}(xs:List α)(f:α->α->α->Bool):Bool:=lvc xs λy r=>lv2 r (f y)
noncomputable def os{α:Type}(o:Option α)(f:α->Bool):Bool:=match o with
 |some x=>f x
 |none=>Wj
noncomputable def on{α:Type}(o:Option α)(b:Bool):Bool:=o.isNone&&b
@[elab_as_elim]
theorem i5{α:Type}{P:List α->Prop}(xs:List α){b:Bool}(h:lv0 xs b=F2)(k:b=F2->P []):P xs:=by
 cases xs with
 |nil=>exact k h
 |cons _ _=>cases h
@[elab_as_elim]
theorem zW{α:Type}{P:List α->Prop}(xs:List α){f:α->List α->Bool}(h:lvc xs f=F2)(k:∀y r,f y r=F2->P (y::r)):P xs:=by
 cases xs with
 |nil=>cases h
 |cons y r=>exact k y r h
@[elab_as_elim]
theorem cg{α:Type}{P:List α->Prop}(xs:List α){f:α->Bool}(h:lv1 xs f=F2)(k:∀y,f y=F2->P [y]):P xs:=zW xs h λy r h=>i5 r h λh=>k y h
@[elab_as_elim]
theorem gn{α:Type}{P:List α->Prop}(xs:List α){f:α->α->Bool}(h:lv2 xs f=F2)(k:∀y z,f y z=F2->P [y,z]):P xs:=zW xs h λy r h=>cg r h λz h=>k y z h
@[elab_as_elim]
theorem Hz{α:Type}{P:List α->Prop}(xs:List α){f:α->α->α->Bool}(h:lv3 xs f=F2)(k:∀y z u,f y z u=F2->P [y,z,u]):P xs:=zW xs h λy r h=>gn r h λz u h=>k y z u h
@[elab_as_elim]
theorem jos{α:Type}{P:Option α->Prop}(o:Option α){f:α->Bool}(h:os o f=F2)(k:∀x,f x=F2->P (Z x)):P o:=by
 cases o with
 |none=>cases h
 |some x=>exact k x h
@[elab_as_elim]
theorem jon{α:Type}{P:Option α->Prop}(o:Option α){b:Bool}(h:on o b=F2)(k:b=F2->P Y):P o:=by
 cases o with
 |none=>exact k h
 |some x=>cases h
theorem bC{a b:Bool}(h:(a&&b)=F2):a=F2/\b=F2:=by rwa[p0]at h
noncomputable def ba(e:Expr)(g:Str->List Expr->Bool):Bool:=uM e λf xs ks _=>lv0 ks (eO f λx _=>g x xs)
@[elab_as_elim]
theorem bb{P:Expr->Prop}(e:Expr){g:Str->List Expr->Bool}(h:ba e g=F2)(k:∀x xs p pos,g x xs=F2->P (.Call (.Name x p) xs [] pos)):P e:=AU e h λf xs ks pos h=>i5 ks h λh=>gh f h λx p h=>k x xs p pos h
noncomputable def kz(e:Expr)(g:Expr->Str->List Expr->Pos->Pos->Bool):Bool:=uM e λf xs ks p=>lv0 ks (kx f λo n q=>g o n xs q p)
@[elab_as_elim]
theorem oJ{P:Expr->Prop}(e:Expr){g:Expr->Str->List Expr->Pos->Pos->Bool}(h:kz e g=F2)(k:∀o n xs q p,g o n xs q p=F2->P (.Call (.Attribute o n q) xs [] p)):P e:=AU e h λf xs ks pos h=>i5 ks h λh=>uN f h λo n q h=>k o n xs q pos h
noncomputable def iSl(e:Expr)(g:Expr->Option Expr->Option Expr->Option Expr->Bool):Bool:=cU e λx y _=>xr y λl u s _=>g x l u s
@[elab_as_elim]
theorem jSl{P:Expr->Prop}(e:Expr){g:Expr->Option Expr->Option Expr->Option Expr->Bool}(h:iSl e g=F2)(k:∀x l u s p pos,g x l u s=F2->P (.Subscript x (.Slice l u s p) pos)):P e:=dP e h λx y pos h=>EI y h λl u s p h=>k x l u s p pos h
mutual
noncomputable def okG:MG->Ctx->Expr->Bool
 |.name i,C,e=>eO e λx _=>decide (C.N[i]?=Z x)&&uK C.sc x&&(C.sc.names.lookup x==Z .local || C.fn.contains x)
 |.tup gs,C,e=>cT e λes _ _=>okGs gs C es
noncomputable def okGs:MGs->Ctx->List Expr->Bool
 |.nil,_,es=>es.isEmpty
 |.cons g r,C,es=>match es with
  |e::es=>aC e&&okG g C e&&okGs r C es
  |[]=>Wj
end
noncomputable def oK(ns:List Str):List Nat->List Expr->Bool
 |[],[]=>F2
 |i::r,e::es=>eO e (λx _=>decide (ns[i]?=Z x) && !(x==("__debug__":Str)) && !(x==("__classdict__":Str)))&&oK ns r es
 |_,_=>Wj
noncomputable def sN(C:Ctx)(j:Nat)(js:List Nat)(ns:List Str)(sc:Scope)(b:Expr):Bool:=ba b λg es=>decide (C.Γ[j]?=Z g)&&glB sc g && !(g==("__debug__":Str)) && !es.isEmpty&&oK ns js es
noncomputable def cV(cs:List Nat)(N:List Str):Option (List Str):=cs.mapM λc=>N[c]?
noncomputable def kA:OW->Option (Arg×Arg)
 |⟨[],[a1,a2],Y,[],[],Y,[]⟩=>Z (a1,a2)
 |_=>Y
noncomputable def oM(C:Ctx)(j:Nat)(cs js:List Nat)(sc:Scope)(b:Expr)(y1 y2:Str)(xs:List Str):Bool:=
 decide (sc.kind=.function) && !sc.isCoroutine && !sc.isGenerator && !(y1==y2)&&sc.names.lookup y1==Z .local&&sc.names.lookup y2==Z .local
  && xs.all (λx=>sc.names.lookup x==Z .free&&C.sc.names.lookup x==Z .cell)&&sc.names.all (λy=>!(y.2==.cell)&&(!(y.2==.free) || xs.contains y.1))&&sN C j js (xs++[y1,y2]) sc b
noncomputable def AX(C:Ctx)(j:Nat)(cs js:List Nat)(pos:Pos):Expr->Bool
 |.Lambda ps b sc pos'=>decide (pos'=pos)&&os (kA ps) (λa=>os (cV cs C.N) (oM C j cs js sc b a.1.arg a.2.arg))
 |_=>Wj
mutual
noncomputable def okE:ME->Ctx->Expr->Bool
 |.var i,C,e=>eO e λx _=>decide (C.N[i]?=Z x)&&uJ C.sc x && !(x==("__debug__":Str)) && !(x==("__classdict__":Str))
 |.int i,_,e=>eQ e λc _ _=>decide (c=.int i)
 |.bl i,_,e=>eQ e λc _ _=>decide (c=.bool i)
 |.non,_,e=>eQ e λc _ _=>decide (c=.none)
 |.bin op a b,C,e=>xp e λl o r _=>decide (o=opO op)&&okE a C l&&okE b C r
 |.neg a,C,e=>gj e λo x _=>decide (o=.USub)&&okE a C x
 |.cmp op a b,C,e=>jo e λl os rs _=>lv1 os λo=>lv1 rs λr=>decide (o=zT op)&&okE a C l&&okE b C r && !(PH o r)
 |.and es,C,e=>dW e λo xs _=>decide (o=.And) && !xs.isEmpty&&okEs es C xs
 |.or es,C,e=>dW e λo xs _=>decide (o=.Or) && !xs.isEmpty&&okEs es C xs
 |.not a,C,e=>gj e λo x _=>decide (o=.Not)&&okE a C x
 |.ite c a b,C,e=>xq e λt x y _=>okT c C t&&okE a C x&&okE b C y
 |.tup es,C,e=>cT e λxs _ _=>okEs es C xs
 |.lst es,C,e=>AT e λxs _=>okEs es C xs
 |.ix a b,C,e=>cU e λx y _=>iI y&&okE a C x&&okE b C y
 |.sl a lo hi,C,e=>iSl e λx l u s=>on s (okE a C x&&okO lo C l&&okO hi C u)
 |.callC i es,C,e=>ba e λx xs=>decide (C.lm=1)&&decide (C.N[i]?=Z x)&&uJ C.sc x && !(x==("__debug__":Str)) && !(x==("__classdict__":Str))&&decide (xs.length=2)&&okEs es C xs
 |.callL f es j cs js P pos q,C,e=>ba e λx xs=>decide (C.lm=P+2)&&decide (C.Γ[f]?=Z x)&&glB C.sc x && !(x==("__debug__":Str))&&decide (C.nm++(".<locals>.":Str)++("<lambda>":Str)=q)&&os xs.getLast? (AX C j cs js pos) && !xs.dropLast.isEmpty&&okEs es C xs.dropLast
 |.call f es,C,e=>ba e λx xs=>decide (C.Γ[f]?=Z x)&&glB C.sc x && !(x==("__debug__":Str))&&okEs es C xs
 |.blt f es,C,e=>ba e λx xs=>decide (x=qA f)&&glB C.sc x && !xs.isEmpty&&okEs es C xs
 |.dnew _,_,e=>AV e λks vs _=>lv0 ks (lv0 vs F2)
 |.sortI a,C,e=>ba e λx xs=>lv1 xs λw=>kz w λy n ys ap cp=>lv0 ys (decide (x="sorted")&&glB C.sc x&&decide (n="items")&&fB y&&(ap.endLine==cp.line)&&okE a C y)
 |.dget o k x,C,e=>kz e λy n xs ap cp=>lv2 xs λe1 e2=>decide (n="get")&&fB y&&(ap.endLine==cp.line)&&aC e1&&aC e2&&okE o C y&&okE k C e1&&okE x C e2
 |.lrng a,C,e=>ba e λx xs=>lv1 xs λw=>ba w λz ys=>lv1 ys λy=>decide (x="list")&&glB C.sc x&&decide (z="range")&&glB C.sc z&&aC y&&okE a C y
 |.lrng2 a b,C,e=>ba e λx xs=>lv1 xs λw=>ba w λz ys=>lv2 ys λy u=>decide (x="list")&&glB C.sc x&&decide (z="range")&&glB C.sc z&&aC y&&aC u&&okE a C y&&okE b C u
 |.meth m o a,C,e=>kz e λx n xs ap cp=>lv1 xs λy=>decide (n=EF m)&&fB x&&(ap.endLine==cp.line)&&aC y&&okE o C x&&okE a C y
 |.ins o i a,C,e=>kz e λx n xs ap cp=>lv2 xs λy z=>decide (n="insert")&&fB x&&(ap.endLine==cp.line)&&aC y&&aC z&&okE o C x&&okE i C y&&okE a C z
 |.comp fr N' c,C,e=>nB e λelt gens sc _=>zU sc C.sc C.N N' fr&&okC c C ⟨C.Γ,N',jm sc C.sc,(sc.names.filter (·.2==.cell)).map (·.1),C.cs,0,C.nm⟩ gens elt
 |.revS a st,C,e=>iSl e λx l u s=>on l (on u (os s λs=>okE a C x&&okE st C s))
 |.orL a b,C,e=>dW e λo xs _=>lv2 xs λx y=>decide (o=.Or)&&okE a C x&&okE b C y
noncomputable def okEs:MEs->Ctx->List Expr->Bool
 |.nil,_,es=>es.isEmpty
 |.cons m r,C,es=>match es with
  |e::es=>aC e&&okE m C e&&okEs r C es
  |[]=>Wj
noncomputable def okO:MO->Ctx->Option Expr->Bool
 |.none,_,e=>e.isNone
 |.some m,C,e=>match e with
  |some e=>okE m C e
  |none=>Wj
noncomputable def okT:MT->Ctx->Expr->Bool
 |.tru m,C,e=>xo e&&okE m C e
 |.cmp op a b,C,e=>jo e λl os rs _=>lv1 os λo=>lv1 rs λr=>decide (o=zT op)&&okE a C l&&okE b C r && !(PH o r)
 |.and ts,C,e=>dW e λo xs _=>decide (o=.And) && !xs.isEmpty&&okTs ts C xs
 |.or ts,C,e=>dW e λo xs _=>decide (o=.Or) && !xs.isEmpty&&okTs ts C xs
 |.not t,C,e=>gj e λo x _=>decide (o=.Not)&&okT t C x
noncomputable def okTs:MTs->Ctx->List Expr->Bool
 |.nil,_,es=>es.isEmpty
 |.cons m r,C,es=>match es with
  |e::es=>okT m C e&&okTs r C es
  |[]=>Wj
noncomputable def okI:MI->Ctx->Expr->Expr->Bool
 |.seq m,C,_,e=>uL e&&okE m C e
 |.rng1 a,C,_,e=>ba e λx xs=>lv1 xs λy=>decide (x="range")&&glB C.sc x&&aC y&&okE a C y
 |.rng2 a b,C,_,e=>ba e λx xs=>lv2 xs λy z=>decide (x="range")&&glB C.sc x&&aC y&&aC z&&okE a C y&&okE b C z
 |.enum a,C,t,e=>ba e λx xs=>lv1 xs λy=>cT t λ_ _ _=>decide (x="enumerate")&&glB C.sc x&&aC y&&okE a C y
 |.rev a,C,_,e=>ba e λx xs=>lv1 xs λy=>decide (x="reversed")&&glB C.sc x&&aC y&&okE a C y
 |.zip3 a b c,C,t,e=>ba e λx xs=>lv3 xs λy z u=>cT t λ_ _ _=>decide (x="zip")&&glB C.sc x&&aC y&&aC z&&aC u&&okE a C y&&okE b C z&&okE c C u
 |.zip a b,C,t,e=>ba e λx xs=>lv2 xs λy z=>cT t λ_ _ _=>decide (x="zip")&&glB C.sc x&&aC y&&aC z&&okE a C y&&okE b C z
noncomputable def okC:MC->Ctx->Ctx->List LV->Expr->Bool
 |.last src g ifs m,Cs,C,gens,elt=>match gens with
  |[⟨t,it,fs,a⟩]=>decide (a=0)&&okI src Cs t it&&okG g C t&&okTs ifs C fs&&okE m C elt
  |_=>Wj
 |.more src g ifs rest,Cs,C,gens,elt=>match gens with
  |⟨t,it,fs,a⟩::g2::gs=>decide (a=0)&&okI src Cs t it&&okG g C t&&okTs ifs C fs&&okC rest C C (g2::gs) elt
  |_=>Wj
end
noncomputable def bc(sc:Scope)(ts:List Expr):List Str:=ts.filterMap fun
 |.Name id pos=>if sc.names.lookup id==Z .local&&pos.line==(ts.head?.map (·.pos.line)).getD 0 then Z id else Y
 |_=>Y
noncomputable def uP(sc:Scope)(ts vs:List Expr):Bool:=!(ts.length==2 || ts.length==3) || vs.length != ts.length || (bc sc ts).length != ts.length || (bc sc ts).eraseDups.length != (bc sc ts).length || vs.all (TU 8)
noncomputable def uQ(C:Ctx)(i:Nat)(x:Str):Bool:=decide (C.N[i]?=Z x)&&decide (C.sc.names.lookup x=Z .local)
noncomputable def uR(sc:Scope)(ts vs:List Expr)(ns:List Str):Bool:=!(!(ts.length==2 || ts.length==3) || vs.length != ts.length) && !(vs.any λ| .Starred ..=>F2|_=>Wj)&&decide (bc sc ts=ns) && !((bc sc ts).length != ts.length || (bc sc ts).eraseDups.length != (bc sc ts).length) && !(vs.all (TU 8)) && !(vs.all (constantsAlone 8))
noncomputable def uS(sc:Scope)(tg e:Expr):Bool:=match tg,e with
 |.Tuple ts _ _,.Tuple vs _ _=>uP sc ts vs
 |.Tuple ..,_=>F2
 |.Name ..,_=>F2
 |_,_=>Wj
noncomputable def EM(sc:Scope)(x:Str)(px:Pos)(e:Expr):Bool:=match e with
 |.DictComp _ _ _ s _=>!(sc.names.lookup x==Z .local&&px.line==e.pos.line && !(s.names.any λ(n,k)=>n==x&&(k==.local || k==.cell)))
 |_=>F2
noncomputable def uT(sc:Scope)(x:Str)(px:Pos)(e:Expr):Bool:=match e with
 |.ListComp _ _ s _=>sc.names.lookup x==Z .local&&px.line==e.pos.line && !(s.names.any λ(n,k)=>n==x&&(k==.local || k==.cell))
 |_=>Wj
mutual
noncomputable def okS:MS->Ctx->Stmt->Bool
 |.asg g m,C,s=>eh s λts e _=>lv1 ts λtg=>okG g C tg&&okE m C e&&uS C.sc tg e&&(match tg with|.Name x px=>EM C.sc x px e|_=>kw e)
 |.asgL gs m,C,s=>eh s λts e _=>lv1 ts λtg=>cT tg λts k p=>okGs gs C ts&&okE m C e&&uS C.sc (.Tuple ts k p) e
 |.par i j a b,C,s=>eh s λts e _=>lv1 ts λtg=>cT tg λts _ _=>cT e λes _ _=>lv2 ts λt u=>lv2 es λe f=>eO t λx px=>eO u λy py=>uQ C i x&&uQ C j y&&decide (i≠j)&&aC e&&aC f&&okE a C e&&okE b C f&&uR C.sc [.Name x px,.Name y py] [e,f] [x,y]
 |.put o i m,C,s=>eh s λts e _=>lv1 ts λtg=>cU tg λx y _=>iI y&&kw e&&okE o C x&&okE i C y&&okE m C e
 |.aug i op m,C,s=>fe s λt o e _=>eO t λx _=>decide (o=opO op)&&(match op with|.add|.sub|.mul|.ext=>F2|_=>Wj)&&decide (C.N[i]?=Z x)&&uK C.sc x&&(C.sc.names.lookup x==Z .local || C.fn.contains x)&&okE m C e
 |.augI o i op m,C,s=>fe s λt o' e _=>cU t λx y _=>decide (o'=opO op)&&(match op with|.add|.sub|.mul=>F2|_=>Wj)&&iI y&&okE o C x&&okE i C y&&okE m C e
 |.drop m,C,s=>xu s λe _=>kw e&&okE m C e
 |.ret m,C,s=>qC s λo _=>os o λe=>okE m C e
 |.ite c a b,C,s=>EK s λt x y _=>okT c C t&&okSs a C x&&okSs b C y
 |.for g src b,C,s=>AW s λtg it body els _=>lv0 els (uL it&&okG g C tg&&okI src C tg it&&okSs b C body)
 |.while c b,C,s=>sL s λt body els _=>lv0 els (okT c C t&&okSs b C body)
 |.pass,_,s=>xv s λ_=>F2
 |.brk,_,s=>sM s λ_=>F2
 |.cnt,_,s=>ky s λ_=>F2
noncomputable def okSs:MSs->Ctx->List Stmt->Bool
 |.nil,_,ss=>ss.isEmpty
 |.cons m r,C,ss=>match ss with
  |s::ss=>okS m C s&&okSs r C ss
  |[]=>Wj
end
theorem ae(h:aC e=F2):KU (e::es) env=(Wj,eval e env)::KU es env:=by cases e<;>first|rfl|(cases h;done)
theorem nC(h:aC e=F2):Mj (e::es) env=(Wj,assign e env)::Mj es env:=by cases e<;>first|rfl|(cases h;done)
theorem uU(h:xo e=F2):∀whole,isTrue e env whole=(do let v <-whole;Rt e.pos;holding [v] (truthy v)):=by
 intro w
 cases e<;>first|rfl|(cases h;done)
theorem zX(h:iI e=F2):lf e:=by
 intro o i
 cases e<;>first|rfl|(cases h;done)
theorem xw(h:uL e=F2):∀x,Nx e env x=pure x:=by
 intro x
 cases e<;>first|rfl|(cases h;done)
theorem gu{n:Str}(h:fB e=F2):RE e n env (eval e env)=eval e env:=by
 cases e<;>first
  |rfl
  | (rename_i f xs _ _;cases xs with
     |nil=>cases h
     |cons _ _=>cases f<;>rfl)
theorem EN{ts:List Expr}{k:Nat}{p:Pos}{l:Nat}:Pk e (Z (.Tuple ts k p)) l env=pure Wj:=by cases e<;>rfl
theorem lP{t:Option Expr}{l:Nat}(h:kw e=F2):Pk e t l env=pure Wj:=by cases e<;>first|rfl|(cases h;done)
end
variable{x:Str}{sc:Scope}
section
noncomputable def lSp(K:Frag)(r:RAd):Sp:=λvs H Q _=>lR K r vs H Q
noncomputable def uV(Φ:Phi)(j:Nat)(gs:List D)(js:List Nat):RAd:=λargs M Q=>args.length=2/\Φ (4000+j) (js.map λi=>(gs++args).getD i .non) M Q
noncomputable def spC(P:L4)(w:Lq)(K:Frag)(mg:Str->Option h8)(base:Heap)(k:Nat)(Φ:Phi)(i:Nat):List Env->r0->Sp:=λouter s vs H Q _=>∃(ds:List D) (a:Wk) (j:Nat) (gs:List D) (js:List Nat) (M:Mem),RM K M H/\RDs K H (ds++[.ref a]) vs/\iq P w K mg base (k-1) (frs outer) a (lSp K (uV Φ j gs js)) H s.heap/\Φ (1000+i) (ds++[.ref a,.int j,.tup gs,.tup (js.map λi:Nat=>.int i)]) M (KE' K M H Q)
def xx(X:Cx)(a:Wk)(r:RAd):Prop:=∀(pins:List (Wk×Obj)) (s:r0) (σ:St) (H:Hp) (vs:List V) (us:List h8) (Q:VK),Inv X pins σ H s->Vals vs us->lR X.K r vs H Q->
 Uv a s.heap/\KN (model X.prog X.w) X.A (call (.ref a) us) (EP X pins σ Q) X.xe s
structure xz(C:Ctx)(Φ:Phi)(k:Nat)(X:Cx)(P:Wk):Prop where
 cd:∃c,X.env.code=.ref c/\PySem.W.CodeHd X.base c P
 bm:eX X.mg X.base
 qu:X.env.qual=C.nm++(".<locals>.":Str)
 spc:∀(i:Nat) (x:Str),C.Γ[i]?=Z x->∃f fd ps,X.mg x=Z (.ref f)/\NZ X.K (.ref f)=F2/\Binds X.K fd ps []/\nX X.prog X.w X.K X.mg X.base k f fd ps (spC X.prog X.w X.K X.mg X.base k Φ i)
 low:∀(j:Nat) (x:Str),C.Γ[j]?=Z x->∃f fd ps,X.mg x=Z (.ref f)/\NZ X.K (.ref f)=F2/\Binds X.K fd ps []/\FnOk X.prog X.w X.K X.mg X.base CX0 (k-2) f fd ps (lSp X.K (Φ (4000+j)))
 big:(∃k0,k=k0+2)∨∀(j:Nat) (x:Str),C.Γ[j]?=Z x->∀ds M Q,¬Φ (4000+j) ds M Q
structure Good(C:Ctx)(Φ:Phi)(k:Nat)(X:Cx):Prop where
 hx:∀e s,X.xe e s->False
 calm:X.calm=F2
 N:X.N=C.N
 sc:X.env.scope=C.sc
 nd:X.N.Nodup
 fn:∀x∈C.fn,X.fn x=F2
 room:Room k X.A
 mgB:∀x∈bltNames,X.mg x=Y
 fns:∀(i:Nat) (x:Str),C.Γ[i]?=Z x->∃f fd ps,X.mg x=Z (.ref f)/\R1 X.K Mf x=Z (Z (.ref f))/\NZ X.K (.ref f)=F2/\Binds X.K fd ps []/\FnOk X.prog X.w X.K X.mg X.base CX0 k f fd ps (lSp X.K (Φ i))
 mono:∀f,aM (Φ f)
 cs:∀x d,(x,d)∈C.cs->∃u,X.mg x=Z u/\GV X.K d u
 clo:C.lm=1->∀a,xx X a (Φ (5000+a))
 lam:∀P,C.lm=P+2->xz C Φ k X P
section
variable{C:Ctx}{Φ:Phi}{k:Nat}{X:Cx}
theorem Good.units(G:Good C Φ k X):X.A.units+64<Ol:=G.room.units
theorem Good.gl(G:Good C Φ k X)(h:glB C.sc x=F2):Gl X x:=by show X.env.scope.names.lookup x=_;rw[G.sc];simpa[glB]using h
theorem Good.vis(G:Good C Φ k X)(h:uJ C.sc x=F2):Vis X.env.scope x:=by
 unfold Vis;rw[G.sc];simp[uJ]at h
 rcases h with(h|h)|h
 ·exact .inl h
 ·exact .inr (.inl h)
 ·exact .inr (.inr h)
theorem Good.loc(G:Good C Φ k X)(h:uK C.sc x=F2):Loc X.env.scope x:=by unfold Loc;rw[G.sc];simpa[uK]using h
theorem Good.own(G:Good C Φ k X)(h:(C.sc.names.lookup x==Z .local || C.fn.contains x)=F2):X.fn x=F2∨X.env.scope.names.lookup x=Z .local:=by
 rw[G.sc];simp at h
 rcases h with h|h
 ·exact .inr h
 ·exact .inl (G.fn x h)
theorem EO(G:Good C Φ k X):∀o:BOp,OpR X (MR (opO o)) (l2 X.K (opB o))
 |.add=>pV|.sub=>yW|.mul=>yX|.fdiv=>we|.mod=>yZ|.pow=>za|.ext=>pV
theorem sP(G:Good C Φ k X):∀o:COp,OpR X (Na (zT o)) (l2 X.K (opC o))
 |.eq=>BP (by have:=G.units;lia)|.ne=>BQ (by have:=G.units;lia)|.lt=>BW| .gt=>BX|.ge=>BY| .inS=>zO| .ninD=>xk (by have:=G.units;lia)
theorem EQ(G:Good C Φ k X){f:BF}{t:TAd}{p:Pos}(mt:aL t)(z:Gl X (qA f))(B:PA X (e::es) (lA X.K t))(he:KU (e::es) X.env=(Wj,eval e X.env)::KU es X.env)(j:(OX pos (KU es X.env)).any (·.1)=Wj):PE X (.Call (.Name (qA f) p) (e::es) [] pos) (lE X.K (wAr (opF f) t)):=by
 cases f with
 |len=>exact PE.imp (fO ua z (G.mgB _ (by decide)) PySem.boot_len B (by decide) (by decide) he j) (cq q8 mt)
 |abs=>exact PE.imp (fO ub z (G.mgB _ (by decide)) (by decide +kernel) B (by decide) (by decide) he j) (cq q9 mt)
 |max2=>exact PE.imp (fO (rF G.calm) z (G.mgB _ (by decide)) (by decide +kernel) B (by decide) (by decide) he j) (cq mP mt)
 |int=>exact PE.imp (gK uc z (G.mgB _ (by decide)) (by decide +kernel) B (by decide) (by decide) he j) (cq qa mt)
 |list=>exact PE.imp (gK rG z (G.mgB _ (by decide)) (by decide +kernel) B (by decide) (by decide) he j) (cq mQ mt)
 |tuple=>exact PE.imp (gK qb z (G.mgB _ (by decide)) (by decide +kernel) B (by decide) (by decide) he j) (cq jQ mt)
 |sorts=>exact PE.imp (fO (qr (by have:=G.units;lia) G.calm) z (G.mgB _ (by decide)) (by decide +kernel) B (by decide) (by decide) he j) (cq km mt)
theorem Cv(G:Good C Φ k X){t:TAd}{p:Pos}(mt:aL t)(hf:C.Γ[f]?=Z x)(B:Gl X x)(j:(x==("__debug__":Str))=Wj)(J:PA X (e::es) (lA X.K t))(he:KU (e::es) X.env=(Wj,eval e X.env)::KU es X.env)(z:(OX pos (KU es X.env)).any (·.1)=Wj):PE X (.Call (.Name x p) (e::es) [] pos) (lE X.K (wAr (Φ f) t)):=by
 obtain⟨a,fd,ps,hm,_,L,O,F⟩:=G.fns f x hf;refine PE.imp (rR F G.room B hm L O .nil tX J j he z) λσ H Q h=>?_;have h2:=cq (G.mono f) mt σ H Q h;have:(λvs H1=>lSp X.K (Φ f) (vs++[]) H1 Q E0)=λvs H1=>lR X.K (Φ f) vs H1 Q:=by funext vs H1;rw[Mz];rfl
 show(lA X.K t) σ H _;rw[this];exact h2
theorem zY(G:Good C Φ k X){p:Pos}(hf:C.Γ[f]?=Z x)(z:Gl X x)(j:(x==("__debug__":Str))=Wj):PE X (.Call (.Name x p) [] [] pos) (lE X.K (wAr (Φ f) aW)):=by obtain⟨a,fd,ps,hm,_,B,J,F⟩:=G.fns f x hf;refine PE.imp (yv F G.room z hm B J .nil tX j) λσ H Q h=>?_;obtain⟨ρ,M,rs,rm,q⟩:=h;exact⟨[],M,rm,RDs.nil,q⟩
theorem cY{env:Env}{pos:Pos}:∀{es:List Expr},es.all aC=F2->(OX pos (KU es env)).any (·.1)=Wj
 |[],_=>rfl
 |e::es,h=>by
  simp only[Nk,p0]at h;rw[ae h.1];show(Wj || (OX pos (KU es env)).any (·.1))=Wj
  rw[cY h.2];rfl
theorem dv:∀{ms:MEs} {es:List Expr},okEs ms C es=F2->es.all aC=F2
 |.nil,[],_=>rfl
 |.nil,_::_,h=>by simp[okEs]at h
 |.cons m r,[],h=>by simp[okEs]at h
 |.cons m r,e::es,h=>by simp only[okEs,p0]at h;simp only[Nk,p0];exact⟨h.1.1,dv h.2⟩
theorem lQ:∀{gs:MGs} {es:List Expr},okGs gs C es=F2->∀ds ρ ρ',bGs gs ds ρ=Z ρ'->ds.length=es.length
 |.nil,es,h,ds,ρ,ρ',e=>by
  simp[okGs]at h;subst h;rw[bGs]at e
  cases ds with
  |nil=>rfl
  |cons _ _=>cases e
 |.cons g r,[],h,_,_,_,_=>by simp[okGs]at h
 |.cons g r,x::es,h,ds,ρ,ρ',e=>by
  simp only[okGs,p0]at h;rw[bGs]at e
  cases ds with
  |nil=>cases e
  |cons d ds=>
   simp only[cF]at e
   cases e1:bG g d ρ with
   |none=>rw[e1]at e;cases e
   |some ρ1=>rw[e1]at e;simp[lQ h.2 ds ρ1 ρ' e]
theorem jq{env:Env}:∀{gs:MGs} {es:List Expr},okGs gs C es=F2->(Mj es env).length=es.length/\(Mj es env).findIdx? (·.1)=Y
 |.nil,es,h=>by simp[okGs]at h;subst h;exact⟨rfl,rfl⟩
 |.cons g r,[],h=>by simp[okGs]at h
 |.cons g r,x::es,h=>by
  simp only[okGs,p0]at h;obtain⟨a,b⟩:=jq (env:=env) h.2;rw[nC h.1.1];refine⟨by simp[a],?_⟩
  rw[List.findIdx?_cons];simp[b]
mutual
theorem sG(G:Good C Φ k X):∀(m:MG) (e:Expr),okG m C e=F2->PG X e (lG X.K (bG m))
 |.name i,e,h=>by refine gh e h λx _ h=>?_;simp only[p0]at h;exact C5 G.nd (by rw[G.N];exact of_decide_eq_true h.1.1) (G.loc h.1.2) (G.own h.2)
 |.tup gs,e,h=>by refine dq e h λes _ _ h=>?_;rw[bG];obtain⟨a,b⟩:=jq (env:=X.env) h;exact El G.calm (lQ h) (sGs G gs _ h) a b
theorem sGs(G:Good C Φ k X):∀(m:MGs) (es:List Expr),okGs m C es=F2->PGs X es (lGs X.K (bGs m))
 |.nil,es,h=>by simp[okGs]at h;subst h;exact C6
 |.cons g r,[],h=>by simp[okGs]at h
 |.cons g r,e::es,h=>by simp only[okGs,p0]at h;exact zj (sG G g e h.1.2) (sGs G r es h.2) (by rw[nC h.1.1];rfl)
end
theorem PB.imp{F:Sem Fin->Sem Fin}{t t':TC}(h:PB X F t)(i:∀σ H N,t' σ H N->t σ H N):PB X F t':=λpins s σ H N k Q E I q hk=>h pins s σ H N k Q E I (i _ _ _ q) hk
theorem kB{osc:Scope}{oN N':List Str}{fr:List (Option Nat)}(h:zU sc osc oN N' fr=F2):bg sc osc oN N' fr:=by
 simp only[zU,p0,decide_eq_true_eq]at h;obtain⟨⟨⟨⟨⟨h1,h2⟩,G⟩,J⟩,L⟩,O⟩:=h;refine⟨h1,h2,G,λx hx e=>?_,L,λi j x hi hf=>?_⟩
 ·have B:=OD.mp J x hx;rw[e]at B;simpa using B
 ·have F:i<N'.length:=(KQ.mp hi).1;have z:=OD.mp O i (L9.mpr F);rw[hf,hi]at z;simp only[p0,decide_eq_true_eq,Mk]at z;obtain⟨a,y,U,e⟩:=z;exact⟨a,by rw[<-e];exact U⟩
theorem Good.blk(G:Good C Φ k X){N':List Str}{fr:List (Option Nat)}(B:bg sc C.sc C.N N' fr)(s:r0)(H:Hp)(fp:List Wk):
 Good ⟨C.Γ,N',jm sc C.sc,(sc.names.filter (·.2==.cell)).map (·.1),C.cs,0,C.nm⟩ Φ k (aK X sc N' s H fp):=by
 refine⟨λ_ _ h=>h,G.calm,rfl,?_,B.ndN,λx hx=>?_,G.room,G.mgB,G.fns,G.mono,G.cs,λz=>(by cases z),λ_ z=>(by cases z)⟩
 ·show relabel sc X.env=_;rw[rP,G.sc]
 ·obtain⟨y,F,e⟩:=D2.mp hx;obtain⟨h1,h2⟩:=NG.mp F;obtain⟨n,kd⟩:=y;have j:kd=.cell:=by simpa using h2
  subst j;have e':n=x:=e;subst e';show(sc.names.lookup n==Z .cell)=F2;rw[aX B.nd h1];rfl
end
end
variable{ta:TEd}{C:Ctx}
section
section
variable{C:Ctx}{Φ:Phi}{k:Nat}{X:Cx}
theorem zZ(G:Good C Φ k X)(j:C.lm=1){i:Nat}{y:Str}{t:TAd}{p:Pos}(mt:aL t)(U:X.N[i]?=Z y)(z:Vis X.env.scope y)(B:(y==("__debug__":Str))=Wj)(F:(y==("__classdict__":Str))=Wj)(Fn:PA X (e::es) (lA X.K t))(he:KU (e::es) X.env=(Wj,eval e X.env)::KU es X.env)(J:(OX pos (KU es X.env)).any (·.1)=Wj):PE X (.Call (.Name y p) (e::es) [] pos) (lE X.K (ko Φ i t)):=by
 intro pins s σ H Q I h;obtain⟨ρ,M,rs,rm,a,er,q⟩:=h;obtain⟨v,ev,rd⟩:=rs.2 i _ er
 cases W0.mp rd
 refine LO (thn (oW U z B F pins s σ H (λv H'=>v=.ref a/\H'=H) I ⟨_,ev,rfl,rfl⟩) λu s1 L=>?_);obtain⟨v,H1,fv,r,z,hH⟩:=L;subst z hH
 cases r
 have h2:=cq (G.mono (5000+a)) mt σ H1 Q ⟨ρ,M,rs,rm,q⟩;have O:=Fn pos pins s1 σ H1 (λvs H1=>lR X.K (Φ (5000+a)) vs H1 Q) fv h2;rw[he]at O⊢;refine PySem.W.callWith_of (P:=Uv a) ?_ PySem.W.keeps_F (QE (thn O λus s2 L=>?_))
 ·show((Wj || (OX pos (KU es X.env)).any (·.1)) || Wj)=Wj
  rw[J];rfl
 ·obtain⟨vs,H2,I2,r,q⟩:=L;exact G.clo j a pins s2 σ H2 vs us Q I2 r q
noncomputable def iJ(t:TA)(tl:TE):TA:=λσ H Q=>t σ H λvs H1=>tl σ H1 λv H2=>Q (vs++[v]) H2
theorem A4{tl:TE}(h:PE X e tl)(hs:KU [e] X.env=(Wj,eval e X.env)::KU [] X.env):PA X [e] (iJ (lA X.K aW) tl):=PA.imp (ip h p8 hs) λσ H Q g9=>(by obtain⟨ρ,M,rs,rm,q⟩:=g9;exact q [] H Ext.refl rm RDs.nil)
theorem xA{l:Expr}{tr:TAd}{tl:TE}(ma:ad ta)(mr:aL tr)(j:PE X e (lE X.K ta))(z:PA X (es++[l]) (iJ (lA X.K tr) tl))(hs:KU (e::(es++[l])) X.env=(Wj,eval e X.env)::KU (es++[l]) X.env):PA X (e::es++[l]) (iJ (lA X.K (au ta tr)) tl):=PA.imp (ip j z hs) λσ H Q h=>mN ma mr σ H _ h
theorem xB{K:Frag}{H:Hp}{σ:St}{ρ:aw}(rs:RS K H σ ρ):∀{cs:List Nat} {gs:List D},lN cs ρ=Z gs->∃gv,RDs K H gs gv/\gv.length=cs.length/\∀(i:Nat) (c:Nat),cs[i]?=Z c->∃v:V,gv[i]?=Z v/\σ[c]?=Z (Z v)
 |[],gs,h=>by
  have h:Z []=Z gs:=h
  cases h
  exact⟨[],RDs.nil,rfl,λi c e=>by simp at e⟩
 |c::cs,gs,h=>by
  unfold lN at h;rw[Rh]at h
  cases e1:(ρ[c]?).join with
  |none=>rw[e1]at h;cases h
  |some d=>
   rw[e1]at h
   cases e2:lN cs ρ with
   |none=>unfold lN at e2;simp[e2]at h
   |some gs'=>
    have j:=e2;unfold lN at e2;simp[e2]at h;subst h;obtain⟨gv,r,z,B⟩:=xB rs j;have F:ρ[c]?=Z (Z d):=by
     cases q:ρ[c]? with
     |none=>rw[q]at e1;cases e1
     |some o=>rw[q]at e1;exact congrArg Z e1
    obtain⟨v,G,J⟩:=rs.2 c d F;refine⟨v::gv,RDs.cons J r,by simp[z],λi c' e=>?_⟩
    cases i with
    |zero=>simp at e;subst e;exact⟨v,by simp,G⟩
    |succ i=>simp at e;obtain⟨v',L,O⟩:=B i c' e;exact⟨v',by simpa using L,O⟩
noncomputable def tIs:List Nat->TA
 |[]=>yu
 |i::r=>tT (Dq i) (tIs r)
theorem qD{H:Hp}{vs:List V}:∀{js:List Nat} {Q:List V->Hp->Prop},(∀j∈js,j<vs.length)->Q (js.map λj=>vs.getD j .non) H->tIs js (vs.map Z) H Q
 |[],Q,_,q=>q
 |j::js,Q,h,q=>by have z:=h j KW;refine⟨vs.getD j .non,?_,qD (js:=js) (λi hi=>h i (KP _ hi)) q⟩;rw[KL,z0 z,KH,z0 z];rfl
theorem nD{ns:List Str}(z:X.N=ns)(B:∀x∈ns,Vis X.env.scope x):∀{js:List Nat} {es:List Expr},oK ns js es=F2->PA X es (tIs js)/\es.all aC=F2/\∀j∈js,j<ns.length
 |[],[],_=>⟨p8,rfl,λ_ h=>by simp at h⟩
 |[],_::_,h=>by cases h
 |_::_,[],h=>by cases h
 |j::js,e::es,h=>by
  unfold oK at h;obtain⟨h1,h2⟩:=bC h;obtain⟨F,p2,G⟩:=nD z B h2
  revert h1
  refineλh1=>gh (P:=λe=>PA X (e::es) (tIs (j::js))/\(e::es).all aC=F2/\∀i∈j::js,i<ns.length) e h1 λx pos h=>?_;simp only[p0,decide_eq_true_eq,LG]at h;obtain⟨⟨e1,e2⟩,J⟩:=h;refine⟨ip (oW (by rw[z];exact e1) (B x (KZ e1)) e2 J) F (ae rfl),by simp[aC,p2],λi hi=>?_⟩
  rcases D1.mp hi with rfl|hi
  ·exact(KQ.mp e1).1
  ·exact G i hi
noncomputable def ER(X:Cx)(P:Wk)(pos:Pos)(q:Str)(params:OW)(body:Expr)(sc:Scope):TE:=λ_ H Q=>pJ H P pos q/\∀a H',H a=Y->(∀b o,b≠P->H b=Z o->H' b=Z o)->pJ H' P pos q->FnAt H' a q params body sc (aB X.env.cells sc.names [])->Q (.ref a) H'
theorem ES{params:OW}{body:Expr}(L:xz C Φ k X P)(z:∀x∈sc.names,x.2=.free->(X.env.kindOf x.1=Z .cell))(j:∀env,defaultsOf params env=([],[])):
 PE X (.Lambda params body sc pos) (ER X P pos (C.nm++(".<locals>.":Str)++("<lambda>":Str)) params body sc):=by
 intro pins s σ H Q I h;obtain⟨c,B,hd⟩:=L.cd;refine yG I B hd L.bm (by rw[L.qu]) h.1 (λx hx e=>?_) (j _) λa H' s' I' na kp tg fa=>⟨.ref a,H',I',rfl,h.2 a H' na kp tg fa⟩
 obtain⟨c,e⟩:=I.ok.has x.1 (.inl (z x hx e));rw[e];rfl
theorem xC{N xs:List Str}(h:cV cs N=Z xs):∀(i:Nat) (x:Str),xs[i]?=Z x->∃c,cs[i]?=Z c/\N[c]?=Z x:=by
 induction cs generalizing xs with
 |nil=>cases h;intro i x e;simp at e
 |cons c cs ih=>
  unfold cV at h;rw[Rh]at h
  cases e1:N[c]? with
  |none=>rw[e1]at h;cases h
  |some y=>
   rw[e1]at h
   cases e2:cV cs N with
   |none=>unfold cV at e2;simp[e2]at h
   |some ys=>
    have j:=e2;unfold cV at e2;simp[e2]at h;subst h;intro i x e
    cases i with
    |zero=>simp at e;subst e;exact⟨c,by simp,e1⟩
    |succ i=>simp at e;obtain⟨c',z,B⟩:=ih j i x e;exact⟨c',by simpa using z,B⟩
theorem sQ{N xs:List Str}(h:cV cs N=Z xs):xs.length=cs.length:=by
 induction cs generalizing xs with
 |nil=>cases h;rfl
 |cons c cs ih=>
  unfold cV at h;rw[Rh]at h
  cases e1:N[c]? with
  |none=>rw[e1]at h;cases h
  |some y=>
   rw[e1]at h
   cases e2:cV cs N with
   |none=>unfold cV at e2;simp[e2]at h
   |some ys=>have j:=e2;unfold cV at e2;simp[e2]at h;subst h;simp[ih j]
structure AY(C:Ctx)(j:Nat)(cs js:List Nat)(pos:Pos)(l:Expr) where
 a1:Arg
 a2:Arg
 b:Expr
 sc:Scope
 xs:List Str
 e:l=.Lambda ⟨[],[a1,a2],Y,[],[],Y,[]⟩ b sc pos
 cap:cV cs C.N=Z xs
 S:fS xs a1.arg a2.arg sc
 cel:∀x∈xs,C.sc.names.lookup x=Z .cell
 fre:∀y∈sc.names,y.2=.free->y.1∈xs
 bd:sN C j js (xs++[a1.arg,a2.arg]) sc b=F2
theorem A5{ps:OW}{a:Arg×Arg}(h:kA ps=Z a):ps=⟨[],[a.1,a.2],Y,[],[],Y,[]⟩:=by
 unfold kA at h
 split at h
 ·cases h;rfl
 ·cases h
theorem A6{j:Nat}{l:Expr}(h:AX C j cs js pos l=F2):Nonempty (AY C j cs js pos l):=by
 cases l with
 |Lambda ps b sc pos'=>
  obtain⟨h0,B⟩:=bC (show(decide (pos'=pos)&&os (kA ps) λa=>os (cV cs C.N) (oM C j cs js sc b a.1.arg a.2.arg))=F2 from h);have h0:=of_decide_eq_true h0;subst h0
  cases e1:kA ps with
  |none=>rw[e1]at B;cases B
  |some a=>
   rw[e1]at B
   cases e2:cV cs C.N with
   |none=>dsimp only[os]at B;rw[e2]at B;cases B
   |some xs=>
    dsimp only[os]at B;rw[e2]at B;have h:oM C j cs js sc b a.1.arg a.2.arg xs=F2:=B;unfold oM at h;simp only[p0,decide_eq_true_eq,LG,beq_iff_eq,OD]at h;obtain⟨⟨⟨⟨⟨⟨⟨⟨h1,h2⟩,J⟩,L⟩,O⟩,U⟩,G⟩,F⟩,Fn⟩:=h;refine⟨⟨a.1,a.2,b,sc,xs,by rw[A5 e1],e2,⟨h1,h2,J,by simpa using L,O,U,λx hx=>(G x hx).1,λx hx z=>?_,λx hx=>?_⟩,λx hx=>(G x hx).2,λy fv z=>?_,Fn⟩⟩
    ·have:=(F x hx).1;rw[z]at this;simp at this
    ·have:=(F _ (LB hx)).2;simpa using this
    ·have:=(F y fv).2;rw[z]at this;simpa using this
 |_=>cases h
theorem qE{K:Frag}{H:Hp}{ds:List D}{vs:List V}(r:RDs K H ds vs):∀{js:List Nat},(∀j∈js,j<vs.length)->RDs K H (js.map λi=>ds.getD i .non) (js.map λi=>vs.getD i .non)
 |[],_=>RDs.nil
 |j::js,h=>by
  have z:j<ds.length:=by rw[<-r.length];exact h j KW
  obtain⟨v,e,rd⟩:=r.get (z0 z);refine RDs.cons ?_ (qE r λi hi=>h i (KP _ hi));show RD K H (ds.getD j .non) (vs.getD j .non);rw[KH,KH,z0 z,e];exact rd
theorem A7(G:Good C Φ k X){l:Expr}{t:TAd}{p lpos:Pos}{j:Nat}(mt:aL t)(JR:C.lm=P+2)(hf:C.Γ[f]?=Z x)(hg:Gl X x)(JS:(x==("__debug__":Str))=Wj)(O:AY C j cs js lpos l)(ha:∀tl,PE X l tl->PA X (e::es++[l]) (iJ (lA X.K t) tl))(he:KU (e::(es++[l])) X.env=(Wj,eval e X.env)::KU (es++[l]) X.env)(JT:(OX pos (KU (es++[l]) X.env)).any (·.1)=Wj):
 PE X (.Call (.Name x p) (e::es++[l]) [] pos) (lE X.K (ku Φ f t j cs js P lpos (C.nm++(".<locals>.":Str)++("<lambda>":Str)))):=by
 intro pins s σ H Q I h;obtain⟨a1,a2,b,sc,xs,rfl,B,S,fv,JM,JN⟩:=O;obtain⟨ρ,M,rs,rm,gs,JU,ht⟩:=h;obtain⟨gv,rg,gl,gg⟩:=xB rs JU;have L:=G.lam P JR;obtain⟨fa,fd,ps,hm,hk,hb,F⟩:=L.spc f x hf;have kind:∀y:Str,X.env.kindOf y=C.sc.names.lookup y:=λy=>by show X.env.scope.names.lookup y=_;rw[G.sc]
 have hl:=ES (pos:=lpos) (params:=⟨[],[a1,a2],Y,[],[],Y,[]⟩) (body:=b) (sc:=sc) L (λy J z=>by rw[kind];exact fv _ (JM y J z)) (λenv=>rfl)
 let q0:Str:=C.nm++(".<locals>.":Str)++("<lambda>":Str)
 let cl:=aB X.env.cells sc.names []
 let Qa:List V->Hp->Prop:=λws H2=>∃(vs:List V) (ds:List D) (U:Mem) (a:Wk),ws=vs++[.ref a]/\RM X.K U H2/\RDs X.K H2 ds vs/\RDs X.K H2 gs gv/\FnAt H2 a q0 ⟨[],[a1,a2],Y,[],[],Y,[]⟩ b sc cl /\
  Φ (1000+f) (ds++[.ref a,.int j,.tup gs,.tup (js.map λi:Nat=>.int i)]) U (KE' X.K U H2 Q)
 have hq:iJ (lA X.K t) (ER X P lpos q0 ⟨[],[a1,a2],Y,[],[],Y,[]⟩ b sc) σ H Qa:=by
  refine⟨ρ,M,rs,rm,mt _ _ _ _ (λds U y vs H1 x1 Fn JV=>?_) ht⟩;refine⟨Fn P _ y.1,λa H' na kp tg fa=>?_⟩;have hP:∃ps,H1 P=Z (.tbl ps):=let⟨ps,e,_⟩:=Fn P _ y.1; ⟨ps,e⟩;obtain⟨pt,hP⟩:=hP;have st:Stab H1 H':=⟨λc ys e=>kp c _ (λz=>by rw[z,hP]at e;cases e) e,λc o u e=>kp c _ (λz=>by rw[z,hP]at e;cases e) e⟩
  have x2:Ext U H1 U H':=⟨λc o z e=>kp c o (λz2=>by rw[z2,y.1]at z;cases z) e,λ_ _ _ _=>rfl⟩
  have JJ:RM X.K U H':=λc o e=>by
   by_cases z:c=P
   ·subst z;rw[y.1]at e;cases e;exact tg
   ·exact(Fn c o e).mono st λho e2=>kp c ho z e2
  exact⟨vs,ds,U,a,rfl,JJ,JV.mono st,(rg.mono (x1.stab rm)).mono st,fa,(G.mono _) _ _ _ _ (λd M' kk=>kk.ext (x1.trans x2)) (y.2 a (Fn.out na))⟩
 refine LO (kX I hg hm ?_ JS);refine U4 (h₀:=X.base) I.ok.mod.kin hk (thn (ha _ hl pos pins s σ H Qa I hq) λus s2 g9=>?_) he JT;obtain⟨ws,H2,I2,r,vs,ds,U,a,rfl,JJ,rd,JW,JK,q2⟩:=g9;refine⟨I2.kIn,?_⟩;have C1:iq X.prog X.w X.K X.mg X.base (k-1) (frs X.stack) a (lSp X.K (uV Φ j gs js)) H2 s2.heap:=by
  by_cases hk2:∃k0,k=k0+2
  case neg=>
   refine bb (P:=λ_=>iq X.prog X.w X.K X.mg X.base (k-1) (frs X.stack) a (lSp X.K (uV Φ j gs js)) H2 s2.heap) b JN λg es p pos h=>?_;simp only[p0,decide_eq_true_eq,LG]at h;refine⟨(by obtain⟨pm,c',ctv,oc,vs,t,e1,_⟩:=JK;exact⟨_,_,e1,rfl⟩),?_⟩
   intro A outer s1 H1 u1 u2 v1 v2 Q1 un hr e0 r1 r2 JL;obtain⟨JX,M2,JO,JP,_,q3⟩:=JL;exact absurd q3 ((L.big.resolve_left hk2) j g h.1.1.1.1 _ _ _)
  obtain⟨k0,rfl⟩:=hk2;refine yH (k:=k0) (gs:=gv) I2 JK S (λy J=>by rw[G.sc];exact fv y J) (λi y e=>?_) (by rw[gl,sQ B]) (λfd u1 u2 z z2 z3=>?_) λA outer s1 H1 v1 v2 Q1 cd un JL JY=>?_
  ·obtain⟨c,e1,e2⟩:=xC B i y e;obtain⟨v,e3,e4⟩:=gg i c e1;exact⟨c,by rw[G.N];exact e2,λv' e5=>by rw[e3]at e5;cases e5;exact e4⟩
  ·exact FT S.ne z z2 z3
  obtain⟨JX,M2,JO,JP,_,q3⟩:=JL;clear hl hq Qa JK;refine bb (P:=λb=>∃t,PE (cxL CX0 X.prog X.w X.K X.mg X.base (xs++[a1.arg,a2.arg]) q0 sc a cd cl A outer s1 H1 E0) b t/\t ((gv++[v1,v2]).map Z) H1 Q1) b JN λg es p pos h=>?_;simp only[p0,decide_eq_true_eq,LG]at h;obtain⟨⟨⟨⟨h1,h2⟩,h3⟩,h4⟩,h5⟩:=h;obtain⟨fg,fdg,psg,JZ,K0,K1,Fg⟩:=L.low j g h1
  cases es with
  |nil=>cases h4
  |cons e0 K6=>
   obtain⟨p1,p2,p3⟩:=nD (X:=cxL CX0 X.prog X.w X.K X.mg X.base (xs++[a1.arg,a2.arg]) q0 sc a cd cl A outer s1 H1 E0) (ns:=xs++[a1.arg,a2.arg]) rfl (λy J=>by
    rcases Lo.mp J with J|J
    ·exact .inr (.inr (S.fr y J))
    ·simp only[D1,Lb,or_false]at J
     rcases J with rfl|rfl
     ·exact .inl S.l1
     ·exact .inl S.l2) h5
   simp only[Nk,p0]at p2;refine⟨_,rR (X:=cxL CX0 X.prog X.w X.K X.mg X.base (xs++[a1.arg,a2.arg]) q0 sc a cd cl A outer s1 H1 E0) Fg JY (by show sc.names.lookup g=_;simpa[glB]using h2) JZ K0 K1 .nil tX p1 h3 (ae p2.1) (cY p2.2),?_⟩
   have hlen:(gv++[v1,v2]).length=(xs++[a1.arg,a2.arg]).length:=by simp[gl,sQ B]
   refine qD (λi hi=>by rw[hlen];exact p3 i hi) ⟨_,M2,JO,?_,q3⟩
   rw[Mz];exact qE ((JW.mono ⟨un.tups,un.frzs⟩).append JP) λi hi=>by rw[hlen];exact p3 i hi
 have r2:Vals (vs++[.ref a]) (us++[]):=by rw[Mz];exact r
 have JQ:spC X.prog X.w X.K X.mg X.base k Φ f X.stack s2 (vs++[.ref a]) H2 Q E0:=⟨ds,a,j,gs,js,U,JJ,rd.append (RDs.cons (W0.mpr rfl) RDs.nil),C1,q2⟩;have K5:(us++[]).length=ps.length:=by rw[<-r2.length];exact F.len _ _ _ _ _ _ JQ
 refine Sl (Nh (F.run X.A X.stack s2 H2 ⟨us,[]⟩ (us++[]) (vs++[.ref a]) Q E0 G.room I2.env0 (hb s2 us I2.kIn K5) r2 JQ) λr s' hq=>?_)
 cases r with
 |error e=>exact hq.elim
 |ok fl=>
  cases fl with
  |ret u=>exact I2.after hq
  |next=>exact False.elim hq
  |brk=>exact False.elim hq
  |cont=>exact False.elim hq
end
end
variable{p:Wk}{tb:TCd}
section
section
variable{Φ:Phi}{k:Nat}
theorem dX{X:Cx}(G:Good C Φ k X){F:Sem Fin->Sem Fin}{ifs:List Expr}{ts:List TTd}(mb:cu tb)(mt:∀t∈ts,aI t)(j:PB X F (lC X.K p tb))(z:Me (λc t=>PT X c t) ifs (ts.map (lT X.K))):
 PB X (λk=>bv ifs X.env>>=λok=>if ok=F2 then F k else k) (lC X.K p (bo ts tb)):=
 PB.imp (yF G.hx j z) (jT mb mt)
theorem i6{m:MC}{Cs:Ctx}{g2:LV}{gs:List LV}{elt:Expr}(h:okC m Cs C (g2::gs) elt=F2):g2.is_async=0:=by
 obtain⟨t,i,f,a⟩:=g2
 cases m with
 |last src g ifs m=>
  cases gs with
  |nil=>simp only[okC,p0,decide_eq_true_eq]at h;exact h.1.1.1.1
  |cons _ _=>simp[okC]at h
 |more src g ifs rest=>
  cases gs with
  |nil=>simp[okC]at h
  |cons _ _=>simp only[okC,p0,decide_eq_true_eq]at h;exact h.1.1.1.1
mutual
theorem sE:∀(m:ME) {C:Ctx} {X:Cx} (G:Good C Φ k X) (e:Expr),okE m C e=F2->PE X e (lE X.K (wE Φ m))
 |.var i,C,X,G,e,h=>by refine gh e h λx _ h=>?_;simp only[p0,LG,decide_eq_true_eq]at h;exact E7 (by rw[G.N];exact h.1.1.1) (G.vis h.1.1.2) h.1.2 h.2
 |.int i,C,X,G,e,h=>by refine i4 e h λc _ _ h=>?_;rw[of_decide_eq_true h];exact E8
 |.bl i,C,X,G,e,h=>by refine i4 e h λc _ _ h=>?_;rw[of_decide_eq_true h];exact G1
 |.non,C,X,G,e,h=>by refine i4 e h λc _ _ h=>?_;rw[of_decide_eq_true h];exact E9
 |.bin op a b,C,X,G,e,h=>by refine EG e h λl o r _ h=>?_;simp only[p0,decide_eq_true_eq]at h;rw[h.1.1];exact G2 (EO G op) (qv op) (mE G.mono a) (mE G.mono b) (sE a G _ h.1.2) (sE b G _ h.2)
 |.neg a,C,X,G,e,h=>by
  refine jn e h λo x _ h=>?_;replace h:=bC h;obtain⟨ho,h⟩:=h
  cases of_decide_eq_true ho
  exact G3 zb pX (mE G.mono a) (sE a G _ h)
 |.cmp op a b,C,X,G,e,h=>by refine qB e h λl os rs pos h=>?_;refine cg os h λo h=>?_;refine cg rs h λr h=>?_;simp only[p0,decide_eq_true_eq]at h;obtain⟨⟨⟨ho,fv⟩,hb⟩,hm⟩:=h;rw[LG]at hm;subst ho;exact Ea (sP G op) (gf op) (mE G.mono a) (mE G.mono b) (sE a G _ fv) (sE b G _ hb) hm
 |.and es,C,X,G,e,h=>by
  refine fC e h λo xs _ h=>?_;replace h:=bC h;obtain⟨ho,h⟩:=h;obtain⟨ho,L⟩:=bC ho
  cases of_decide_eq_true ho
  exact sAnds es G _ _ h (by intro z;rw[z]at L;cases L)
 |.or es,C,X,G,e,h=>by
  refine fC e h λo xs _ h=>?_;replace h:=bC h;obtain⟨ho,h⟩:=h;obtain⟨ho,L⟩:=bC ho
  cases of_decide_eq_true ho
  exact sOrs es G _ _ h (by intro z;rw[z]at L;cases L)
 |.not a,C,X,G,e,h=>by
  refine jn e h λo x _ h=>?_;replace h:=bC h;obtain⟨ho,h⟩:=h
  cases of_decide_eq_true ho
  exact Ek (mE G.mono a) (sE a G _ h)
 |.ite c a b,C,X,G,e,h=>by refine EH e h λt x y _ h=>?_;simp only[p0]at h;exact G9 (mT G.mono c) (mE G.mono a) (mE G.mono b) (sT c G _ h.1.1) (sE a G _ h.1.2) (sE b G _ h.2)
 |.tup es,C,X,G,e,h=>by refine dq e h λxs _ _ h=>?_;exact Ec (mA G.mono es) (sA es G _ h)
 |.lst es,C,X,G,e,h=>by refine Gm e h λxs _ h=>?_;exact Ed (mA G.mono es) (sA es G _ h)
 |.ix a b,C,X,G,e,h=>by refine dP e h λx y _ h=>?_;simp only[p0]at h;exact G4 (Hr (by have:=G.units;lia)) si (mE G.mono a) (mE G.mono b) (sE a G _ h.1.2) (sE b G _ h.2) (zX h.1.1)
 |.sl a lo hi,C,X,G,e,h=>by refine jSl e h λx l u s p pos h=>?_;refine jon s h fun  h=>?_;simp only[p0]at h;exact Ga (mE G.mono a) (mO G.mono lo) (mO G.mono hi) (sE a G _ h.1.1) (sO lo G _ h.1.2) (sO hi G _ h.2)
 |.call f es,C,X,G,e,h=>by
  refine bb e h λx xs p pos h=>?_;simp only[p0,decide_eq_true_eq,LG]at h;have hA:=sA es G _ h.2;have J:=dv h.2
  cases xs with
  |nil=>
   cases es with
   |nil=>exact zY G h.1.1.1 (G.gl h.1.1.2) h.1.2
   |cons _ _=>simp[okEs]at h
  |cons y ys=>simp only[Nk,p0]at J;exact Cv G (mA G.mono es) h.1.1.1 (G.gl h.1.1.2) h.1.2 hA (ae J.1) (cY J.2)
 |.callC i es,C,X,G,e,h=>by
  refine bb e h λx xs p pos h=>?_;simp only[p0,decide_eq_true_eq,LG]at h;obtain⟨⟨⟨⟨⟨⟨h0,h1⟩,h2⟩,h3⟩,h4⟩,h6⟩,h7⟩:=h;have hA:=sA es G _ h7;have J:=dv h7
  cases xs with
  |nil=>cases h6
  |cons y ys=>simp only[Nk,p0]at J;exact zZ G h0 (mA G.mono es) (by rw[G.N];exact h1) (G.vis h2) h3 h4 hA (ae J.1) (cY J.2)
 |.callL f es j cs js P lpos q,C,X,G,e,h=>by
  refine bb e h λx xs p pos h=>?_;simp only[p0,decide_eq_true_eq,LG]at h;obtain⟨⟨⟨⟨⟨⟨⟨h0,h1⟩,h2⟩,h3⟩,h4⟩,h5⟩,h6⟩,h7⟩:=h;subst h4
  cases e5:xs.getLast? with
  |none=>rw[e5]at h5;cases h5
  |some l=>
   rw[e5]at h5;obtain⟨O⟩:=A6 (C:=C) h5;have J:=dv h7;have hA:=λtl hl=>sAL es G xs.dropLast h7 l tl hl (by rw[O.e];rfl)
   obtain⟨ys,rfl⟩:∃ys,xs=ys++[l]:=⟨xs.dropLast,(by
    have L:xs≠[]:=λz=>by rw[z]at e5;cases e5
    rw[List.getLast?_eq_getLast L]at e5;have:=QS L;rw[Ml.inj e5]at this;exact this.symm)⟩
   rw[List.dropLast_concat]at h6 h7 J hA
   cases ys with
   |nil=>cases h6
   |cons y ys=>simp only[Nk,p0]at J;exact A7 G (mA G.mono es) h0 h1 (G.gl h2) h3 O hA (ae J.1) (cY (by rw[List.all_append,J.2,O.e];rfl))
 |.blt f es,C,X,G,e,h=>by
  refine bb e h λx xs p pos h=>?_;simp only[p0,decide_eq_true_eq,LG]at h;have hA:=sA es G _ h.2;have J:=dv h.2;obtain⟨⟨⟨rfl,hg⟩,L⟩,_⟩:=h
  cases xs with
  |nil=>simp at L
  |cons y ys=>simp only[Nk,p0]at J;exact EQ G (mA G.mono es) (G.gl hg) hA (ae J.1) (cY J.2)
 |.dnew t,C,X,G,e,h=>by refine Gn e h λks vs _ h=>?_;refine i5 ks h fun  h=>?_;refine i5 vs h fun  h=>?_;exact Cd
 |.sortI a,C,X,G,e,h=>by refine bb e h λx xs p pos h=>?_;refine cg xs h λw h=>?_;refine oJ w h λy n ys ap cp h=>?_;refine i5 ys h fun  h=>?_;simp only[p0,decide_eq_true_eq]at h;obtain⟨⟨⟨⟨⟨rfl,hg⟩,rfl⟩,Fn⟩,hl⟩,fv⟩:=h;exact zJ (by have:=G.units;lia) (mE G.mono a) G.calm (sE a G _ fv) (G.gl hg) (G.mgB _ (by decide)) (gu Fn) hl
 |.dget o k' x,C,X,G,e,h=>by
  refine oJ e h λy n xs ap cp h=>?_;refine gn xs h λe1 e2 h=>?_;simp only[p0,decide_eq_true_eq]at h;obtain⟨⟨⟨⟨⟨⟨⟨rfl,Fn⟩,hl⟩,JL⟩,U⟩,ho⟩,hk⟩,hx⟩:=h;have st:KU [e1,e2] X.env=[(Wj,eval e1 X.env),(Wj,eval e2 X.env)]:=by rw[ae JL,ae U];rfl
  refine Cn (by have:=G.units;lia) (mE G.mono o) (mE G.mono k') (mE G.mono x) (sE o G _ ho) (sE k' G _ hk) (sE x G _ hx) ⟨gu Fn,?_,hl,?_⟩
  ·rw[st];rfl
  ·rw[st];rfl
 |.lrng a,C,X,G,e,h=>by refine bb e h λx xs p pos h=>?_;refine cg xs h λw h=>?_;refine bb w h λz ys p2 JK h=>?_;refine cg ys h λy h=>?_;simp only[p0,decide_eq_true_eq]at h;obtain⟨⟨⟨⟨⟨rfl,hg⟩,rfl⟩,JJ⟩,hs⟩,fv⟩:=h;exact BJ (mE G.mono a) G.calm (sE a G _ fv) (G.gl hg) (G.mgB _ (by decide)) (G.gl JJ) (G.mgB _ (by decide)) (ae hs)
 |.lrng2 a b,C,X,G,e,h=>by refine bb e h λx xs p pos h=>?_;refine cg xs h λw h=>?_;refine bb w h λz ys p2 JK h=>?_;refine gn ys h λy u h=>?_;simp only[p0,decide_eq_true_eq]at h;obtain⟨⟨⟨⟨⟨⟨⟨rfl,hg⟩,rfl⟩,JJ⟩,hs⟩,U⟩,fv⟩,hb⟩:=h;exact zn (aj (mE G.mono a) (aj (mE G.mono b) aq)) G.calm (aU (mE G.mono a) (aj (mE G.mono b) aq) (sE a G _ fv) (aU (mE G.mono b) aq (sE b G _ hb) cC (ae U)) (ae hs)) (G.gl hg) (G.mgB _ (by decide)) (G.gl JJ) (G.mgB _ (by decide)) (by rw[ae hs,ae U];rfl) (ae U)
 |.meth m o a,C,X,G,e,h=>by
  refine oJ e h λx n xs ap cp h=>?_;refine cg xs h λy h=>?_;simp only[p0,decide_eq_true_eq]at h;obtain⟨⟨⟨⟨⟨hn,Fn⟩,hl⟩,hs⟩,ho⟩,fv⟩:=h;subst hn;have pa:PA X [y] (lA X.K (au (wE Φ a) aW)):=aU (mE G.mono a) aq (sE a G _ fv) cC (ae hs);have few:((OX cp (KU [y] X.env)).all (λx=>!x.1)&&(VD cp (T5 [] X.env)).all (λx=>x.1.isSome)&&decide (([y]:List Expr).length+([]:List QZ).length+(if([]:List QZ).isEmpty then 0 else 1)<30))=F2:=by rw[ae hs];rfl
  cases m with
  |append=>exact PE.imp (AJ Sa PySem.F.slot_list_append PySem.F.type_list_append mC (sE o G _ ho) pa (gu Fn) few hl (ae hs) rfl) (sm j3 (mE G.mono o) (aj (mE G.mono a) aq) zh)
 |.ins o i a,C,X,G,e,h=>by
  refine oJ e h λx n xs ap cp h=>?_;refine gn xs h λy z h=>?_;simp only[p0,decide_eq_true_eq]at h;obtain⟨⟨⟨⟨⟨⟨⟨hn,Fn⟩,hl⟩,hs⟩,U⟩,ho⟩,hi⟩,fv⟩:=h;subst hn;have pa:PA X [y,z] (lA X.K (au (wE Φ i) (au (wE Φ a) aW))):=aU (mE G.mono i) (aj (mE G.mono a) aq) (sE i G _ hi) (aU (mE G.mono a) aq (sE a G _ fv) cC (ae U)) (ae hs);have few:((OX cp (KU [y,z] X.env)).all (λx=>!x.1)&&(VD cp (T5 [] X.env)).all (λx=>x.1.isSome)&&decide (([y,z]:List Expr).length+([]:List QZ).length+(if([]:List QZ).isEmpty then 0 else 1)<30))=F2:=by rw[ae hs,ae U];rfl
  exact PE.imp (AJ Sa RJ PySem.F.type_list_insert xj (sE o G _ ho) pa (gu Fn) few hl (ae hs) (by rw[ae U];rfl)) (sm j7 (mE G.mono o) (aj (mE G.mono i) (aj (mE G.mono a) aq)) zM)
 |.revS a st,C,X,G,e,h=>by refine jSl e h λx l u s p pos h=>?_;refine jon l h fun  h=>?_;refine jon u h fun  h=>?_;refine jos s h λs h=>?_;simp only[p0]at h;exact Cr (mE G.mono a) (gT (mE G.mono st)) (sE a G _ h.1) (sj (mE G.mono st) (sE st G _ h.2))
 |.orL a b,C,X,G,e,h=>by
  refine fC e h λo xs _ h=>?_;refine gn xs h λx y h=>?_;obtain⟨ho,hy⟩:=bC h;obtain⟨ho,hx⟩:=bC ho
  cases of_decide_eq_true ho
  exact EE (mE G.mono a) (mE G.mono b) (sE a G _ hx) (sE b G _ hy)
 |.comp fr N' c,C,X,G,e,h=>by
  refine xt e h λelt gens sc pos h=>?_;simp only[p0]at h;have B:bg sc X.env.scope X.N N' fr:=by rw[G.sc,G.N];exact kB h.1
  have B':bg sc C.sc C.N N' fr:=kB h.1
  cases c with
  |last src g ifs m=>
   have h2:=h.2;simp only[okC]at h2
   split at h2
   ·rename_i t it fs a;simp only[p0,decide_eq_true_eq]at h2;obtain⟨⟨⟨⟨rfl,hi⟩,hg⟩,ht⟩,he⟩:=h2;refine PE.imp (iZ G.calm G.hx B (λg' z=>by simp at z) (sI src G _ t hi).1 (λs H fp=>sG (G.blk B' s H fp) g t hg) (tb:=λp=>lC X.K p (bo (wTl Φ ifs) (dN (wE Φ m)))) (λs H fp p=>?_) (sI src G _ t hi).2) (eK (mI G.mono src) (aR (bO (mE G.mono m)) (mTl G.mono ifs)))
    have G':=G.blk B' s H fp;exact dX (p:=p) G' (bO (mE G.mono m)) (mTl G.mono ifs) (PB.imp (lh G'.hx (sE m G' elt he) rfl) (gX (mE G.mono m))) (sTl ifs G' fs ht)
   ·cases h2
  |more src g ifs rest=>
   have h2:=h.2;simp only[okC]at h2
   split at h2
   ·rename_i t it fs a g2 gs;simp only[p0,decide_eq_true_eq]at h2;obtain⟨⟨⟨⟨rfl,hi⟩,hg⟩,ht⟩,he⟩:=h2;have JM:∀g',(g2::gs)[0]?=Z g'->g'.is_async=0:=fun g' z=>by
     have z':g2=g':=by simpa using z
     subst z';exact i6 he
    refine PE.imp (iZ G.calm G.hx B JM (sI src G _ t hi).1 (λs H fp=>sG (G.blk B' s H fp) g t hg) (tb:=λp=>lC X.K p (bo (wTl Φ ifs) (wCl Φ rest))) (λs H fp p=>?_) (sI src G _ t hi).2) (eK (mI G.mono src) (aR (mCl G.mono rest) (mTl G.mono ifs)));have G':=G.blk B' s H fp;exact dX (p:=p) G' (mCl G.mono rest) (mTl G.mono ifs) (sCl rest G' elt (⟨t,it,fs,0⟩::g2::gs) sc pos 0 (.inl rfl) p he) (sTl ifs G' fs ht)
   ·cases h2
theorem sA:∀(m:MEs) {C:Ctx} {X:Cx} (G:Good C Φ k X) (es:List Expr),okEs m C es=F2->PA X es (lA X.K (wA Φ m))
 |.nil,C,X,G,es,h=>by simp[okEs]at h;subst h;exact cC
 |.cons m r,C,X,G,[],h=>by simp[okEs]at h
 |.cons m r,C,X,G,e::es,h=>by simp only[okEs,p0]at h;exact aU (mE G.mono m) (mA G.mono r) (sE m G e h.1.2) (sA r G es h.2) (ae h.1.1)
theorem sAL:∀(m:MEs) {C:Ctx} {X:Cx} (G:Good C Φ k X) (es:List Expr),okEs m C es=F2->∀(l:Expr) (tl:TE),PE X l tl->aC l=F2->PA X (es++[l]) (iJ (lA X.K (wA Φ m)) tl)
 |.nil,C,X,G,es,h=>by simp[okEs]at h;subst h;exactλl tl j z=>A4 j (ae z)
 |.cons m r,C,X,G,[],h=>by simp[okEs]at h
 |.cons m r,C,X,G,e::es,h=>by simp only[okEs,p0]at h;exactλl tl j z=>xA (mE G.mono m) (mA G.mono r) (sE m G e h.1.2) (sAL r G es h.2 l tl j z) (ae h.1.1)
theorem sAnds:∀(m:MEs) {C:Ctx} {X:Cx} (G:Good C Φ k X) (es:List Expr) (pos:Pos),okEs m C es=F2->es≠[]->PE X (.BoolOp .And es pos) (lE X.K (wAnds Φ m))
 |.nil,C,X,G,es,pos,h,j=>by simp[okEs]at h;exact absurd h j
 |.cons m r,C,X,G,[],pos,h,j=>absurd rfl j
 |.cons m .nil,C,X,G,e::es,pos,h,_=>by simp only[okEs,p0]at h;obtain⟨h1,h2⟩:=h;simp at h2;subst h2;exact wm (sE m G e h1.2)
 |.cons m (.cons m2 r),C,X,G,e::es,pos,h,_=>by
  simp only[okEs,p0]at h;obtain⟨h1,h2⟩:=h
  cases es with
  |nil=>simp at h2
  |cons f fs=>exact Ej (mE G.mono m) (mAnds G.mono _) (sE m G e h1.2) (sAnds (.cons m2 r) G (f::fs) pos (by simpa only[okEs,p0]using h2) (by simp))
theorem sOrs:∀(m:MEs) {C:Ctx} {X:Cx} (G:Good C Φ k X) (es:List Expr) (pos:Pos),okEs m C es=F2->es≠[]->PE X (.BoolOp .Or es pos) (lE X.K (wOrs Φ m))
 |.nil,C,X,G,es,pos,h,j=>by simp[okEs]at h;exact absurd h j
 |.cons m r,C,X,G,[],pos,h,j=>absurd rfl j
 |.cons m .nil,C,X,G,e::es,pos,h,_=>by simp only[okEs,p0]at h;obtain⟨h1,h2⟩:=h;simp at h2;subst h2;exact wm (sE m G e h1.2)
 |.cons m (.cons m2 r),C,X,G,e::es,pos,h,_=>by
  simp only[okEs,p0]at h;obtain⟨h1,h2⟩:=h
  cases es with
  |nil=>simp at h2
  |cons f fs=>exact G8 (mE G.mono m) (mOrs G.mono _) (sE m G e h1.2) (sOrs (.cons m2 r) G (f::fs) pos (by simpa only[okEs,p0]using h2) (by simp))
theorem sO:∀(m:MO) {C:Ctx} {X:Cx} (G:Good C Φ k X) (e:Option Expr),okO m C e=F2->PO X e (lO X.K (wO Φ m))
 |.none,C,X,G,e,h=>by simp[okO]at h;subst h;exact C3
 |.some m,C,X,G,Y,h=>by simp[okO]at h
 |.some m,C,X,G,Z e,h=>by simp only[okO]at h;exact sj (mE G.mono m) (sE m G e h)
theorem sT:∀(m:MT) {C:Ctx} {X:Cx} (G:Good C Φ k X) (e:Expr),okT m C e=F2->PT X e (lT X.K (wT Φ m))
 |.tru m,C,X,G,e,h=>by simp only[okT,p0]at h;exact Ef (mE G.mono m) (sE m G e h.2) (uU h.1)
 |.cmp op a b,C,X,G,e,h=>by refine qB e h λl os rs pos h=>?_;refine cg os h λo h=>?_;refine cg rs h λr h=>?_;simp only[p0,decide_eq_true_eq]at h;obtain⟨⟨⟨ho,B⟩,F⟩,hm⟩:=h;rw[LG]at hm;subst ho;exact Eb (sP G op) (gf op) (mE G.mono a) (mE G.mono b) (sE a G _ B) (sE b G _ F) hm
 |.and ts,C,X,G,e,h=>by
  refine fC e h λo xs _ h=>?_;replace h:=bC h;obtain⟨ho,h⟩:=h;obtain⟨ho,j⟩:=bC ho
  cases of_decide_eq_true ho
  exact(sAndTs ts G _ _ h (by intro z;rw[z]at j;cases j)).pt
 |.or ts,C,X,G,e,h=>by
  refine fC e h λo xs _ h=>?_;replace h:=bC h;obtain⟨ho,h⟩:=h;obtain⟨ho,j⟩:=bC ho
  cases of_decide_eq_true ho
  exact(sOrTs ts G _ _ h (by intro z;rw[z]at j;cases j)).pt
 |.not t,C,X,G,e,h=>by
  refine jn e h λo x _ h=>?_;replace h:=bC h;obtain⟨ho,h⟩:=h
  cases of_decide_eq_true ho
  exact Eg (mT G.mono t) (sT t G _ h)
theorem sAndTs:∀(m:MTs) {C:Ctx} {X:Cx} (G:Good C Φ k X) (es:List Expr) (pos:Pos),okTs m C es=F2->es≠[]->PW X (.BoolOp .And es pos) (lT X.K (wAndTs Φ m))
 |.nil,C,X,G,es,pos,h,j=>by simp[okTs]at h;exact absurd h j
 |.cons m r,C,X,G,[],pos,h,j=>absurd rfl j
 |.cons m .nil,C,X,G,e::es,pos,h,_=>by simp only[okTs,p0]at h;obtain⟨h1,h2⟩:=h;simp at h2;subst h2;exact C0 (sT m G e h1)
 |.cons m (.cons m2 r),C,X,G,e::es,pos,h,_=>by
  simp only[okTs,p0]at h;obtain⟨h1,h2⟩:=h
  cases es with
  |nil=>simp at h2
  |cons f fs=>exact Ei (mT G.mono m) (mAndTs G.mono _) (sT m G e h1) (sAndTs (.cons m2 r) G (f::fs) pos (by simpa only[okTs,p0]using h2) (by simp))
theorem sOrTs:∀(m:MTs) {C:Ctx} {X:Cx} (G:Good C Φ k X) (es:List Expr) (pos:Pos),okTs m C es=F2->es≠[]->PW X (.BoolOp .Or es pos) (lT X.K (wOrTs Φ m))
 |.nil,C,X,G,es,pos,h,j=>by simp[okTs]at h;exact absurd h j
 |.cons m r,C,X,G,[],pos,h,j=>absurd rfl j
 |.cons m .nil,C,X,G,e::es,pos,h,_=>by simp only[okTs,p0]at h;obtain⟨h1,h2⟩:=h;simp at h2;subst h2;exact Eh (sT m G e h1)
 |.cons m (.cons m2 r),C,X,G,e::es,pos,h,_=>by
  simp only[okTs,p0]at h;obtain⟨h1,h2⟩:=h
  cases es with
  |nil=>simp at h2
  |cons f fs=>exact G7 (mT G.mono m) (mOrTs G.mono _) (sT m G e h1) (sOrTs (.cons m2 r) G (f::fs) pos (by simpa only[okTs,p0]using h2) (by simp))
theorem sTl:∀(m:MTs) {C:Ctx} {X:Cx} (G:Good C Φ k X) (es:List Expr),okTs m C es=F2->Me (λc t=>PT X c t) es ((wTl Φ m).map (lT X.K))
 |.nil,C,X,G,es,h=>by simp[okTs]at h;subst h;exact .nil
 |.cons m r,C,X,G,[],h=>by simp[okTs]at h
 |.cons m r,C,X,G,e::es,h=>by simp only[okTs,p0]at h;exact .cons (sT m G e h.1) (sTl r G es h.2)
theorem sI:∀(m:MI) {C:Ctx} {X:Cx} (G:Good C Φ k X) (e tg:Expr),okI m C tg e=F2->PI X tg e (lI X.K (wI Φ m))/\∀x,Nx e X.env x=pure x
 |.seq m,C,X,G,e,tg,h=>by simp only[okI,p0]at h;exact⟨Ep (mE G.mono m) (sE m G e h.2),xw h.1⟩
 |.rng1 a,C,X,G,e,tg,h=>by refine bb e h λx xs p pos h=>?_;refine cg xs h λy h=>?_;simp only[p0,decide_eq_true_eq]at h;obtain⟨⟨⟨rfl,B⟩,hs⟩,F⟩:=h;exact⟨C7 (aj (mE G.mono a) aq) (G.gl B) (G.mgB _ (by decide)) (aU (mE G.mono a) aq (sE a G _ F) cC (ae hs)) (ae hs),λx=>rfl⟩
 |.rng2 a b,C,X,G,e,tg,h=>by refine bb e h λx xs p pos h=>?_;refine gn xs h λy z h=>?_;simp only[p0,decide_eq_true_eq]at h;obtain⟨⟨⟨⟨⟨rfl,B⟩,hs⟩,j⟩,F⟩,L⟩:=h;exact⟨C8 (aj (mE G.mono a) (aj (mE G.mono b) aq)) (G.gl B) (G.mgB _ (by decide)) (aU (mE G.mono a) (aj (mE G.mono b) aq) (sE a G _ F) (aU (mE G.mono b) aq (sE b G _ L) cC (ae j)) (ae hs)) (by rw[ae hs,ae j];rfl) (ae j),λx=>rfl⟩
 |.enum a,C,X,G,e,tg,h=>by refine bb e h λx xs p pos h=>?_;refine cg xs h λy h=>?_;refine dq tg h λts kt pt h=>?_;simp only[p0,decide_eq_true_eq]at h;obtain⟨⟨⟨rfl,B⟩,hs⟩,F⟩:=h;exact⟨Cb (mE G.mono a) (G.gl B) (G.mgB _ (by decide)) (aU (mE G.mono a) aq (sE a G _ F) cC (ae hs)) (ae hs),λx=>rfl⟩
 |.rev a,C,X,G,e,tg,h=>by refine bb e h λx xs p pos h=>?_;refine cg xs h λy h=>?_;simp only[p0,decide_eq_true_eq]at h;obtain⟨⟨⟨rfl,B⟩,hs⟩,F⟩:=h;exact⟨Ez (mE G.mono a) (sE a G _ F) (G.gl B) (G.mgB _ (by decide)) (ae hs),λx=>rfl⟩
 |.zip3 a b c,C,X,G,e,tg,h=>by refine bb e h λx xs p pos h=>?_;refine Hz xs h λy z u h=>?_;refine dq tg h λts kt pt h=>?_;simp only[p0,decide_eq_true_eq]at h;obtain⟨⟨⟨⟨⟨⟨⟨rfl,B⟩,hs⟩,j⟩,J⟩,F⟩,L⟩,O⟩:=h;exact⟨Ca (mE G.mono a) (mE G.mono b) (mE G.mono c) (G.gl B) (G.mgB _ (by decide)) (aU (mE G.mono a) (aj (mE G.mono b) (aj (mE G.mono c) aq)) (sE a G _ F) (aU (mE G.mono b) (aj (mE G.mono c) aq) (sE b G _ L) (aU (mE G.mono c) aq (sE c G _ O) cC (ae J)) (ae j)) (ae hs)) (by rw[ae hs,ae j,ae J];rfl) (by rw[ae j,ae J];rfl),λx=>rfl⟩
 |.zip a b,C,X,G,e,tg,h=>by refine bb e h λx xs p pos h=>?_;refine gn xs h λy z h=>?_;refine dq tg h λts kt pt h=>?_;simp only[p0,decide_eq_true_eq]at h;obtain⟨⟨⟨⟨⟨rfl,B⟩,hs⟩,j⟩,F⟩,L⟩:=h;exact⟨Es (mE G.mono a) (mE G.mono b) (G.gl B) (G.mgB _ (by decide)) (aU (mE G.mono a) (aj (mE G.mono b) aq) (sE a G _ F) (aU (mE G.mono b) aq (sE b G _ L) cC (ae j)) (ae hs)) (by rw[ae hs,ae j];rfl) (ae j),λx=>rfl⟩
theorem sCl:∀(m:MC) {C:Ctx} {X:Cx} (G:Good C Φ k X) (elt:Expr) (gens:List LV) (sc:Scope) (pos:Pos) (d:Nat) (_:d=0∨d=d) (p:Wk),okC m C C (gens.drop (d+1)) elt=F2->
 PB X (bf elt gens sc pos d (.ref p) X.env) (lC X.K p (wCl Φ m))
 |.last src g ifs m,C,X,G,elt,gens,sc,pos,d,_,p,h=>by
  simp only[okC]at h
  split at h
  ·rename_i t it fs a hd;simp only[p0,decide_eq_true_eq]at h;obtain⟨⟨⟨⟨rfl,hi⟩,j⟩,B⟩,he⟩:=h;have e1:gens[d+1]?=Z ⟨t,it,fs,0⟩:=by
    have z:(gens.drop (d+1))[0]?=Z ⟨t,it,fs,0⟩:=by rw[hd];rfl
    rw[OO]at z;simpa using z
   have e2:gens[d+1+1]?=Y:=by
    have z:(gens.drop (d+1))[1]?=Y:=by rw[hd];rfl
    rw[OO]at z;simpa using z
   refine PB.imp (mH G.hx G.calm e1 (λg' z=>by rw[e2]at z;cases z) (sI src G _ t hi).1 (sG G g t j) (dX (p:=p) G (bO (mE G.mono m)) (mTl G.mono ifs) (PB.imp (lh G.hx (sE m G elt he) e2) (gX (mE G.mono m))) (sTl ifs G fs B)) (sI src G _ t hi).2) (j5 (mI G.mono src) (aR (bO (mE G.mono m)) (mTl G.mono ifs)))
  ·cases h
 |.more src g ifs rest,C,X,G,elt,gens,sc,pos,d,_,p,h=>by
  simp only[okC]at h
  split at h
  ·rename_i t it fs a g2 gs hd;simp only[p0,decide_eq_true_eq]at h;obtain⟨⟨⟨⟨rfl,hi⟩,j⟩,B⟩,he⟩:=h;have e1:gens[d+1]?=Z ⟨t,it,fs,0⟩:=by
    have z:(gens.drop (d+1))[0]?=Z ⟨t,it,fs,0⟩:=by rw[hd];rfl
    rw[OO]at z;simpa using z
   have e2:gens[d+1+1]?=Z g2:=by
    have z:(gens.drop (d+1))[1]?=Z g2:=by rw[hd];rfl
    rw[OO]at z;simpa using z
   have J:gens.drop (d+1+1)=g2::gs:=by
    have z:(gens.drop (d+1)).drop 1=g2::gs:=by rw[hd];rfl
    rw[List.drop_drop]at z;simpa using z
   have F:∀g',gens[d+1+1]?=Z g'->g'.is_async=0:=λg' z=>by rw[e2]at z;cases z;exact i6 he
   refine PB.imp (mH G.hx G.calm e1 F (sI src G _ t hi).1 (sG G g t j) (dX (p:=p) G (mCl G.mono rest) (mTl G.mono ifs) (sCl rest G elt gens sc pos (d+1) (.inr rfl) p (by rw[J];exact he)) (sTl ifs G fs B)) (sI src G _ t hi).2) (j5 (mI G.mono src) (aR (mCl G.mono rest) (mTl G.mono ifs)))
  ·cases h
end
end
end
section
section
variable{Φ:Phi}{k:Nat}{C:Ctx}{X:Cx}
theorem A8{ts vs:List Expr}{kk j:Nat}{pp p2:Pos}(hs:env.scope=sc)(z:sc.kind=.function)(h:uP sc ts vs=F2):Ou [.Tuple ts kk pp] (.Tuple vs j p2) env=pure Y:=by
 have B:env.blockKind=.function:=by unfold RN;rw[hs,z];rfl
 have h':uP sc ts vs=F2:=h;unfold Ou;dsimp only;rw[B]
 by_cases c1:(!(ts.length==2 || ts.length==3) || vs.length != ts.length)=F2
 ·simp only[c1,Bool.true_or,if_true]
 ·simp only[Qp]at c1;rw[c1];simp only[Qz,bne_self_eq_false,Mx,if_false]
  split
  ·rfl
  ·
    generalize F:List.filterMap _ ts=L;obtain rfl:L=bc sc ts:=by
     rw[<-F];unfold bc;congr 1
     funext x
     cases x<;>first|rfl|(unfold Ui;rw[hs])
    unfold uP at h';rw[c1]at h';simp only[Qz,QR]at h'
    by_cases c3:((bc sc ts).length != ts.length || (bc sc ts).eraseDups.length != (bc sc ts).length)=F2
    ·rw[if_pos c3]
    ·rw[if_neg c3];have G:vs.all (TU 8)=F2:=by
      rcases h' with h'|h'
      ·exact absurd (QR _ _ |>.mpr h') c3
      ·exact h'
     rw[if_pos G]
theorem Cw{ts vs:List Expr}{ns:List Str}{kk j:Nat}{pp p2:Pos}(hs:env.scope=sc)(B:sc.kind=.function)(h:uR sc ts vs ns=F2):Ou [.Tuple ts kk pp] (.Tuple vs j p2) env=pure (Z ns):=by
 have F:env.blockKind=.function:=by unfold RN;rw[hs,B];rfl
 simp only[uR,p0,LG,decide_eq_true_eq]at h;obtain⟨⟨⟨⟨⟨G,J⟩,O⟩,U⟩,Fn⟩,fv⟩:=h;unfold Ou;dsimp only;rw[F,G];simp only[Qz,bne_self_eq_false,Mx,if_false]
 split
 ·next z=>exact absurd z (by rw[Qp];exact J)
 ·generalize hL:List.filterMap _ ts=L;obtain rfl:L=bc sc ts:=by
   rw[<-hL];unfold bc;congr 1
   funext x
   cases x<;>first|rfl|(unfold Ui;rw[hs])
  rw[U,Fn,fv,O];rfl
theorem sR{i:Nat}(h:uQ C i x=F2):C.N[i]?=Z x/\C.sc.names.lookup x=Z .local:=by simpa[uQ]using h
theorem cZ{tg:Expr}{l:Nat}{b:Bool}(h:Pk e (Z tg) l env=pure b):PF [tg] e l env=pure b:=by unfold PF;exact h
theorem sU{tg:Expr}(hs:env.scope=sc)(j:sc.kind=.function)(h:uS sc tg e=F2):Ou [tg] e env=pure Y:=by
 cases tg with
 |Tuple ts kk pp=>
  cases e with
  |Tuple vs z p2=>exact A8 hs j h
  |_=>rfl
 |_=>first|rfl|(cases h;done)
theorem qF{elt:Expr}{gens:List LV}{s:Scope}{px:Pos}{l:Nat}(hs:env.scope=sc)(j:sc.kind=.function):
 Pk (.ListComp elt gens s pos) (Z (.Name x px)) l env=pure (uT sc x px (.ListComp elt gens s pos)):=by
 have z:env.blockKind=.function:=by unfold RN;rw[hs,j];rfl
 unfold Pk;dsimp only;rw[z];unfold uT Ui;rw[hs];rfl
theorem xD{ek ev:Expr}{gens:List LV}{s:Scope}{px:Pos}{l:Nat}(hs:env.scope=sc)(j:sc.kind=.function):
 Pk (.DictComp ek ev gens s pos) (Z (.Name x px)) l env=pure (sc.names.lookup x==Z .local&&px.line==(Expr.DictComp ek ev gens s pos).pos.line && !(s.names.any λ(n,k)=>n==x&&(k==.local || k==.cell))):=by
 have z:env.blockKind=.function:=by unfold RN;rw[hs,j];rfl
 unfold Pk;dsimp only;rw[z];unfold Ui;rw[hs];rfl
mutual
theorem sS:∀(m:MS) (G:Good C Φ k X) (F:C.sc.kind=.function) (s:Stmt),okS m C s=F2->PS X s (lS X.K (wS Φ m))
 |.asgL gs m,G,F,s,h=>by refine gk s h λts e pos h=>?_;refine cg ts h λtg h=>?_;refine dq tg h λts k p h=>?_;simp only[p0]at h;obtain⟨⟨J,he⟩,L⟩:=h;obtain⟨a,b⟩:=jq (env:=X.env) J;exact PS.imp (oY (sE m G _ he) (EB G.calm (lQ J) (sGs G gs _ J) a b) (cZ EN) (sU G.sc F L) rfl) (xh (mE G.mono m))
 |.asg g m,G,F,s,h=>by
  refine gk s h λts e pos h1=>?_;clear h;refine cg ts h1 λtg h=>?_;clear h1;simp only[p0]at h;obtain⟨⟨⟨J,he⟩,L⟩,hc⟩:=h;have hw:=sU G.sc F L;have pg:=sG G g tg J;have plain:PF [tg] e pos.line X.env=pure Wj->PS X (.Assign [tg] e pos) (lS X.K (lJ (wE Φ m) (bG g))):=λhs=>PS.imp (oY (sE m G e he) pg hs hw (by cases tg<;>first|rfl|(cases L;done))) (zz (mE G.mono m))
  cases tg with
  |Tuple ts a b=>exact plain (cZ (lP hc))
  |Name x px=>
   cases e with
   |ListComp elt gens sc cpos=>
    by_cases sw:uT C.sc x px (.ListComp elt gens sc cpos)=F2
    ·cases g with
     |tup gs=>exact absurd J B2
     |name i=>
      cases m with
      |comp fr N' c=>
       replace he:=bC he;have B:bg sc X.env.scope X.N N' fr:=by rw[G.sc,G.N];exact kB he.1
       have B':bg sc C.sc C.N N' fr:=kB he.1;have JJ:PG X (.Name x px) (jy i):=by have J:=bC J;have J:=Qo (bC J.1) J.2;exact rQ G.nd (by rw[G.N];exact of_decide_eq_true J.1.1) (G.loc J.1.2) (G.own J.2)
       have JK:∀l,Pk (.ListComp elt gens sc cpos) (Z (.Name x px)) l X.env=pure F2:=λl=>by rw[qF G.sc F,sw]
       have mc:=mCmp G.mono fr c
       cases c with
       |last src g ifs m=>
        have h2:=he.2;simp only[okC]at h2
        split at h2
        ·rename_i t it fs a;simp only[p0,decide_eq_true_eq]at h2;obtain⟨⟨⟨⟨rfl,hi⟩,U⟩,ht⟩,O⟩:=h2;refine PS.imp (jL (i:=i) (g:=lG X.K (bG g)) (wi:=lI X.K (wI Φ src)) G.calm G.hx B (λg' z=>by simp at z) (sI src G _ t hi).1 (λs H fp=>sG (G.blk B' s H fp) g t U) (tb:=λp=>lC X.K p (bo (wTl Φ ifs) (dN (wE Φ m)))) (λs H fp p=>?_) (sI src G _ t hi).2 JJ (JK _)) λD σ H h=>?_
         ·have G':=G.blk B' s H fp;exact dX (p:=p) G' (bO (mE G.mono m)) (mTl G.mono ifs) (PB.imp (lh G'.hx (sE m G' elt O) rfl) (gX (mE G.mono m))) (sTl ifs G' fs ht)
         ·exact eK (mI G.mono src) (aR (bO (mE G.mono m)) (mTl G.mono ifs)) σ H _ (mX mc D σ H h)
        ·cases h2
       |more src g ifs rest=>
        have h2:=he.2;simp only[okC]at h2
        split at h2
        ·rename_i t it fs a g2 gs;simp only[p0,decide_eq_true_eq]at h2;obtain⟨⟨⟨⟨rfl,hi⟩,U⟩,ht⟩,O⟩:=h2;have JL:∀g',(g2::gs)[0]?=Z g'->g'.is_async=0:=fun g' z=>by
          have z':g2=g':=by simpa using z
          subst z';exact i6 O
         refine PS.imp (jL (i:=i) (g:=lG X.K (bG g)) (wi:=lI X.K (wI Φ src)) G.calm G.hx B JL (sI src G _ t hi).1 (λs H fp=>sG (G.blk B' s H fp) g t U) (tb:=λp=>lC X.K p (bo (wTl Φ ifs) (wCl Φ rest))) (λs H fp p=>?_) (sI src G _ t hi).2 JJ (JK _)) λD σ H h=>?_
         ·have G':=G.blk B' s H fp;exact dX (p:=p) G' (mCl G.mono rest) (mTl G.mono ifs) (sCl rest G' elt (⟨t,it,fs,0⟩::g2::gs) sc cpos 0 (.inl rfl) p O) (sTl ifs G' fs ht)
         ·exact eK (mI G.mono src) (aR (mCl G.mono rest) (mTl G.mono ifs)) σ H _ (mX mc D σ H h)
        ·cases h2
      |_=>exact absurd he B2
    ·refine plain ?_;simp only[Qp]at sw;refine cZ ?_;rw[qF G.sc F,sw]
   |SetComp _ _ _ _=>cases m<;>exact absurd he B2
   |DictComp _ _ _ _ _=>refine plain (cZ ?_);rw[xD G.sc F];unfold EM at hc;simp only[LG]at hc;rw[hc]
   |_=>exact plain (cZ rfl)
  |_=>cases L
 |.par i j a b,G,F,s,h=>by refine gk s h λts e pos h=>?_;refine cg ts h λtg h=>?_;refine dq tg h λts k p h=>?_;refine dq e h λes k' p' h=>?_;refine gn ts h λt u h=>?_;refine gn es h λe f h=>?_;refine gh t h λx px h=>?_;refine gh u h λy py h=>?_;simp only[p0,decide_eq_true_eq]at h;obtain⟨⟨⟨⟨⟨⟨⟨hi,hj⟩,JM⟩,n1⟩,n2⟩,L⟩,hb⟩,hw⟩:=h;obtain⟨i1,i2⟩:=sR hi;obtain⟨j1,j2⟩:=sR hj;exact PS.imp (DI G.calm G.nd (by rw[G.N];exact i1) (by rw[G.N];exact j1) JM (by rw[G.sc];exact i2) (by rw[G.sc];exact j2) (aU (mE G.mono a) (aj (mE G.mono b) aq) (sE a G _ L) (aU (mE G.mono b) aq (sE b G _ hb) cC (ae n2)) (ae n1)) (Cw G.sc F hw) (cZ rfl)) (wF (aj (mE G.mono a) (aj (mE G.mono b) aq)))
 |.put o i m,G,F,s,h=>by refine gk s h λts e pos h=>?_;refine cg ts h λtg h=>?_;refine dP tg h λx y tp h=>?_;simp only[p0]at h;obtain⟨⟨⟨⟨Fn,hc⟩,ho⟩,hi⟩,he⟩:=h;exact Eu (by have:=G.units;lia) (mE G.mono m) (mE G.mono o) (mE G.mono i) (sE m G e he) (sE o G x ho) (sE i G y hi) (cZ (lP hc)) rfl (λv=>by cases y<;>first|rfl|(cases Fn;done))
 |.aug i op m,G,F,s,h=>by
  refine j8 s h λt o e pos h=>?_;refine gh t h λx _ h=>?_;simp only[p0,decide_eq_true_eq]at h;obtain⟨⟨⟨⟨⟨rfl,fv⟩,hi⟩,hl⟩,hf⟩,he⟩:=h
  cases op with
  |add=>exact ka G.nd (by rw[G.N];exact hi) (G.loc hl) (sE m G _ he) mZ gZ (mE G.mono m) (G.own hf)
  |sub=>exact ka G.nd (by rw[G.N];exact hi) (G.loc hl) (sE m G _ he) n4 hJ (mE G.mono m) (G.own hf)
  |ext=>exact ka G.nd (by rw[G.N];exact hi) (G.loc hl) (sE m G _ he) xm nA (mE G.mono m) (G.own hf)
  |mul=>exact ka G.nd (by rw[G.N];exact hi) (G.loc hl) (sE m G _ he) n9 hW (mE G.mono m) (G.own hf)
  |_=>simp at fv
 |.augI o i op m,G,F,s,h=>by
  refine j8 s h λt o' e pos h=>?_;refine dP t h λx y tp h=>?_;simp only[p0,decide_eq_true_eq]at h;obtain⟨⟨⟨⟨⟨rfl,fv⟩,Fn⟩,ho⟩,hi⟩,he⟩:=h;have hu:X.A.units+1<Ol:=by have:=G.units;lia
  have L:∀ov iv new,augStore y ov iv new=(do holding [new,ov,iv] (Tp ov iv new);release [new,ov,iv] [];pure .next):=λov iv new=>by cases y<;>first|rfl|(cases Fn;done)
  cases op with
  |add=>exact lK hu (mE G.mono o) (mE G.mono i) (mE G.mono m) gZ (sE o G x ho) (sE i G y hi) (sE m G e he) mZ L
  |sub=>exact lK hu (mE G.mono o) (mE G.mono i) (mE G.mono m) hJ (sE o G x ho) (sE i G y hi) (sE m G e he) n4 L
  |mul=>exact lK hu (mE G.mono o) (mE G.mono i) (mE G.mono m) hW (sE o G x ho) (sE i G y hi) (sE m G e he) n9 L
  |_=>simp at fv
 |.drop m,G,F,s,h=>by refine EJ s h λe _ h=>?_;simp only[p0]at h;exact PS.imp (Bj (sE m G _ h.2) (lP h.1)) (wB (mE G.mono m))
 |.ret m,G,F,s,h=>by refine zV s h λo _ h=>?_;refine jos o h λe h=>?_;exact PS.imp (DC (sE m G _ h)) (zy (mE G.mono m))
 |.ite c a b,G,F,s,h=>by refine Hy s h λt x y _ h=>?_;simp only[p0]at h;exact PS.imp (FE (sT c G _ h.1.1) (sSs a G F _ h.1.2) (sSs b G F _ h.2)) (Cc (mT G.mono c))
 |.for g src b,G,F,s,h=>by refine Go s h λtg it body els _ h=>?_;refine i5 els h fun  h=>?_;simp only[p0]at h;obtain⟨⟨⟨hs,J⟩,hi⟩,hb⟩:=h;exact PS.imp (DM (λe s z=>(G.hx e s z).elim) G.calm (sI src G _ _ hi).1 (sG G g _ J) (sSs b G F _ hb) (xw hs)) (zA (mI G.mono src) (mSs G.mono b))
 |.while c b,G,F,s,h=>by refine Ct s h λt body els _ h=>?_;refine i5 els h fun  h=>?_;simp only[p0]at h;exact PS.imp (ym (λe s z=>(G.hx e s z).elim) (sT c G _ h.1) (sSs b G F _ h.2)) (ut (mT G.mono c) (mSs G.mono b))
 |.pass,G,F,s,h=>by refine EL s h λ_ h=>?_;exact PS.imp Bi mW
 |.brk,G,F,s,h=>by refine Cu s h λ_ h=>?_;exact PS.imp yj ur
 |.cnt,G,F,s,h=>by refine uO s h λ_ h=>?_;exact PS.imp rE wz
theorem sSs:∀(m:MSs) (G:Good C Φ k X) (j:C.sc.kind=.function) (s:List Stmt),okSs m C s=F2->PSs X s (lS X.K (wSs Φ m))
 |.nil,G,j,s,h=>by simp[okSs]at h;subst h;exact PSs.imp Bh mW
 |.cons m r,G,j,[],h=>by simp[okSs]at h
 |.cons m r,G,j,s::ss,h=>by simp only[okSs,p0]at h;exact PSs.imp (yi (sS m G j s h.1) (sSs r G j ss h.2)) (zx (mS G.mono m) (mSs G.mono r))
end
end
end
variable{a:Wk}{ns:List Int}{r:RAd}{H:Hp}{M:Mem}{Q:QD}
section
structure FD where
 name:Str
 st:Stmt
 N:List Str
 np:Nat
 body:MSs
noncomputable def bU(N:List Str)(ds:List D):aw:=ds.map Z++z4 (N.length-ds.length) Y
def FD.takes(d:FD):Prop:=(Lf "")∈d.N
noncomputable def da(Φ:Phi)(a:Wk)(r:RAd):Phi:=λf ds M Q=>if f=5000+a then r ds M Q else Φ f ds M Q
noncomputable def rOf(Φ:Phi)(j:Nat)(gs:List D)(js:List Nat):RAd:=λargs M Q=>args.length=2/\Φ (2000+j) (js.map λi=>(gs++args).getD i .non) M Q
noncomputable def phi(T:List FD):Nat->Phi
 |0=>λ_ _ _ _=>False
 | k+1=>fun f ds M Q=>(∃d,T[f]?=Z d/\ds.length=d.np/\wSs (phi T k) d.body {nx:=fun _ M'=>Q .non M',rt:=Q} (bU d.N ds) M) ∨
   (∃i d xs a j gs js,f=1000+i/\i<1000/\j<1000/\T[i]?=Z d/\d.takes/\ds=xs++[.ref a,.int (j:Nat),.tup gs,.tup ((js:List Nat).map λi:Nat=>.int i)]/\xs.length+1=d.np /\
    wSs (da (phi T k) a (rOf (phi T k) j gs js)) d.body {nx:=λ_ M'=>Q .non M',rt:=Q} (bU d.N (xs++[.ref a])) M) ∨
   (∃j,f=2000+j/\j<3000/\phi T k j ds M Q)
theorem nE(h:∀f,aM (Φ f))(B:aM r)(f:Nat):aM (da Φ a r f):=λds M Q Q' j q=>by
 unfold da at q⊢
 split
 ·rename_i z;rw[if_pos z]at q;exact B _ _ _ _ j q
 ·rename_i z;rw[if_neg z]at q;exact h f _ _ _ _ j q
theorem ci(T:List FD):∀k f,aM (phi T k f)
 |0,f=>λ_ _ _ _ _ q=>q.elim
 |k+1,f=>fun ds M Q Q' h B=>by
  rcases B with⟨d,e,l,q⟩|⟨i,d,xs,a,j,gs,js,e1,e2,ej,F,G,J,L,q⟩|⟨j,e1,e2,q⟩
  ·exact .inl ⟨d,e,l,mSs (ci T k) d.body {nx:=λ_ M'=>Q .non M',rt:=Q} {nx:=λ_ M'=>Q' .non M',rt:=Q'} _ _ ⟨λ_ M' q'=>h _ _ q',h,λ_ _ z=>z,λ_ _ z=>z⟩ q⟩
  ·exact .inr (.inl ⟨i,d,xs,a,j,gs,js,e1,e2,ej,F,G,J,L,mSs (nE (ci T k) (r:=rOf (phi T k) j gs js) λ_ _ _ _ O z=>⟨z.1,ci T k _ _ _ _ _ O z.2⟩) d.body {nx:=λ_ M'=>Q .non M',rt:=Q} {nx:=λ_ M'=>Q' .non M',rt:=Q'} _ _ ⟨λ_ M' q'=>h _ _ q',h,λ_ _ z=>z,λ_ _ z=>z⟩ q⟩)
  ·exact .inr (.inr ⟨j,e1,e2,ci T k _ _ _ _ _ h q⟩)
noncomputable def fh(lms:List (Str×Wk))(d:FD):Nat:=if(Lf "")∈d.N then 1 else match lms.lookup d.name with|some P=>P+2|none=>0
noncomputable def uW(Γ:List Str)(cs:List (Str×D))(lms:List (Str×Wk))(d:FD):Bool:=
 decide ((ao d.st).kind=.function) && !(ao d.st).isCoroutine && !(ao d.st).isGenerator&&decide (d.N.Nodup)&&decide (d.np<=d.N.length)
  && (d.N.take d.np).all (λx=>(ao d.st).names.lookup x==Z .local || (ao d.st).names.lookup x==Z .cell)
  && (ao d.st).names.all (λy=>!(y.2==.free))&&okSs d.body ⟨Γ,d.N,ao d.st,d.N,cs,fh lms d,d.name⟩ (br d.st)
theorem qG{Γ:List Str}{cs:List (Str×D)}{lms:List (Str×Wk)}{d:FD}(h:uW Γ cs lms d=F2):cK d.N (d.N.take d.np) (ao d.st)/\(d.N.take d.np).length=d.np/\okSs d.body ⟨Γ,d.N,ao d.st,d.N,cs,fh lms d,d.name⟩ (br d.st)=F2:=by
 simp only[uW,p0,decide_eq_true_eq,LG]at h;obtain⟨⟨⟨⟨⟨⟨⟨h1,h2⟩,B⟩,F⟩,U⟩,G⟩,J⟩,L⟩:=h;have j:(d.N.take d.np).length=d.np:=by rw[Ll];lia
 refine⟨⟨h1,h2,B,F,by rw[j],λx hx=>?_,λy O e=>?_⟩,j,L⟩
 ·have z:=OD.mp G x hx;simpa using z
 ·have z:=OD.mp J y O;rw[e]at z;simp at z
section
variable{P:L4}{w:Lq}{K:Frag}{mg:Str->Option h8}{base:Heap}
structure uX(K:Frag)(mg:Str->Option h8)(T:List FD)(cs:List (Str×D))(lms:List (Str×Wk)):Prop where
 blt:∀x∈bltNames,mg x=Y
 fns:∀(i:Nat) (d:FD),T[i]?=Z d->∃f fd,Fun K d.name d.name d.st f fd/\mg d.name=Z (.ref f)/\R1 K Mf d.name=Z (Z (.ref f))/\Binds K fd (d.N.take d.np) []
 ok:∀d∈T,uW (T.map (·.name)) cs lms d=F2
 cst:∀x d,(x,d)∈cs->∃u,mg x=Z u/\GV K d u
 len:T.length<=1000
 own:∀(i:Nat) (d:FD) (T0:Wk),T[i]?=Z d->lms.lookup d.name=Z T0->∀f,mg d.name=Z (.ref f)->∃fd,FunP K d.name d.name d.st f fd T0
theorem qH{N:List Str}{ds:List D}{vs:List V}(rs:RDs K H ds vs):RS K H (bD N vs) (bU N ds):=by
 refine⟨by simp[bD,bU,rs.length],λj dd B=>?_⟩
 unfold bU at B;unfold bD
 by_cases F:j<ds.length
 ·rw[KR (by simpa using F),KL]at B
  cases e3:ds[j]? with
  |none=>rw[e3]at B;cases B
  |some z=>rw[e3]at B;cases B;obtain⟨v,G,rv⟩:=rs.get e3;refine⟨v,?_,rv⟩;rw[KR (by rw[m1,rs.length];exact F),KL,G];rfl
 ·rw[D0 (by simpa using F),RV]at B
  split at B<;>cases B
theorem lU{T:List FD}(z:T.length<=1000){a:Nat}:∀{k:Nat} {ds:List D} {M:Mem} {Q:QD},¬phi T k (5000+a) ds M Q
 |0,_,_,_,h=>h
 |k+1,ds,M,Q,h=>by
  rcases h with⟨d,e,_⟩|⟨i,d,xs,b,j,gs,js,e1,e2,_⟩|⟨j,e1,e2,_⟩
  ·have:=(KQ.mp e).1;lia
  ·lia
  ·lia
theorem uY{T:List FD}(F:T.length<=1000){j k:Nat}(G:j<1000){ds:List D}(h:phi T k (4000+j) ds M Q):∃z,k=z+2/\phi T z j ds M Q:=by
 have s1:∀{k:Nat} {m:Nat} {ds:List D} {M:Mem} {Q:QD},m<3000->phi T k (2000+m) ds M Q->∃z,k=z+1/\phi T z m ds M Q:=λ{k m ds M Q} hm h=>by
  cases k with
  |zero=>exact h.elim
  |succ k=>
   rcases h with⟨d,e,_⟩|⟨i,d,xs,b,j,gs,js,e1,e2,_⟩|⟨j,e1,e2,q⟩
   ·have:=(KQ.mp e).1;lia
   ·lia
   ·have:j=m:=by lia
    subst this;exact⟨k,rfl,q⟩
 rw[show 4000+j=2000+(2000+j) by lia]at h
 obtain⟨J,rfl,h1⟩:=s1 ∅ h
 obtain⟨B,rfl,h2⟩:=s1 ∅ h1
 exact⟨B,rfl,h2⟩
theorem qI:∀{a b:List Nat},(a.map λi:Nat=>D.int i)=(b.map λi:Nat=>D.int i)->a=b
 |[],[],_=>rfl
 |[],_::_,h=>by cases h
 |_::_,[],h=>by cases h
 |x::a,y::b,h=>by rw[KI,KI,OU,D.int.injEq]at h;rw[qI h.2,show x=y by have:=h.1;lia]
structure oO(P:L4)(w:Lq)(K:Frag)(mg:Str->Option h8)(base:Heap)(T:List FD)(k:Nat):Prop where
 fn:∀(i:Nat) (d:FD) (f:Wk) (fd:N5),T[i]?=Z d->Fun K d.name d.name d.st f fd->mg d.name=Z (.ref f)->FnOk P w K mg base CX0 k f fd (d.N.take d.np) (lSp K (phi T k i))
 fs:∀(i:Nat) (d:FD) (f:Wk) (fd:N5),T[i]?=Z d->Fun K d.name d.name d.st f fd->mg d.name=Z (.ref f)->nX P w K mg base k f fd (d.N.take d.np) (spC P w K mg base k (phi T k) i)
theorem sV{T:List FD}{cs:List (Str×D)}{lms:List (Str×Wk)}(O:uX K mg T cs lms)(hM:Frag.In K base)(hB:eX mg base){k:Nat}(A1:oO P w K mg base T k)(A3:∀F,k=F+2->oO P w K mg base T F){i:Nat}{d:FD}(e:T[i]?=Z d)(hΦ:∀f,f<5000->Φ f=phi T k f)(hm:∀f,aM (Φ f)){A:Lv}{outer:List Env}{s:r0}{E:XK}{f:Wk}{cdv:h8}(S:cK d.N (d.N.take d.np) (ao d.st))(U:Room k (A.deeper (Ql d.name (ao d.st) s.heap.objs.size f cdv)))(hc:fh lms d=1->∀a,xx ((cI CX0 P w K mg base d.N d.name (ao d.st) f cdv A outer s H E).nox) a (Φ (5000+a)))(ho:∀T0,fh lms d=T0+2->∃c,cdv=.ref c/\MD K c T0=F2):
 Good ⟨T.map (·.name),d.N,ao d.st,d.N,cs,fh lms d,d.name⟩ Φ k ((cI CX0 P w K mg base d.N d.name (ao d.st) f cdv A outer s H E).nox):=by
 have small:∀{j:Nat} {x:Str},(T.map (·.name))[j]?=Z x->j<1000/\∃d2,T[j]?=Z d2/\d2.name=x:=λ{j x} hx=>by
  rw[KL]at hx
  cases e2:T[j]? with
  |none=>rw[e2]at hx;cases hx
  |some d2=>rw[e2]at hx;cases hx;exact⟨Li (KQ.mp e2).1 O.len,d2,rfl,rfl⟩
 refine⟨λ_ _ z=>z,rfl,rfl,rfl,S.nd,λ_ _=>rfl,U,O.blt,λj x hx=>?_,hm,O.cst,hc,λT0 hl=>?_⟩
 ·obtain⟨L,d2,e2,rfl⟩:=small hx;obtain⟨f2,B,G,J,n2,Fn⟩:=O.fns j d2 e2;exact⟨f2,B,_,J,n2,G.kp,Fn,by rw[hΦ j ∅];exact A1.fn j d2 f2 B e2 G J⟩
 ·obtain⟨c,rfl,hd⟩:=ho T0 hl;refine⟨⟨c,rfl,Tw hM hd⟩,hB,rfl,λj x hx=>?_,λj x hx=>?_,?_⟩
  ·obtain⟨L,d2,e2,rfl⟩:=small hx;obtain⟨f2,B,G,J,n2,Fn⟩:=O.fns j d2 e2;have F3:=A1.fs j d2 f2 B e2 G J;have cv:∀{o:List Env} {s:r0} {vs:List V} {H:Hp} {Q:VK} {E:XK},spC P w K mg base k Φ j o s vs H Q E->spC P w K mg base k (phi T k) j o s vs H Q E:=by
    rintro o s vs H Q E ⟨ds,a,j',gs,js,M,rm,rd,C1,q⟩;refine⟨ds,a,j',gs,js,M,rm,rd,⟨C1.fn,?_⟩,by rw[<-hΦ _ ∅];exact q⟩
    intro A outer s1 H1 u1 u2 v1 v2 Q1 un U e0 r1 r2 JJ;obtain⟨JK,M2,JL,JM,q2,fv⟩:=JJ;have fv:phi T k (4000+j') _ M2 _:=fv
    by_cases hj':j'<1000
    ·exact C1.run A outer s1 H1 u1 u2 v1 v2 Q1 un U e0 r1 r2 ⟨JK,M2,JL,JM,q2,by show Φ (4000+j') _ _ _;rw[hΦ _ ∅];exact fv⟩
    ·rw[show 4000+j'=5000+(j'-1000) by lia]at fv
     exact absurd fv (lU O.len)
   exact⟨f2,B,_,J,G.kp,Fn,⟨λo s vs H Q E z=>F3.len o s vs H Q E (cv z),λA outer s H args us vs Q E U e0 hb r z=>F3.run A outer s H args us vs Q E U e0 hb r (cv z)⟩⟩
  ·obtain⟨L,d2,e2,rfl⟩:=small hx;obtain⟨f2,B,G,J,n2,Fn⟩:=O.fns j d2 e2;refine⟨f2,B,_,J,G.kp,Fn,?_⟩
   by_cases hk:∃F,k=F+2
   ·obtain⟨F,rfl⟩:=hk;refine(A3 F rfl |>.fn j d2 f2 B e2 G J).imp λvs H Q E g9=>?_
    obtain⟨ds,M,rm,rd,q⟩:=g9;rw[hΦ _ ∅]at q
    obtain⟨k1,e1,q1⟩:=uY O.len L q;have:k1=F:=∅
    subst this;exact⟨ds,M,rm,rd,q1⟩
   ·have no:∀{vs H Q E},¬lSp K (Φ (4000+j)) vs H Q E:=fun {vs H Q E} g9=>by
     obtain⟨ds,M,rm,rd,q⟩:=g9;rw[hΦ _ ∅]at q
     obtain⟨k1,e1,_⟩:=uY O.len L q;exact hk ⟨k1,e1⟩
    exact⟨λvs H Q E z=>absurd z no,λA outer s H args us vs Q E _ _ _ _ z=>absurd z no⟩
  ·by_cases hk:∃F,k=F+2
   ·exact .inl hk
   ·refine .inr λj x hx ds M Q q=>?_;obtain⟨L,_⟩:=small hx;rw[hΦ _ ∅]at q
    obtain⟨k1,e1,_⟩:=uY O.len L q;exact hk ⟨k1,e1⟩
theorem ET{T:List FD}{cs:List (Str×D)}{lms:List (Str×Wk)}(O:uX K mg T cs lms)(hM:Frag.In K base)(hB:eX mg base)(k:Nat):oO P w K mg base T k:=by
 induction k using Nat.strongRecOn with
 |ind k ih=>
  cases k with
  | zero=>exact⟨fun i d f fd e F hm=>⟨fun vs H Q E h=>by obtain⟨ds,M,_,_,q⟩:=h;exact q.elim,fun A outer s H args us vs Q E _ _ _ _ h=>by obtain⟨ds,M,_,_,q⟩:=h;exact q.elim⟩,
     λi d f fd e F hm=>⟨λo s vs H Q E h=>by obtain⟨ds,a,j,gs,js,M,_,_,_,q⟩:=h;exact q.elim,λA outer s H args us vs Q E _ _ _ _ h=>by obtain⟨ds,a,j,gs,js,M,_,_,_,q⟩:=h;exact q.elim⟩⟩
  |succ k=>
   have A1:=ih k (UX k);have A3:∀k0,k=k0+2->oO P w K mg base T k0:=λk0 z=>ih k0 ∅
   have reg:∀{i:Nat} {d:FD} {ds:List D} {M:Mem} {Q:QD},T[i]?=Z d->phi T (k+1) i ds M Q->ds.length=d.np/\wSs (phi T k) d.body {nx:=λ_ M'=>Q .non M',rt:=Q} (bU d.N ds) M:=λ{i d ds M Q} e h=>by
    have hi:=(KQ.mp e).1;have hl:=O.len
    rcases h with⟨d',e',l,q⟩|⟨i',d',xs,b,j,gs,js,e1,_⟩|⟨j,e1,_⟩
    ·rw[e]at e';cases e';exact⟨l,q⟩
    ·lia
    ·lia
   refine⟨λi d f fd e F JJ=>?_,λi d f fd e F JJ=>?_⟩
   ·obtain⟨S,hl,hb⟩:=qG (O.ok d (KZ e));have len:∀vs H Q E,lSp K (phi T (k+1) i) vs H Q E->vs.length=(d.N.take d.np).length:=fun vs H Q E h=>by
     obtain⟨ds,M,rm,rs,q⟩:=h;rw[rs.length,(reg e q).1,hl]
    have body:∀(cdv:h8) (A:Lv) (outer:List Env) (s:r0) (H:Hp) (vs:List V) (Q:VK) (E:XK),(∀T0,fh lms d=T0+2->∃c,cdv=.ref c/\MD K c T0=F2)->Room k (A.deeper (Ql d.name (ao d.st) s.heap.objs.size f cdv))->lSp K (phi T (k+1) i) vs H Q E->
     ∃t,PSs (cI CX0 P w K mg base d.N d.name (ao d.st) f cdv A outer s H E).nox (br d.st) t/\t {nx:=λ_ H'=>Q .non H',rt:=Q} (bD d.N vs) H:=λcdv A outer s H vs Q E ho J h=>by
     obtain⟨ds,M,rm,rs,q⟩:=h;have G:=sV (P:=P) (w:=w) (A:=A) (outer:=outer) (s:=s) (H:=H) (E:=E) (f:=f) (cdv:=cdv) O hM hB A1 A3 e (Φ:=phi T k) (λ_ _=>rfl) (ci T k) S J (λ_ a pins s σ H vs us Q I r z=>by obtain⟨ds,M,_,_,q⟩:=z;exact absurd q (lU O.len)) ho
     exact⟨_,sSs d.body G S.kind _ hb,bU d.N ds,M,{nx:=λ_ M'=>KE' K M H Q .non M',rt:=KE' K M H Q},qH rs,rm,⟨λρ M' σ H' x rs' rm' q'=>q' .non H' x rm' (W6.mpr rfl),λd M' v H' x rm' rd' q'=>q' v H' x rm' rd',λ_ _ _ _ _ _ _ z=>z,λ_ _ _ _ _ _ _ z=>z⟩,(reg e q).2⟩
    by_cases fv:(Lf "")∈d.N
    ·refine F.ok S len λcdv A outer s H vs Q E J h=>body cdv A outer s H vs Q E (λT0 z=>?_) J h;unfold fh at z;rw[if_pos fv]at z;lia
    cases U:lms.lookup d.name with
    |none=>refine F.ok S len λcdv A outer s H vs Q E J h=>body cdv A outer s H vs Q E (λT0 z=>?_) J h;unfold fh at z;rw[if_neg fv,U]at z;cases z
    |some T1=>
     obtain⟨fd',FP⟩:=O.own i d T1 e U f JJ;have:fd'=fd:=by obtain⟨_,_,_,_,_,_,_,_,_,_,l1,_⟩:=F.ex;obtain⟨_,_,_,_,_,_,_,_,_,_,l2,_⟩:=FP.ex;rw[l1]at l2;cases l2;rfl
     subst this;refine FP.ok S len λc A outer s H vs Q E hd J h=>body (.ref c) A outer s H vs Q E (λT0 z=>?_) J h;unfold fh at z;rw[if_neg fv,U]at z;have:T1=T0:=by have z:T1+2=T0+2:=z;lia
     subst this;exact⟨c,rfl,hd⟩
   ·obtain ⟨S,hl,hb⟩:=qG (O.ok d (KZ e));have hi:=(KQ.mp e).1;have ops:∀{o:List Env} {s:r0} {vs:List V} {H:Hp} {Q:VK} {E:XK},spC P w K mg base (k+1) (phi T (k+1)) i o s vs H Q E->
     ∃(xs:List D) (a:Wk) (r:RAd) (M:Mem),d.takes/\RM K M H/\RDs K H (xs++[.ref a]) vs/\xs.length+1=d.np/\aM r/\(∀ds M Q,r ds M Q->ds.length=2)/\iq P w K mg base k (frs o) a (lSp K r) H s.heap /\
      wSs (da (phi T k) a r) d.body {nx:=λ_ M'=>KE' K M H Q .non M',rt:=KE' K M H Q} (bU d.N (xs++[.ref a])) M:=by
     rintro o s vs H Q E ⟨ds,a,j,gs,js,M,rm,rd,C1,q⟩
     rcases q with⟨d',e',_⟩|⟨i',d',xs,b,j',gs',js',e1,e2,ej,e3,e4,e5,e6,q⟩|⟨j',e1,_⟩
     ·have:=(KQ.mp e').1;have:=O.len;lia
     ·have:i=i':=by lia
      subst this;rw[e]at e3;cases e3;obtain⟨rfl,z⟩:=List.append_inj' e5 (by simp)
      simp only[OU,D.ref.injEq,D.int.injEq,D.tup.injEq,and_true]at z;obtain⟨rfl,hj,rfl,Fn⟩:=z;have hj:j=j':=by exact_mod_cast hj
      subst hj;have Fn:js=js':=qI Fn;subst Fn;refine⟨ds,a,rOf (phi T k) j gs js,M,e4,rm,rd,e6,λ_ _ _ _ hq z=>⟨z.1,ci T k _ _ _ _ _ hq z.2⟩,λ_ _ _ z=>z.1,⟨C1.fn,?_⟩,q⟩;intro A outer s1 H1 u1 u2 v1 v2 Q1 un J e0 r1 r2 JP;obtain⟨L,M2,JQ,JR,B,q3⟩:=JP;exact C1.run A outer s1 H1 u1 u2 v1 v2 Q1 un J e0 r1 r2 ⟨L,M2,JQ,JR,B,.inr (.inr ⟨2000+j,∅,∅,q3⟩)⟩
     ·have:=O.len;lia
    refine F.okS S (λo s vs H Q E h=>?_) λcdv A outer s H vs Q E J h=>?_
    ·obtain⟨xs,a,r,M,fv,rm,rd,hn,JK,JL,C1,q⟩:=ops h;rw[rd.length,B0,Mt,hn,hl]
    ·obtain⟨xs,a,r,M,fv,rm,rd,hn,JK,JL,C1,q⟩:=ops h;have h1:fh lms d=1:=if_pos fv;have G:=sV (P:=P) (w:=w) (A:=A) (outer:=outer) (s:=s) (H:=H) (E:=E) (f:=f) (cdv:=cdv) O hM hB A1 A3 e (Φ:=da (phi T k) a r) (fun f hf=>by
      funext ds M Q;unfold da;rw[if_neg ∅]) (nE (ci T k) JK) S J (λ_ b pins s2 σ H2 JM us Q2 I rv z=>?_) (λT0 z=>by rw[h1]at z;lia)
     ·exact⟨_,sSs d.body G S.kind _ hb,bU d.N (xs++[.ref a]),M,{nx:=λ_ M'=>KE' K M H Q .non M',rt:=KE' K M H Q},qH (K:=K) rd,rm,⟨λρ M' σ H' x rs' rm' q'=>q' .non H' x rm' (W6.mpr rfl),λd M' v H' x rm' rd' q'=>q' v H' x rm' rd',λ_ _ _ _ _ _ _ z=>z,λ_ _ _ _ _ _ _ z=>z⟩,q⟩
     ·obtain⟨L,M2,JS,JN,B⟩:=z
      by_cases hb':b=a
      ·subst hb';have B:r L M2 (KE' K M2 H2 Q2):=by
        unfold da at B;rw[if_pos rfl]at B;exact B
       have JO:=JL _ _ _ B;rw[<-JN.length]at JO;obtain⟨v1,v2,rfl⟩:∃v1 v2,JM=[v1,v2]:=by
        match JM,JO with
        |[v1,v2],_=>exact⟨v1,v2,rfl⟩
       exact yI (X:=(cI CX0 P w K mg base d.N d.name (ao d.st) f cdv A outer s H E).nox) rfl J C1 pins s2 σ H2 v1 v2 us Q2 I rv ⟨L,M2,JS,JN,B⟩
      ·have B:phi T k (5000+b) L M2 (KE' K M2 H2 Q2):=by
        unfold da at B;rw[if_neg ∅]at B;exact B
       exact absurd B (lU O.len)
noncomputable def dE:List (Wk×Pos×Str)->Mem
 |[],_=>Y
 |(P,pos,q)::r,a=>if a=P then Z (.tab pos q)else dE r a
theorem sW{H:Hp}:∀{ts:List (Wk×Pos×Str)},(∀t∈ts,H t.1=Z (.tbl #[]))->RM K (dE ts) H
 |[],_=>λ_ _ z=>by cases z
 |(P,pos,q)::r,h=>λa o z=>by
  unfold dE at z
  split at z
  ·rename_i e;cases z;subst e;exact⟨#[],h _ (KW ..),.inl rfl⟩
  ·exact sW (λt j=>h t (KP _ j)) a o z
theorem Cy{T:List FD}{k i:Nat}{ts:List (Wk×Wk)}(cs:List (Wk×Pos×Str))(B:∀t∈cs,∃q∈ts,q.2=t.1)(F:nY ts H)(G:Scr K H a (ns.map V.int))(h:phi T k i [.con (ns.map D.int)] (dE cs) λd _=>d=.bl F2):
 lSp K (phi T k i) [.ref a] H (λv _=>v=.bl F2) λ_ _ _=>False:=by
 have j:RM K (dE cs) H:=sW λt z=>by obtain⟨q,J,e⟩:=B t z;rw[<-e];exact F.tab q J
 refine⟨[.con (ns.map D.int)],dE cs,j,RDs.cons (W5.mpr ⟨a,ns.map V.int,rfl,?_,RDs.ints ns⟩) RDs.nil,ci T k i [.con (ns.map D.int)] (dE cs) (λd _=>d=.bl F2) (KE' K (dE cs) H λv _=>v=.bl F2) (λd M' e=>λv H' x rm rd=>?_) h⟩
 ·exact G
 ·subst e;exact W2.mp rd
end
theorem EU{T:List FD}{lms:List (Str×Wk)}{Ls:List Nat}(h:((q7 T.length).all λi=>Ls.contains i || (T[i]?).all λd=>(lms.lookup d.name).isNone)=F2){i:Nat}{d:FD}{T0:Wk}(e:T[i]?=Z d)(j:lms.lookup d.name=Z T0):i∈Ls:=by have z:=OD.mp h i (L9.mpr (KQ.mp e).1);rw[e]at z;simpa[j]using z
theorem hd_in{K:Frag}{c:Wk}{o:Obj}(h:K.lookup c=Z o)(e:MD [(c,o)] c P=F2):MD K c P=F2:=by
 unfold MD at e⊢;rw[h];rw[show Pc c [(c,o)]=Z o by simp[Pc]]at e
 exact e
theorem dQ(us:List h8)(h:us.length=1):∃a,us=[a]:=Qc.mp h
theorem bI(us:List h8)(h:us.length=2):∃a b,us=[a,b]:=by
 cases us with
 |nil=>cases h
 |cons a us=>obtain⟨b,rfl⟩:=dQ us (VP.inj h);exact⟨a,b,rfl⟩
theorem iK(us:List h8)(h:us.length=3):∃a b c,us=[a,b,c]:=by
 cases us with
 |nil=>cases h
 |cons a us=>obtain⟨b,c,rfl⟩:=bI us (VP.inj h);exact⟨a,b,c,rfl⟩
theorem uZ(us:List h8)(h:us.length=4):∃a b c d,us=[a,b,c,d]:=by
 cases us with
 |nil=>cases h
 |cons a us=>obtain⟨b,c,d,rfl⟩:=iK us (VP.inj h);exact⟨a,b,c,d,rfl⟩
end
variable{i j y c v z:Int}{q n N m fm ft L fo fp f1 L0 L1 W ff w:Nat}{b:Wk}{l A B:List Int}{F G:Nat->Int}{xs:List D}{s so sp s1 sf:Stmt}{d:FD}{T:List FD}{E:bX}{o:O}{ρ:aw}{M' M'':Mem}{zs:List (Int×Int)}{mul:List Int->List Int->List Int}
section
theorem EV{k:Nat}{ds:List D}(e:T[f]?=Z d)(l:ds.length=d.np)(r:bU d.N ds=ρ)(h:wSs (phi T k) d.body {nx:=λ_ M'=>Q .non M',rt:=Q} ρ M):phi T (k+1) f ds M Q:=by
 rw[<-r]at h
 first|exact⟨d,e,l,h⟩|exact .inl ⟨d,e,l,h⟩
theorem ar{ds:List D}(j:1<=n)(e:T[f]?=Z d)(l:ds.length=d.np)(r:bU d.N ds=ρ)(h:wSs (phi T (n-1)) d.body {nx:=λ_ M'=>Q .non M',rt:=Q} ρ M):phi T n f ds M Q:=by
 obtain⟨k,rfl⟩:∃k,n=k+1:=⟨n-1,∅⟩
 exact EV e l r h
theorem HS{D:bX}:wSs Φ .nil D ρ M=D.nx ρ M:=by rw[wSs];rfl
theorem bj{s:MS}{r:MSs}{D:bX}:wSs Φ (.cons s r) D ρ M=wS Φ s {D with nx:=wSs Φ r D} ρ M:=by rw[wSs];rfl
theorem HU{ds:List D}{y:D}:wIx (.tup ds) y M Q=∃i d,y=.int i/\atI ds i=Z d/\Q d M:=rfl
theorem HV{ds:List D}{y:D}:wIx (.con ds) y M Q=∃i d,y=.int i/\atI ds i=Z d/\Q d M:=rfl
theorem aN{ds:List D}{d:D}(h:M a=Z (.lst ds))(e:atI ds i=Z d)(q:Q d M):wIx (.ref a) (.int i) M Q:=.inl ⟨ds,i,d,h,rfl,e,q⟩
theorem cj{ds:List D}{v:D}{j:Nat}{Q:Mem->Prop}(h:M a=Z (.lst ds))(e:ixN ds.length i=Z j)(q:Q (ag M a (.lst (ds.set j v)))):fZ (.ref a) (.int i) v M Q:=⟨a,rfl,.inl ⟨ds,i,j,rfl,h,e,q⟩⟩
theorem be{ds:List D}(h:M a=Z (.lst ds))(q:Q (.int ds.length) M):fW [.ref a] M Q:=⟨_,_,rfl,by simp only[pZ,h],q⟩
theorem ai{ds:List D}(h:M a=Z (.lst ds)):aF M (.ref a)=Z ds:=by simp only[aF,h]
theorem IH:lw [.int i] M Q=Q (.int i) M:=by
 apply propext;constructor
 ·rintro(⟨j,e,q⟩|⟨k,e,q⟩)
  ·cases e;exact q
  ·cases e
 ·exactλq=>.inl ⟨i,rfl,q⟩
theorem II{b:Bool}:lw [.bl b] M Q=Q (.int (if b then 1 else 0)) M:=by
 apply propext;constructor
 ·rintro(⟨j,e,q⟩|⟨k,e,q⟩)
  ·cases e
  ·cases e;exact q
 ·exactλq=>.inr ⟨b,rfl,q⟩
theorem Jy:wEq (.int i) (.int j) M Q=Q (.bl (i==j)) M:=by simp[wEq,rb,Mu]
theorem Jz:wNe (.int i) (.int j) M Q=Q (.bl (!(i==j))) M:=by simp[wNe,rb,Mu]
theorem EW:eZ (.int i) (.int j) M Q=Q (.int (i+j)) M:=rfl
theorem IJ{a b:List D}:eZ (.tup a) (.tup b) M Q=((a≠[]∨True)/\a.length+b.length<=KG/\Q (.tup (a++b)) M):=rfl
theorem IK:pQ (.int i) (.int j) M Q=Q (.int (i-j)) M:=rfl
theorem wMul_i:fV (.int i) (.int j) M Q=(MulOk i j/\Q (.int (i*j)) M):=rfl
theorem IM{ds:List D}{k:Int}:fV (.tup ds) (.int k) M Q=(-(2^63)<=k/\k<2^63/\ds.length*k.toNat<=KG/\Q (.tup (z4 k.toNat ds).flatten) M):=rfl
theorem wMul_r{k:Int}:fV (.ref a) (.int k) M Q=∃xs,M a=Z (.lst xs) /\ -(2^63)<=k/\k<2^63/\xs.length*k.toNat<=KG/\∀p,M p=Y->Q (.ref p) (ag M p (.lst (z4 k.toNat xs).flatten)):=rfl
theorem HW:jM (.int i) (.int j) M Q=(0<j/\j<2^256/\Q (.int (i / j)) M):=rfl
theorem IN:pS (.int i) (.int j) M Q=(0<j/\Q (.int (i%j)) M):=rfl
theorem IO:pT (.int i) (.int j) M Q=(0<=j/\j<=1000000/\i.natAbs<2^64/\Q (.int (i^j.toNat)) M):=rfl
theorem JA:wLt (.int i) (.int j) M Q=Q (.bl (decide (i<j))) M:=rfl
theorem Gp:wGt (.int i) (.int j) M Q=Q (.bl (decide (j<i))) M:=rfl
theorem JB:wGe (.int i) (.int j) M Q=Q (.bl (decide (j<=i))) M:=rfl
theorem Cz:jX (.int i) (.int j) M Q=Q (.int (i+j)) M:=rfl
theorem HX:jY (.int i) (.int j) M Q=Q (.int (i-j)) M:=rfl
theorem HY:jZ (.int i) (.int j) M Q=(MulOk i j/\Q (.int (i*j)) M):=rfl
theorem IP:pW (.int i) M Q=Q (.int (-i)) M:=rfl
theorem IQ:lv [.int i] M Q=Q (.int (if i<0 then -i else i)) M:=by simp[lv]
theorem HZ:jO [.int i,.int j] M Q=Q (.int (if j > i then j else i)) M:=by
 apply propext;constructor
 ·rintro⟨a,b,e,q⟩;cases e;exact q
 ·exactλq=>⟨i,j,rfl,q⟩
theorem IR{ds:List D}:fW [.con ds] M Q=Q (.int ds.length) M:=by simp[fW,pZ]
theorem IS{ds:List D}:fW [.tup ds] M Q=Q (.int ds.length) M:=by simp[fW,pZ]
theorem IT{ds:List D}:aF M (.tup ds)=Z ds:=rfl
theorem IU{ds:List D}:aF M (.con ds)=Z ds:=rfl
theorem JC{α:Sort _}{a b:α}:(if F2=F2 then a else b)=a:=rfl
theorem JD{α:Sort _}{a b:α}:(if Wj=F2 then a else b)=b:=rfl
theorem I0{tb:TEd}{R:List D->(Mem->Prop)->Mem->Prop}:lH ta tb ρ M R=ta ρ M λx j=>tb ρ j λy M2=>∃xs ys,aF M2 x=Z xs/\aF M2 y=Z ys/\R (Pn iz xs ys) (λM=>aF M x=Z xs/\aF M y=Z ys) M2:=by
 unfold lH au;congr 1;funext x j;unfold aW;congr 1;funext y M2;apply propext;constructor
 ·rintro⟨x',y',xs,ys,e,q⟩
  cases e;exact⟨xs,ys,q⟩
 ·rintro⟨xs,ys,q⟩;exact⟨x,y,xs,ys,rfl,q⟩
theorem HA{tb tc:TEd}{R:List D->(Mem->Prop)->Mem->Prop}:iA ta tb tc ρ M R=ta ρ M λx B=>tb ρ B λy M2=>tc ρ M2 λz j=>∃xs ys zs,x=.tup xs/\z=.tup zs/\isT y=Wj/\aF j y=Z ys/\R (z3D xs ys zs) (λM=>aF M y=Z ys) j:=by
 unfold iA au;congr 1;funext x B;congr 1;funext y M2;congr 1;funext z j;apply propext;constructor
 ·rintro⟨xs,y',ys,zs,e,q⟩
  cases e;exact⟨xs,ys,zs,rfl,rfl,q⟩
 ·rintro⟨xs,ys,zs,rfl,rfl,q⟩;exact⟨xs,y,ys,zs,rfl,q⟩
theorem IV{y:Str}:eZ (.str x) (.str y) M Q=(x.length+y.length<=KG/\Q (.str (x++y)) M):=rfl
theorem IW{i}:wE Φ (.var i)=dD i:=rfl
theorem IX{i}:wE Φ (.int i)=wC (.int i):=rfl
theorem JE{b}:wE Φ (.bl b)=wC (.bl b):=rfl
theorem IY:wE Φ (.non)=wC .non:=rfl
theorem IZ{op}{a}{b}:wE Φ (.bin op a b)=wOp (opB op) (wE Φ a) (wE Φ b):=rfl
theorem J0{a}:wE Φ (.neg a)=wUn pW (wE Φ a):=rfl
theorem J1{op}{a}{b}:wE Φ (.cmp op a b)=wOp (opC op) (wE Φ a) (wE Φ b):=rfl
theorem J2{es}:wE Φ (.and es)=wAnds Φ es:=rfl
theorem JF{es}:wE Φ (.or es)=wOrs Φ es:=rfl
theorem J3{a}:wE Φ (.not a)=om (wE Φ a):=rfl
theorem J6{c}{a}{b}:wE Φ (.ite c a b)=wIf (wT Φ c) (wE Φ a) (wE Φ b):=rfl
theorem J8{es}:wE Φ (.tup es)=wAr u8 (wA Φ es):=rfl
theorem J9{es}:wE Φ (.lst es)=wAr u9 (wA Φ es):=rfl
theorem JG{a}{b}:wE Φ (.ix a b)=wOp wIx (wE Φ a) (wE Φ b):=rfl
theorem JH{a}{lo}{hi}:wE Φ (.sl a lo hi)=wSl (wE Φ a) (wO Φ lo) (wO Φ hi):=rfl
theorem I8{f}{es}:wE Φ (.call f es)=wAr (Φ f) (wA Φ es):=rfl
theorem HB{i}{es}:wE Φ (.callC i es)=ko Φ i (wA Φ es):=rfl
theorem HC{f}{es}{j}{cs}{js}{P}{pos}{q}:wE Φ (.callL f es j cs js P pos q)=ku Φ f (wA Φ es) j cs js P pos q:=rfl
theorem Ja{f}{es}:wE Φ (.blt f es)=wAr (opF f) (wA Φ es):=rfl
theorem I9{a}:wE Φ (.lrng a)=nZ (wE Φ a):=rfl
theorem HD{a}{b}:wE Φ (.lrng2 a b)=jS (au (wE Φ a) (au (wE Φ b) aW)):=rfl
theorem Ia{t}:wE Φ (.dnew t)=oA t:=rfl
theorem HE{a}:wE Φ (.sortI a)=ki (wE Φ a):=rfl
theorem Ib{o}{k}{x}:wE Φ (.dget o k x)=oE (wE Φ o) (wE Φ k) (wE Φ x):=rfl
theorem Ic{m}{o}{a}:wE Φ (.meth m o a)=wBM (opM m) (wE Φ o) (au (wE Φ a) aW):=rfl
theorem Jb{o}{i}{a}:wE Φ (.ins o i a)=wBM iH (wE Φ o) (au (wE Φ i) (au (wE Φ a) aW)):=rfl
theorem Id{fr}{u1}{c}:wE Φ (.comp fr u1 c)=wCmp Φ fr c:=rfl
theorem Ie{a}{j}:wE Φ (.revS a j)=oH (wE Φ a) (iw (wE Φ j)):=rfl
theorem Jc{a}{b}:wE Φ (.orL a b)=uG (wE Φ a) (wE Φ b):=rfl
theorem Ig:wA Φ (.nil)=aW:=rfl
theorem HF{e}{r}:wA Φ (.cons e r)=au (wE Φ e) (wA Φ r):=rfl
theorem HG:wTl Φ (.nil)=[]:=rfl
theorem GN{t}{r}:wTl Φ (.cons t r)=wT Φ t::wTl Φ r:=rfl
theorem Jd{e}:wI Φ (.seq e)=qd (wE Φ e):=rfl
theorem Ih{a}:wI Φ (.rng1 a)=oo (au (wE Φ a) aW):=rfl
theorem Ii{a}{b}:wI Φ (.rng2 a b)=ot (au (wE Φ a) (au (wE Φ b) aW)):=rfl
theorem Je{a}{b}:wI Φ (.zip a b)=lH (wE Φ a) (wE Φ b):=rfl
theorem Ij{a}{b}{c}:wI Φ (.zip3 a b c)=iA (wE Φ a) (wE Φ b) (wE Φ c):=rfl
theorem Ik{a}:wI Φ (.enum a)=ou (wE Φ a):=rfl
theorem Jf{a}:wI Φ (.rev a)=oF (wE Φ a):=rfl
theorem GO{src}{g}{ifs}{elt}:wCl Φ (.last src g ifs elt)=cX (wI Φ src) (bG g) (bo (wTl Φ ifs) (dN (wE Φ elt))):=rfl
theorem GP{src}{g}{ifs}{rest}:wCl Φ (.more src g ifs rest)=cX (wI Φ src) (bG g) (bo (wTl Φ ifs) (wCl Φ rest)):=rfl
theorem Gq{fr:List (Option Nat)}{src}{g}{ifs}{elt}:wCmp Φ fr (.last src g ifs elt)=iC fr (wI Φ src) (bG g) (bo (wTl Φ ifs) (dN (wE Φ elt))):=rfl
theorem Gr{fr:List (Option Nat)}{src}{g}{ifs}{rest}:wCmp Φ fr (.more src g ifs rest)=iC fr (wI Φ src) (bG g) (bo (wTl Φ ifs) (wCl Φ rest)):=rfl
theorem Jg{g}{e}:wS Φ (.asg g e)=lJ (wE Φ e) (bG g):=rfl
theorem Il{gs}{e}:wS Φ (.asgL gs e)=oG (wE Φ e) (bGs gs):=rfl
theorem Jh{i}{j}{a}{b}:wS Φ (.par i j a b)=uk (au (wE Φ a) (au (wE Φ b) aW)) (cF (cr i) (cF (cr j) je)):=rfl
theorem Ji{o}{i}{e}:wS Φ (.put o i e)=uu (wE Φ e) (wE Φ o) (wE Φ i):=rfl
theorem Jj{i}{op}{e}:wS Φ (.aug i op e)=uv i (opI op) (wE Φ e):=rfl
theorem Im{o}{i}{op}{e}:wS Φ (.augI o i op e)=oz (wE Φ o) (wE Φ i) (wE Φ e) (opI op):=rfl
theorem Io{e}:wS Φ (.drop e)=oy (wE Φ e):=rfl
theorem Jk{e}:wS Φ (.ret e)=uj (wE Φ e):=rfl
theorem Jl{c}{a}{b}:wS Φ (.ite c a b)=sIf (wT Φ c) (wSs Φ a) (wSs Φ b):=rfl
theorem Jm{g}{src}{b}:wS Φ (.for g src b)=um (wI Φ src) (bG g) (wSs Φ b):=rfl
theorem HH{c}{b}:wS Φ (.while c b)=jW (wT Φ c) (wSs Φ b):=rfl
theorem Ip:wS Φ (.pass)=jU:=rfl
theorem Jn:wS Φ (.brk)=jV:=rfl
theorem Jo:wS Φ (.cnt)=ox:=rfl
theorem Jp{e}:wT Φ (.tru e)=ud (wE Φ e):=rfl
theorem Jq{op}{a}{b}:wT Φ (.cmp op a b)=fU (wOp (opC op) (wE Φ a) (wE Φ b)):=rfl
theorem Jr{ts}:wT Φ (.and ts)=wAndTs Φ ts:=rfl
theorem JI{ts}:wT Φ (.or ts)=wOrTs Φ ts:=rfl
theorem Js{t}:wT Φ (.not t)=oh (wT Φ t):=rfl
theorem Fs:wAndTs Φ (.nil)=λ_ _ _=>False:=rfl
theorem EX{e}:wAndTs Φ (.cons e .nil)=wT Φ e:=rfl
theorem EY{e}{f}{r}:wAndTs Φ (.cons e (.cons f r))=oi (wT Φ e) (wAndTs Φ (.cons f r)):=rfl
theorem Gs:wOrTs Φ (.nil)=λ_ _ _=>False:=rfl
theorem Ft{e}:wOrTs Φ (.cons e .nil)=wT Φ e:=rfl
theorem Fu{e}{f}{r}:wOrTs Φ (.cons e (.cons f r))=ue (wT Φ e) (wOrTs Φ (.cons f r)):=rfl
theorem Gu:wAnds Φ (.nil)=λ_ _ _=>False:=rfl
theorem Fv{e}:wAnds Φ (.cons e .nil)=wE Φ e:=rfl
theorem Fw{e}{f}{r}:wAnds Φ (.cons e (.cons f r))=oj (wE Φ e) (wAnds Φ (.cons f r)):=rfl
theorem GQ:wOrs Φ (.nil)=λ_ _ _=>False:=rfl
theorem Gv{e}:wOrs Φ (.cons e .nil)=wE Φ e:=rfl
theorem Gw{e}{f}{r}:wOrs Φ (.cons e (.cons f r))=uf (wE Φ e) (wOrs Φ (.cons f r)):=rfl
theorem HI{i}:bG (.name i)=cr i:=rfl
theorem Iq{gs}:bG (.tup gs)=zi (bGs gs):=rfl
theorem HJ:bGs (.nil)=je:=rfl
theorem GS{g}{r}:bGs (.cons g r)=cF (bG g) (bGs r):=rfl
theorem HK:wO Φ (.none)=iu:=rfl
theorem HL{e}:wO Φ (.some e)=iw (wE Φ e):=rfl
theorem Ir:opB (.add)=eZ:=rfl
theorem Is:opB (.sub)=pQ:=rfl
theorem Iu:opB (.mul)=fV:=rfl
theorem HM:opB (.fdiv)=jM:=rfl
theorem Iv:opB (.mod)=pS:=rfl
theorem Iw:opB (.pow)=pT:=rfl
theorem Ix:opB (.ext)=eZ:=rfl
theorem Jt:opC (.eq)=wEq:=rfl
theorem Ju:opC (.ne)=wNe:=rfl
theorem Jv:opC (.lt)=wLt:=rfl
theorem Jw:opC (.gt)=wGt:=rfl
theorem Jx:opC (.ge)=wGe:=rfl
theorem Iy:opC (.inS)=uE:=rfl
theorem HN:opC (.ninD)=uF F2:=rfl
theorem Iz:opF (.len)=fW:=rfl
theorem IA:opF (.abs)=lv:=rfl
theorem HP:opF (.max2)=jO:=rfl
theorem IB:opF (.int)=lw:=rfl
theorem HQ:opF (.list)=og:=rfl
theorem GT:opF (.tuple)=jP:=rfl
theorem GU:opF (.sorts)=kj:=rfl
theorem Gx:opM (.append)=iy:=rfl
theorem IC:opI (.add)=jX:=rfl
theorem ID:opI (.sub)=jY:=rfl
theorem IE:opI (.mul)=jZ:=rfl
theorem IF:opI (.ext)=oI:=rfl
local macro_rules|`(tactic| ac_nf)=>do
 let f:=fun(n:Lean.Name)(s:String)=>(s.splitOn " ").toArray.map fun x=>(⟨(Lean.mkIdent (n++x.toName)).raw⟩:Lean.Term)
 let a:=f `_root_.L2.Mi "u6 dD wC wOp wUn aW au wAr fU u8 u9 nZ ud oh oi ue oj uf om wIf iu iw wSl wBM cr je cF zi qd oo ot jS ou dN bo cX iC jU zp jV ox oy uj sIf lJ uk um jW uu uv oz oA ki oE oF oG oH uG HS HU HV IH II Jy Jz EW IJ IK wMul_i IM HW IN IO JA Gp JB Cz HX HY IP IQ HZ IR IS IT IU JC JD I0 HA IV IW IX JE IY IZ J0 J1 J2 JF J3 J6 J8 J9 JG JH I8 HB HC Ja I9 HD Ia HE Ib Ic Jb Id Ie Jc Ig HF HG GN Jd Ih Ii Je Ij Ik Jf GO GP Gq Gr Jg Il Jh Ji Jj Im Io Jk Jl Jm HH Ip Jn Jo Jp Jq Jr JI Js Fs EX EY Gs Ft Fu Gu Fv Fw GQ Gv Gw HI Iq HJ GS HK HL Ir Is Iu HM Iv Iw Ix Jt Ju Jv Jw Jx Iy HN Iz IA HP IB HQ GT GU Gx IC ID IE IF"
 let b1:=a++f .anonymous "Sb OC Uj Uk Po Oh Sd V5 V6 KI Om La MV"
 let b2:=a++f .anonymous "Mx if_false if_true Sb OC Uj Uk UA exists_eq_left' exists_eq_left exists_eq_right exists_and_left exists_and_right D.bl.injEq D.int.injEq D.ref.injEq D.tup.injEq Po Oh Sd V5 V6 KI Om decide_eq_true_eq OU and_true true_and La MV"
 `(tactic| ((try dsimp only[$[$b1:term],*]);(try simp only[$[$b2:term],*])))
local macro_rules|`(tactic| nofun)=>`(tactic| ((first|rw[bj]|(dsimp only;rw[bj]));ac_nf))
theorem xE{t:Bool}{kvs:List (D×D)}{k d:D}(h:M a=Z (.dct t kvs))(ok:eJ t k=F2)(e:dget kvs k=Z d)(q:Q d M):wIx (.ref a) k M Q:=.inr (.inl ⟨t,kvs,d,h,ok,e,q⟩)
theorem qJ{t:Bool}{kvs:List (D×D)}{k v:D}{Q:Mem->Prop}(h:M a=Z (.dct t kvs))(ok:eJ t k=F2)(j:kvs.length<KG)(q:Q (ag M a (.dct t (eY kvs k v)))):fZ (.ref a) k v M Q:=⟨a,rfl,.inr ⟨t,kvs,h,ok,j,q⟩⟩
theorem xF{o':O}:ag (ag M a o) a o'=ag M a o':=by funext b;unfold ag;split<;>rfl
theorem xG(h:M a=Z o):ag M a o=M:=by
 funext b;unfold ag;split
 ·next e=>rw[e,h]
 ·rfl
def Ge(M M':Mem):Prop:=∀a o,M a=Z o->M' a=Z o
theorem Ge.refl:Ge M M:=λ_ _ h=>h
theorem Ge.trans(h:Ge M M')(g:Ge M' M''):Ge M M'':=λ_ _ e=>g _ _ (h _ _ e)
theorem Ge.new(h:M p=Y):Ge M (ag M p o):=λa o' e=>by rw[aE (λz=>by rw[z,h]at e;cases e)];exact e
def Box(b:Wk)(M:Mem):Prop:=∃x y z:Int,M b=Z (.lst [.int x,.int y,.int z])
structure Bx(b:Wk)(M M':Mem):Prop where
 box:Box b M'
 keep:∀a o,a≠b->M a=Z o->M' a=Z o
theorem Bx.refl(h:Box b M):Bx b M M:=⟨h,λ_ _ _ e=>e⟩
theorem Bx.trans(h:Bx b M M')(g:Bx b M' M''):Bx b M M'':=⟨g.box,λa o n e=>g.keep a o n (h.keep a o n e)⟩
theorem Bx.ge(h:Bx b M M')(g:Ge M' M''):Bx b M M'':=⟨by obtain⟨x,y,z,e⟩:=h.box;exact⟨x,y,z,g _ _ e⟩,λa o n e=>g _ _ (h.keep a o n e)⟩
theorem Bx.put{x:Int}:Bx b M (ag M b (.lst [.int x,.int y,.int z])):=⟨⟨x,y,z,aa⟩,λa o n e=>by rw[aE n];exact e⟩
theorem Bx.of(h:Box b M)(g:Ge M M'):Bx b M M':=(Bx.refl h).ge g
theorem xH{b:BT}{chk:Mem->Prop}{N:NC}(I:List D->aw->Mem->List D->Prop){acc:List D}(h0:I [] ρ M acc)(z:∀l ρ M acc,I l ρ M acc->chk M)(hs:∀l x r ρ M acc,xs=l++x::r->I l ρ M acc->∃ρ',b x ρ=Z ρ'/\∀N':NC,(∀ρ2 M2 j,I (l++[x]) ρ2 M2 j->N' ρ2 M2 j)->tb ρ' M acc N')(B:∀ρ M acc,I xs ρ M acc->N ρ M acc):cw b tb chk N xs ρ M acc:=by
 have g:∀(r l:List D) (ρ:aw) (M:Mem) (acc:List D),xs=l++r->I l ρ M acc->cw b tb chk N r ρ M acc:=by
  intro r
  induction r with
  |nil=>intro l ρ M acc e i;rw[Mz]at e;subst e;exact⟨z _ _ _ _ i,B _ _ _ i⟩
  |cons x r ih=>intro l ρ M acc e i;obtain⟨ρ',e1,h⟩:=hs l x r ρ M acc e i;exact⟨z _ _ _ _ i,ρ',e1,h _ λρ2 M2 j F=>ih (l++[x]) ρ2 M2 j (by rw[e];simp) F⟩
 exact g xs [] ρ M acc rfl h0
section
theorem A9{i j:Nat}{gs:List D}(F:1<=n)(hi:i<1000)(z:j<1000)(e:T[i]?=Z d)(B:d.takes)(l:xs.length+1=d.np)(r:bU d.N (xs++[.ref a])=ρ)(h:wSs (da (phi T (n-1)) a (rOf (phi T (n-1)) j gs js)) d.body {nx:=λ_ M'=>Q .non M',rt:=Q} ρ M):phi T n (1000+i) (xs++[.ref a,.int (j:Nat),.tup gs,.tup ((js:List Nat).map λi:Nat=>.int i)]) M Q:=by
 obtain⟨k,rfl⟩:∃k,n=k+1:=⟨n-1,∅⟩
 exact .inr (.inl ⟨i,d,xs,a,j,gs,js,rfl,hi,z,e,B,rfl,l,by rw[r];exact h⟩)
theorem lV{ds:List D}(h:Φ f ds M Q)(hf:f<5000:=by decide):da Φ a r f ds M Q:=by unfold da;rw[if_neg ∅];exact h
theorem CA{ds:List D}(h:r ds M Q):da Φ a r (5000+a) ds M Q:=by unfold da;rw[if_pos rfl];exact h
theorem CB{j:Nat}{ds:List D}(B:1<=n)(z:j<3000)(h:phi T (n-1) j ds M Q):phi T n (2000+j) ds M Q:=by
 obtain⟨k,rfl⟩:∃k,n=k+1:=⟨n-1,∅⟩
 exact .inr (.inr ⟨j,rfl,z,h⟩)
end
section
variable{T:List FD}
noncomputable def kC(s:Stmt):FD:=⟨"_law_cell_at",s,["_law_script","_law_k"],2,
 (.cons (.ite (.cmp .lt (.var 1) (.blt .len (.cons (.var 0) .nil))) (.cons (.ret (.ix (.var 0) (.var 1)))
 .nil) .nil)
 (.cons (.ret (.int 0))
 .nil))⟩
theorem Aa{α:Type}{xs:List α}(h0:0<=i)(h1:i<xs.length):∃x,atI xs i=Z x/\xs[i.toNat]?=Z x:=by
 have:i.toNat<xs.length:=∅
 refine⟨xs[i.toNat],?_,z0 this⟩;unfold atI ixN;simp[h0,h1,z0 this]
theorem CC(hf:T[f]?=Z (kC s))(j:1<=n){k:Int}(h0:0<=k)(q:∀i,Q (.int i) M):phi T n f [.con (ns.map D.int),.int k] M Q:=by
 refine ar j hf rfl (ρ:=[Z _,Z _]) rfl ?_;unfold kC;nofun
 split
 ·next h=>
  nofun;obtain⟨x,e,e2⟩:=Aa (xs:=ns.map D.int) h0 h;rw[KL]at e2
  cases e3:ns[k.toNat]? with
  |none=>rw[e3]at e2;cases e2
  |some y=>rw[e3]at e2;cases e2;exact⟨_,e,q y⟩
 ·nofun;exact q 0
theorem aZ(h:-(2^64)<i/\i<2^64):MulOk i j:=.inl h
theorem gw(h:-(2^64)<j/\j<2^64):MulOk i j:=.inr (.inl h)
noncomputable def lW(s:Stmt):FD:=⟨"_law_mixed",s,["_law_number_here","_law_k","_law_once","_law_twice"],2,
 (.cons (.asg (.name 2) (.bin .mod (.bin .mul (.bin .add (.bin .add (.bin .mod (.var 0) (.int 1000000007)) (.bin .mul (.int 7) (.var 1))) (.int 1)) (.int 48271)) (.int 2147483647)))
 (.cons (.asg (.name 3) (.bin .mod (.bin .mul (.var 2) (.bin .add (.bin .add (.bin .mod (.var 2) (.int 1009)) (.var 1)) (.int 3))) (.int 998244353)))
 (.cons (.ret (.bin .fdiv (.bin .mod (.bin .add (.bin .mul (.var 3) (.int 39373)) (.var 2)) (.int 2147483629)) (.int 64)))
 .nil)))⟩
noncomputable def v6(s:Stmt)(fc fm:Nat):FD:=⟨"_law_box",s,["_law_script","_law_k","_law_cell"],2,
 (.cons (.asg (.name 2) (.call fc (.cons (.var 0) (.cons (.var 1) .nil))))
 (.cons (.ret (.lst (.cons (.bin .mul (.blt .abs (.cons (.var 2) .nil)) (.blt .int (.cons (.cmp .ge (.blt .abs (.cons (.var 2) .nil)) (.bin .pow (.int 10) (.int 18))) .nil))) (.cons (.call fm (.cons (.var 2) (.cons (.bin .add (.int 900) (.var 1)) .nil))) (.cons (.int 0) .nil)))))
 .nil))⟩
theorem EZ{fc:Nat}{sc:Stmt}(hf:T[f]?=Z (v6 s fc fm))(z:T[fc]?=Z (kC sc))(B:∀{x k:Int} {M:Mem} {Q:QD},(∀i,Q (.int i) M)->phi T (n-1) fm [.int x,.int k] M Q)(G:2<=n){k:Int}(h0:0<=k)(q:∀p x y,M p=Y->Q (.ref p) (ag M p (.lst [.int x,.int y,.int 0]))):phi T n f [.con (ns.map D.int),.int k] M Q:=by
 refine ar ∅ hf rfl (ρ:=[Z _,Z _,Y]) rfl ?_
 unfold v6;nofun;refine CC z ∅ h0 λi=>?_
 nofun;refine⟨by decide,by decide,by decide,gw ?_,?_⟩
 ·split<;>lia
 refine B λj=>?_;exact⟨by rw[A0];lia,λp F=>q p _ _ F⟩
noncomputable def qK(s:Stmt)(fm:Nat):FD:=⟨"_law_take",s,["_law_box_here","_law_many","_law_found","_law_reach"],2,
 (.cons (.ite (.cmp .gt (.ix (.var 0) (.int 0)) (.int 0)) (.cons (.asg (.name 2) (.bin .mod (.ix (.var 0) (.int 0)) (.var 1)))
 (.cons (.put (.var 0) (.int 0) (.bin .fdiv (.ix (.var 0) (.int 0)) (.var 1)))
 (.cons (.ret (.var 2))
 .nil))) .nil)
 (.cons (.asg (.tup (.cons (.name 2) (.cons (.name 3) .nil))) (.tup (.cons (.int 0) (.cons (.int 1) .nil))))
 (.cons (.while (.cmp .lt (.var 3) (.var 1)) (.cons (.put (.var 0) (.int 2) (.bin .add (.ix (.var 0) (.int 2)) (.int 1)))
 (.cons (.asg (.name 2) (.bin .add (.bin .mul (.var 2) (.int 33554432)) (.call fm (.cons (.ix (.var 0) (.int 1)) (.cons (.ix (.var 0) (.int 2)) .nil)))))
 (.cons (.asg (.name 3) (.bin .mul (.var 3) (.int 33554432)))
 .nil))))
 (.cons (.ret (.bin .mod (.var 2) (.var 1)))
 .nil))))⟩
def v7(T:List FD)(n fm:Nat):Prop:=∀{x k:Int} {M:Mem} {Q:QD},(∀i,Q (.int i) M)->phi T n fm [.int x,.int k] M Q
theorem CD(hf:T[f]?=Z (qK s fm))(J:v7 T (n-1) fm)(O:2<=n){m:Int}(L:Box b M)(h1:0<m)(h2:m<=2^140)(q:∀r M',0<=r->r<m->Bx b M M'->Q (.int r) M'):phi T n f [.ref b,.int m] M Q:=by
 refine ar ∅ hf rfl (ρ:=[Z _,Z _,Y,Y]) rfl ?_
 unfold qK;obtain⟨x,y,z,G⟩:=L;nofun;refine aN G (d:=.int x) rfl ?_;simp only[Gp];ac_nf
 split
 ·next hx=>
  nofun;refine aN G (d:=.int x) rfl ?_;ac_nf;refine⟨h1,?_⟩;nofun;refine aN G (d:=.int x) rfl ?_;ac_nf;refine⟨h1,∅,?_⟩
  refine cj G (j:=0) rfl ?_;nofun;exact q _ _ (PR _ ∅) (OP _ h1) Bx.put
 ·next hx=>
  nofun;refine⟨by rw[A0];lia,?_⟩
  nofun;refine⟨7,?_⟩;have go:∀(f:Nat) (found reach z:Int) (M':Mem),m<=reach*33554432^f->M' b=Z (.lst [.int x,.int y,.int z])->Bx b M M'->
   aH (fU (wOp wLt (dD 3) (dD 1))) (wSs (phi T (n-1)) (MSs.cons (MS.put (ME.var 0) (ME.int 2) (ME.bin BOp.add ((ME.var 0).ix (ME.int 2)) (ME.int 1)))
    (MSs.cons (MS.asg (MG.name 2) (ME.bin BOp.add (ME.bin BOp.mul (ME.var 2) (ME.int 33554432)) (ME.call fm (MEs.cons ((ME.var 0).ix (ME.int 1)) (MEs.cons ((ME.var 0).ix (ME.int 2)) MEs.nil)))))
      (MSs.cons (MS.asg (MG.name 3) (ME.bin BOp.mul (ME.var 3) (ME.int 33554432))) MSs.nil))))
    {nx:=wSs (phi T (n-1)) (MSs.cons (MS.ret (ME.bin BOp.mod (ME.var 2) (ME.var 1))) MSs.nil) {nx:=λx M'=>Q D.non M',rt:=Q},rt:=Q} (f+1) [Z (.ref b),Z (.int m),Z (.int found),Z (.int reach)] M':=by
   intro f
   induction f with
   |zero=>
    intro found reach z M' hm F B;simp only[aH];ac_nf;rw[if_neg ∅]
    nofun;exact⟨h1,q _ _ (PR _ ∅) (OP _ h1) B⟩
   |succ f ih=>
    intro found reach z M' hm F B;rw[aH];ac_nf
    split
    ·next U=>
     nofun;refine aN F (d:=.int z) rfl ?_;ac_nf;refine cj F (j:=2) rfl ?_;nofun;refine⟨gw (by decide),?_⟩
     refine aN aa (d:=.int y) rfl ?_;refine aN aa (d:=.int (z+1)) rfl ?_;refine J λi=>?_;ac_nf;nofun;refine⟨gw (by decide),?_⟩
     exact ih _ _ (z+1) _ (by rw[Int.mul_assoc,<-Int.pow_succ'];exact hm) aa (B.trans Bx.put)
    ·nofun;exact⟨h1,q _ _ (PR _ ∅) (OP _ h1) B⟩
  exact go 6 0 1 z M ∅ G (Bx.refl ⟨x,y,z,G⟩)
def kD(T:List FD)(n f:Nat):Prop:=∀{b:Wk} {m:Int} {M:Mem} {Q:QD},Box b M->0<m->m<=2^140->(∀r M',0<=r->r<m->Bx b M M'->Q (.int r) M')->phi T n f [.ref b,.int m] M Q
noncomputable def jr(s:Stmt)(ft:Nat):FD:=⟨"_law_number",s,["_law_box_here","_law_way"],1,
 (.cons (.asg (.name 1) (.call ft (.cons (.var 0) (.cons (.int 9) .nil))))
 (.cons (.ite (.cmp .eq (.var 1) (.int 0)) (.cons (.ret (.bin .sub (.call ft (.cons (.var 0) (.cons (.int 2001) .nil))) (.int 1000)))
 .nil) .nil)
 (.cons (.ret (.ix (.lst (.cons (.int 0) (.cons (.int 0) (.cons (.int 0) (.cons (.int 1) (.cons (.int 1) (.cons (.int 1) (.cons (.neg (.int 1)) (.cons (.neg (.int 1)) (.cons (.int 2) .nil)))))))))) (.var 1)))
 .nil)))⟩
theorem xI(hf:T[f]?=Z (jr s ft))(j:kD T (n-1) ft)(U:1<=n)(G:Box b M)(q:∀r M',-1000<=r->r<=1000->Bx b M M'->Q (.int r) M'):phi T n f [.ref b] M Q:=by
 refine ar ∅ hf rfl (ρ:=[Z _,Y]) rfl ?_
 unfold jr;nofun;refine j G (by decide) (by decide) λr Fn h0 h1 B=>?_
 nofun
 split
 ·nofun;refine j B.box (by decide) (by decide) λfv M2 h0 h1 J=>?_
  ac_nf;exact q _ _ ∅ ∅ (B.trans J)
 ·next F=>
  nofun;refine⟨by rw[A0];lia,λp L=>?_⟩
  have F:r=1∨r=2∨r=3∨r=4∨r=5∨r=6∨r=7∨r=8:=by
   have:r≠0:=λz=>F (by rw[z];rfl)
   lia
  have O:=B.ge (Ge.new (o:=.lst [.int 0,.int 0,.int 0,.int 1,.int 1,.int 1,.int (-1),.int (-1),.int 2]) L)
  rcases F with rfl|rfl|rfl|rfl|rfl|rfl|rfl|rfl<;>exact aN aa rfl (q _ _ (by decide) (by decide) O)
end
section
variable{T:List FD}
def qL(T:List FD)(n f:Nat):Prop:=∀{b:Wk} {M:Mem} {Q:QD},Box b M->(∀r M',-1000<=r->r<=1000->Bx b M M'->Q (.int r) M')->phi T n f [.ref b] M Q
def cy(ns:List Int):Prop:=∀x∈ns,-1000<=x/\x<=1000
theorem kE{lo:Int}:(cD lo n).length=n:=by simp[cD]
theorem ax{α:Type}{xs l r:List α}{x:α}(e:xs=l++x::r):l.length<xs.length:=by rw[e];simp
theorem xJ{α:Type}{xs l r:List α}{x:α}(e:xs=l++x::r):xs[l.length]?=Z x:=by rw[e];simp
noncomputable def qM(s:Stmt)(fn:Nat):FD:=⟨"_law_part",s,["_law_box_here","_law_length"],2,
 (.cons (.ret (.blt .tuple (.cons (.comp [Y,(Z 0)] ["_law_k","_law_box_here"] (.last (.rng1 (.var 1)) (.name 0) .nil (.call fn (.cons (.var 1) .nil)))) .nil)))
 .nil)⟩
theorem CF{fn:Nat}(hf:T[f]?=Z (qM s fn))(B:qL T (n-1) fn)(Fn:1<=n)(fv:L<=1000)(F:Box b M)(q:∀(ns:List Int) M',ns.length=L->cy ns->Bx b M M'->Q (.tup (ns.map .int)) M'):phi T n f [.ref b,.int L] M Q:=by
 refine ar ∅ hf rfl (ρ:=[Z _,Z _]) rfl ?_
 unfold qM;nofun;refine⟨∅,∅,?_⟩
 refine xH (I:=λl ρ M' acc=>∃(ns:List Int) (x:Option D),acc=ns.map .int/\ns.length=l.length/\cy ns/\Bx b M M'/\ρ=[x,Z (.ref b)]) ⟨[],Y,rfl,rfl,λ_ h=>by simp at h,Bx.refl F,rfl⟩ (λ_ _ _ _ _=>trivial) ?_ ?_
 ·rintro l x r ρ M1 acc e ⟨ns,o,rfl,j,hs,z,rfl⟩;refine⟨_,rfl,λN' G=>?_⟩;ac_nf;refine B z.box λv M2 h1 h2 J=>?_;have:=ax e;rw[kE]at this;refine⟨by rw[m1,j,A0];lia,G _ _ _ ⟨ns++[v],_,by simp,by simp[j],?_,z.trans J,rfl⟩⟩
  intro y O
  rcases Lo.mp O with h|h
  ·exact hs y h
  ·simp at h;subst h;exact⟨h1,h2⟩
 ·rintro ρ M1 acc ⟨ns,o,rfl,j,hs,z,rfl⟩ p U;rw[kE]at j;refine⟨_,ns.map .int,rfl,ai aa,q ns _ ∅ hs (z.ge (Ge.new U))⟩
noncomputable abbrev Pr:=List Int×List Int×List Int
noncomputable def prD(p:Pr):D:=.tup [.tup (p.1.map .int),.tup (p.2.1.map .int),.tup (p.2.2.map .int)]
structure v8(L0 L1 L2:Nat)(p:Pr):Prop where
 l0:p.1.length=L0
 l1:p.2.1.length=L1
 l2:p.2.2.length=L2
 s0:cy p.1
 s1:cy p.2.1
 s2:cy p.2.2
theorem gB{s:MS}{r:MSs}(I:aw->Mem->Prop)(h1:∀R:aw->Mem->Prop,(∀ρ M,I ρ M->R ρ M)->wS Φ s {E with nx:=R} ρ M)(h2:∀ρ M,I ρ M->wSs Φ r E ρ M):wSs Φ (.cons s r) E ρ M:=by rw[bj];exact h1 _ h2
theorem Bx.upd{q:Wk}(h:Bx b M M')(B:M q=Y)(j:q≠b):Bx b M (ag M' q o):=
 ⟨by obtain⟨x,y,z,e⟩:=h.box;exact⟨x,y,z,by rw[aE j.symm];exact e⟩,fun u o' nu eu=>by rw[aE (λz=>by rw[z,B]at eu;cases eu)];exact h.keep u o' nu eu⟩
theorem Bx.none{q:Wk}(h:Bx b M M')(z:M' q=Y)(j:q≠b):M q=Y:=by
 cases e:M q with
 |none=>rfl
 |some o=>rw[h.keep q o j e]at z;cases z
theorem v9{k:Nat}:(z4 k [D.int 0]).flatten=(z4 k (0:Int)).map D.int:=by
 induction k with
 |zero=>rfl
 |succ k ih=>rw[Ms,Nz,ih];rfl
def xK(T:List FD)(n f:Nat):Prop:=∀{b:Wk} {L:Nat} {M:Mem} {Q:QD},L<=1000->Box b M->(∀(ns:List Int) M',ns.length=L->cy ns->Bx b M M'->Q (.tup (ns.map .int)) M')->phi T n f [.ref b,.int L] M Q
end
section
theorem av{α:Type}{f:α->D}{b:BT}{chk:Mem->Prop}{N:NC}(I:List α->aw->Mem->List D->Prop){ys:List α}(hx:xs=ys.map f){acc:List D}(h0:I [] ρ M acc)(z:∀l ρ M acc,I l ρ M acc->chk M)(hs:∀l x r ρ M acc,ys=l++x::r->I l ρ M acc->∃ρ',b (f x) ρ=Z ρ'/\∀N':NC,(∀ρ2 M2 j,I (l++[x]) ρ2 M2 j->N' ρ2 M2 j)->tb ρ' M acc N')(B:∀ρ M acc,I ys ρ M acc->N ρ M acc):cw b tb chk N xs ρ M acc:=by
 subst hx;have g:∀(r l:List α) (ρ:aw) (M:Mem) (acc:List D),ys=l++r->I l ρ M acc->cw b tb chk N (r.map f) ρ M acc:=by
  intro r
  induction r with
  |nil=>intro l ρ M acc e i;rw[Mz]at e;subst e;exact⟨z _ _ _ _ i,B _ _ _ i⟩
  |cons x r ih=>intro l ρ M acc e i;obtain⟨ρ',e1,h⟩:=hs l x r ρ M acc e i;exact⟨z _ _ _ _ i,ρ',e1,h _ λρ2 M2 j F=>ih (l++[x]) ρ2 M2 j (by rw[e];simp) F⟩
 exact g ys [] ρ M acc rfl h0
theorem bn{α:Type}{f:α->D}{b:BT}{tb:TSd}{chk:Mem->Prop}(I:List α->aw->Mem->Prop){ys:List α}(hx:xs=ys.map f)(h0:I [] ρ M)(j:∀l ρ M,I l ρ M->chk M)(hs:∀l x r ρ M,ys=l++x::r->I l ρ M->∃ρ',b (f x) ρ=Z ρ'/\∀F:aw->Mem->Prop,(∀ρ2 M2,I (l++[x]) ρ2 M2->F ρ2 M2)->tb {E with nx:=F,ct:=F,bk:=E.nx} ρ' M)(z:∀ρ M,I ys ρ M->E.nx ρ M):cb b tb chk E xs ρ M:=by
 subst hx;have g:∀(r l:List α) (ρ:aw) (M:Mem),ys=l++r->I l ρ M->cb b tb chk E (r.map f) ρ M:=by
  intro r
  induction r with
  |nil=>intro l ρ M e i;rw[Mz]at e;subst e;exact⟨j _ _ _ i,z _ _ i⟩
  |cons x r ih=>intro l ρ M e i;obtain⟨ρ',e1,h⟩:=hs l x r ρ M e i;exact⟨j _ _ _ i,ρ',e1,h _ λρ2 M2 B=>ih (l++[x]) ρ2 M2 (by rw[e];simp) B⟩
 exact g ys [] ρ M rfl h0
theorem sX{x:D}{ds:List D}(h:aF M x=Z ds)(g:Ge M M'):aF M' x=Z ds:=by
 cases x with
 |ref a=>
  simp only[aF]at h⊢
  split at h
  ·next e=>rw[g _ _ e];exact h
  ·cases h
 |_=>exact h
theorem CG{α:Type}{xs:List α}{k:Nat}{x:α}(h:xs[k]?=Z x):atI xs (k:Int)=Z x:=by
 have j:k<xs.length:=(KQ.mp h).1;unfold atI ixN;rw[if_pos ∅,if_pos ∅]
 exact h
theorem aS:cD 0 n=(q7 n).map λi=>D.int (i:Nat):=by simp[cD]
end
section
variable{T:List FD}
def Big(ns:List Int):Prop:=∀x∈ns,-1000000000000<=x/\x<=1000000000000
end
section
variable{T:List FD}
noncomputable def qN(x:Str)(s:Stmt):FD:=⟨"_law_mixed",s,[x,"_law_k","_law_once","_law_twice"],2,(lW s).body⟩
theorem xL(hf:T[f]?=Z (qN x s))(j:1<=n):v7 T n f:=by
 intro x k M Q q;refine ar j hf rfl (ρ:=[Z _,Z _,Y,Y]) rfl ?_;unfold qN lW;nofun;refine⟨by decide,aZ (by decide),gw (by decide),by decide,?_⟩
 nofun;refine⟨by decide,aZ ?_,by decide,?_⟩
 ·have h1:=PR ((x%1000000007+7*k+1)*48271) (b:=2147483647) (by decide)
  have h2:=OP ((x%1000000007+7*k+1)*48271) (b:=2147483647) (by decide)
  lia
 nofun;refine⟨gw (by decide),by decide,by decide,by decide,?_⟩
 exact q _
end
section
open L2.Srt
variable{T:List FD}
noncomputable abbrev K3:=Int×Int×Int
noncomputable abbrev Tm:=K3×Int
noncomputable def k3D(k:K3):D:=.tup [.int k.1,.int k.2.1,.int k.2.2]
noncomputable def tmD(t:Tm):D:=.tup [.int t.1.1,.int t.1.2.1,.int t.1.2.2,.int t.2]
noncomputable def kcD(t:Tm):D×D:=(k3D t.1,.int t.2)
noncomputable def k3K(k:K3):Ky:=.tup [.int k.1,.int k.2.1,.int k.2.2]
def klt(a b:K3):Prop:=ltK (k3K a) (k3K b)=F2
theorem lX{a b:K3}(h:k3D a=k3D b):a=b:=by obtain⟨a1,a2,j⟩:=a;obtain⟨z,B,F⟩:=b;simp[k3D]at h;simp[h]
theorem CH{a b:K3}(h:k3K a=k3K b):a=b:=by obtain⟨a1,a2,j⟩:=a;obtain⟨z,B,F⟩:=b;simp[k3K]at h;simp[h]
noncomputable def cf(ts:List Tm)(k:K3):Int:=((ts.filter λt=>decide (t.1=k)).map (·.2)).sum
theorem fD{k:K3}:cf [] k=0:=rfl
theorem b7{t:Tm}{ts:List Tm}{k:K3}:cf (t::ts) k=(if t.1=k then t.2 else 0)+cf ts k:=by
 unfold cf
 by_cases h:t.1=k
 ·rw[NF (by simpa using h),if_pos h];simp
 ·rw[ND (by simpa using h),if_neg h];simp
theorem i7{a b:List Tm}{k:K3}:cf (a++b) k=cf a k+cf b k:=by
 induction a with
 |nil=>simp[fD]
 |cons t a ih=>rw[Pt,b7,b7,ih];lia
theorem CI{a b:List Tm}(h:a.Perm b){k:K3}:cf a k=cf b k:=by
 induction h with
 |nil=>rfl
 |cons x h ih=>rw[b7,b7,ih]
 |swap x y l=>simp only[b7];lia
 |trans _ _ j z=>rw[j,z]
theorem iL{ts:List Tm}{k:K3}(h:∀t∈ts,t.1≠k):cf ts k=0:=by
 induction ts with
 |nil=>rfl
 |cons t ts ih=>rw[b7,if_neg (h t (by simp)),ih λu j=>h u (by simp[j])];rfl
theorem qO{ts:List Tm}(j:(ts.map (·.1)).Nodup){t:Tm}(B:t∈ts):cf ts t.1=t.2:=by
 induction ts with
 |nil=>simp at B
 |cons u ts ih=>
  simp only[KI,Mo]at j;rw[b7]
  rcases D1.mp B with z|z
  ·subst z;rw[if_pos rfl,iL λv F e=>j.1 (by rw[<-e];exact L5 F)]
   lia
  ·rw[if_neg λe=>j.1 (by rw[e];exact L5 z),ih j.2 z];lia
theorem Ab{ts:List Tm}{B:Int}(z:0<=B)(h:∀t∈ts,-B<=t.2/\t.2<=B){k:K3}:-(ts.length*B)<=cf ts k/\cf ts k<=ts.length*B:=by
 induction ts with
 |nil=>simp[fD]
 |cons t ts ih=>
  obtain⟨h1,h2⟩:=ih λu j=>h u (by simp[j])
  obtain⟨F,G⟩:=h t (by simp)
  rw[b7,La,NO,Rz]
  split<;>lia
noncomputable def dF(L:List Tm)(k:K3)(c:Int):List Tm:=if(L.any λp=>decide (p.1=k))=F2 then L.map λp=>if p.1=k then(p.1,p.2+c)else p else L++[(k,c)]
theorem CJ{L:List Tm}{k:K3}:dget (L.map kcD) (k3D k)=(L.find? λp=>decide (p.1=k)).map λp=>.int p.2:=by
 unfold dget
 induction L with
 |nil=>rfl
 |cons t L ih=>
  by_cases h:t.1=k
  ·rw[KI,Qe (by simp[kcD,h]),Qe (by simpa using h)];rfl
  ·rw[KI,ON (by simp only[decide_eq_true_eq];exactλe=>h (lX e)),ON (by simpa using h),ih]
theorem F4{L:List Tm}{k:K3}:((L.map kcD).any λp=>decide (p.1=k3D k))=L.any λp=>decide (p.1=k):=by
 induction L with
 |nil=>rfl
 |cons t L ih=>
  rw[KI,N8,N8,ih];congr 1
  by_cases h:t.1=k
  ·simp[kcD,h]
  ·rw[decide_eq_false h];exact decide_eq_false (λe=>h (lX e))
theorem CK{L:List Tm}(j:(L.map (·.1)).Nodup){k:K3}:eY (L.map kcD) (k3D k) (.int ((((L.find? λp=>decide (p.1=k)).map (·.2)).getD 0)+c))=(dF L k c).map kcD:=by
 unfold eY dF;rw[F4]
 split
 ·next h=>
  rw[LC,LC];apply L8;intro t B;simp only[RQ]
  by_cases e:t.1=k
  ·rw[if_pos (by rw[<-e];rfl),if_pos e]
   have:L.find? (λp=>decide (p.1=k))=Z t:=by
    clear h
    induction L with
    |nil=>simp at B
    |cons u L ih=>
     simp only[KI,Mo]at j
     rcases D1.mp B with z|z
     ·subst z;rw[Qe (by simpa using e)]
     ·rw[ON (by simp;intro e2;exact j.1 (by rw[e2,<-e];exact L5 z))]
      exact ih j.2 z
   rw[this];rfl
  ·rw[if_neg (c:=(kcD t).1=k3D k) (λz=>e (lX z)),if_neg e]
 ·next h=>
  have:L.find? (λp=>decide (p.1=k))=Y:=by rw[Rj];intro x hx;simp only[decide_eq_true_eq];intro e;exact h (Mk.mpr ⟨x,hx,by simpa using e⟩)
  rw[this];simp[kcD]
theorem nF{L:List Tm}{k:K3}:(dF L k c).map (·.1)=if(L.any λp=>decide (p.1=k))=F2 then L.map (·.1)else L.map (·.1)++[k]:=by
 unfold dF
 split
 ·rw[LC];apply L8;intro t _;simp only[RQ]
  split<;>rfl
 ·simp
theorem va{L:List Tm}(j:(L.map (·.1)).Nodup){k:K3}:((dF L k c).map (·.1)).Nodup:=by
 rw[nF]
 split
 ·exact j
 ·next h=>
  refine P6.mpr ⟨j,by simp,λa B b z e=>?_⟩
  simp at z;subst z;subst e;obtain⟨t,F,e⟩:=D2.mp B;exact h (Mk.mpr ⟨t,F,by simpa using e⟩)
theorem Ac{L:List Tm}{k a:K3}(h:a∈(dF L k c).map (·.1)):a∈L.map (·.1)∨a=k:=by
 rw[nF]at h
 split at h
 ·exact .inl h
 ·rcases Lo.mp h with z|z
  ·exact .inl z
  ·exact .inr (by simpa using z)
theorem Ad{L:List Tm}{k:K3}:(dF L k c).length<=L.length+1:=by unfold dF;split<;>simp
theorem CL{L:List Tm}(j:(L.map (·.1)).Nodup){k a:K3}:cf (dF L k c) a=cf L a+if k=a then c else 0:=by
 unfold dF
 split
 ·next h=>
  obtain⟨t,B,e⟩:=Mk.mp h;have e:t.1=k:=by simpa using e
  clear h
  induction L with
  |nil=>simp at B
  |cons u L ih=>
   simp only[KI,Mo]at j;rw[KI,b7,b7]
   by_cases eu:u.1=k
   ·have rest:(L.map fun p=>if p.1=k then(p.1,p.2+c)else p)=L:=by
     conv=>rhs;rw[<-Vh L]
     apply L8;intro p F;rw[if_neg λz=>j.1 (by rw[eu,<-z];exact L5 F)];rfl
    rw[rest,if_pos eu];dsimp only
    by_cases ea:u.1=a
    ·rw[if_pos ea,if_pos ea,if_pos (by rw[<-eu];exact ea)];lia
    ·rw[if_neg ea,if_neg ea,if_neg (by rw[<-eu];exact ea)];lia
   ·rcases D1.mp B with z|z
    ·exact absurd (by rw[<-z];exact e) eu
    ·rw[ih j.2 z,if_neg eu];lia
 ·rw[i7,b7,fD];simp
noncomputable def tset(ts:List Tm):List Tm:=ts.foldl (λL t=>dF L t.1 t.2) []
theorem dw{ts:List Tm}{t:Tm}:tset (ts++[t])=dF (tset ts) t.1 t.2:=by simp[tset]
theorem bw{α:Type}{P:List α->Prop}(h0:P [])(h1:∀l x,P l->P (l++[x]))(l:List α):P l:=by
 have:∀r:List α,P r.reverse:=by
  intro r
  induction r with
  |nil=>exact h0
  |cons x r ih=>rw[P5];exact h1 _ _ ih
 have:=this l.reverse;rw[QK]at this;exact this
theorem gC(ts:List Tm):((tset ts).map (·.1)).Nodup:=bw (P:=λts=>((tset ts).map (·.1)).Nodup) (by simp[tset]) (λl x ih=>by rw[dw];exact va ih) ts
theorem CM(ts:List Tm)(k:K3):cf (tset ts) k=cf ts k:=bw (P:=λts=>cf (tset ts) k=cf ts k) rfl (λl x ih=>by rw[dw,CL (gC l),ih,i7,b7,fD];lia) ts
theorem jt(ts:List Tm):(tset ts).length<=ts.length:=bw (P:=λts=>(tset ts).length<=ts.length) (by simp[tset]) (λl x ih=>by rw[dw];have:=Ad (L:=tset l) (k:=x.1) (c:=x.2);simp;lia) ts
theorem Ae(ts:List Tm):∀a∈(tset ts).map (·.1),a∈ts.map (·.1):=bw (P:=λts=>∀a∈(tset ts).map (·.1),a∈ts.map (·.1)) (by simp[tset]) (λl x ih a j=>by
 rw[dw]at j;rw[L3]
 rcases Ac j with z|z
 ·exact LD _ (ih a z)
 ·exact Lj _ (by simp[z])) ts
structure IsTask(ts rs:List Tm):Prop where
 srt:rs.Pairwise λa b=>klt a.1 b.1
 nz:∀r∈rs,r.2≠0
 cf:∀k,cf rs k=cf ts k
 mem:∀r∈rs,r.1∈ts.map (·.1)
 len:rs.length<=ts.length
theorem CN{a:K3}(h:klt a a):False:=by have:=qo _ _ h;unfold klt at h;rw[h]at this;cases this
theorem IsTask.nodup{ts rs:List Tm}(h:IsTask ts rs):(rs.map (·.1)).Nodup:=by rw[LQ,LY];refine h.srt.imp ?_;intro a b j e;rw[e]at j;exact CN j
theorem IsTask.val{ts rs:List Tm}(h:IsTask ts rs){r:Tm}(j:r∈rs):r.2=Mi.cf ts r.1:=by rw[<-h.cf,qO h.nodup j]
theorem Gy{ts:List Tm}{k:K3}:Mi.cf (ts.filter λt=>!(t.2==0)) k=Mi.cf ts k:=by
 induction ts with
 |nil=>rfl
 |cons t ts ih=>
  rw[b7]
  by_cases h:t.2=0
  ·rw[ND (by simp[h]),ih,h];split<;>lia
  ·rw[NF (by simp[h]),b7,ih]
theorem Ge.upd{j:Mem}{d:Wk}(g:Ge M j)(hd:M d=Y):Ge M (ag j d o):=λa o' e=>by rw[aE (λz=>by rw[z,hd]at e;cases e)];exact g _ _ e
noncomputable def i8(s:Stmt):FD:=⟨"task_of",s,["left","right","many","terms","sums","k","i","j","c"],4,
 (.cons (.asg (.name 4) (.dnew F2))
 (.cons (.for (.tup (.cons (.name 5) (.cons (.name 6) (.cons (.name 7) (.cons (.name 8) .nil))))) (.seq (.var 3)) (.cons (.put (.var 4) (.tup (.cons (.var 5) (.cons (.var 6) (.cons (.var 7) .nil)))) (.bin .add (.dget (.var 4) (.tup (.cons (.var 5) (.cons (.var 6) (.cons (.var 7) .nil)))) (.int 0)) (.var 8)))
 .nil))
 (.cons (.ret (.tup (.cons (.var 0) (.cons (.var 1) (.cons (.var 2) (.cons (.comp [Y,Y,Y,Y] ["k","i","j","c"] (.last (.seq (.sortI (.var 4))) (.tup (.cons (.tup (.cons (.name 0) (.cons (.name 1) (.cons (.name 2) .nil)))) (.cons (.name 3) .nil))) (.cons (.cmp .ne (.var 3) (.int 0)) .nil) (.tup (.cons (.var 0) (.cons (.var 1) (.cons (.var 2) (.cons (.var 3) .nil))))))) .nil))))))
 .nil)))⟩
theorem CO(hf:T[f]?=Z (i8 s))(hn:1<=n){L R N x:D}{ts:List Tm}(hx:aF M x=Z (ts.map tmD))(hl:ts.length<=63)(q:∀(rs:List Tm) p M',IsTask ts rs->Ge M M'->M p=Y->M' p=Z (.lst (rs.map tmD))->Q (.tup [L,R,N,.ref p]) M'):phi T n f [L,R,N,x] M Q:=by
 refine ar ∅ hf rfl (ρ:=[Z _,Z _,Z _,Z _,Y,Y,Y,Y,Y]) rfl ?_
 unfold i8;nofun;intro d hd;nofun;have g0:=Ge.new (o:=.dct F2 []) hd;refine⟨_,sX hx g0,?_⟩;refine bn (I:=λl ρ M'=>∃Fn fv o7 o8,ρ=[Z L,Z R,Z N,Z x,Z (.ref d),Fn,fv,o7,o8]/\Ge M M'/\M' d=Z (.dct F2 ((tset l).map kcD))) rfl ⟨_,_,_,_,rfl,g0,aa⟩ (λl ρ M' g9=>(by obtain⟨_,_,_,_,_,g,_⟩:=g9;exact sX hx g)) ?_ ?_
 ·rintro l t r ρ M1 e ⟨Fn,fv,o7,o8,rfl,g1,B⟩;refine⟨_,rfl,λF hF=>?_⟩;have JJ:=ax e;have JM:=jt l;rw[bj];ac_nf;refine⟨⟨_,_,B⟩,by rw[A0];lia,_,_,B,rfl,?_⟩
  have ek:D.tup [D.int t.1.1,D.int t.1.2.1,D.int t.1.2.2]=k3D t.1:=rfl;rw[ek,CJ];have eg:((Option.map (λp:Tm=>D.int p.2) ((tset l).find? λp=>decide (p.1=t.1))).getD (.int 0))=.int (((((tset l).find? λp=>decide (p.1=t.1)).map (·.2)).getD 0)):=by cases(tset l).find? λp=>decide (p.1=t.1)<;>rfl
  rw[eg];ac_nf;refine⟨by rw[A0];lia,qJ B rfl (by rw[m1,A0];lia) ?_⟩
  rw[CK (gC l)];refine hF _ _ ⟨_,_,_,_,rfl,g1.upd hd,?_⟩;rw[aa,dw]
 ·rintro ρ M1 ⟨Fn,fv,o7,o8,rfl,g1,B⟩;dsimp only;nofun;refine⟨_,_,B,.tup [.tup [.int,.int,.int],.int],rfl,λkv JK=>?_,?_,λp ys hp z j=>?_⟩
  ·obtain⟨t,_,rfl⟩:=D2.mp JK;rfl
  ·rw[m1];exact LR (jt ts) hl
  rw[LC]at z;obtain⟨L',O,p2⟩:=eN (λt:Tm=>kvD (kcD t)) z rfl;have G:(L'.map (·.1)).Nodup:=(O.map (·.1)).nodup_iff.mpr (gC ts);have JL:L'.Pairwise λa b=>klt a.1 b.1:=by
   rw[<-p2]at j;unfold gd at j;rw[LY]at j;rw[LQ,LY]at G;refine(j.and G).imp ?_;rintro a b ⟨h1,h2⟩;unfold klt
   cases e1:ltK (k3K a.1) (k3K b.1)with
   |true=>rfl
   |false=>
    exfalso
    cases e2:ltK (k3K b.1) (k3K a.1)with
    |false=>exact h2 (CH (ng _ _ e1 e2))
    |true=>
     have:ltK (kyD (kvD (kcD b))) (kyD (kvD (kcD a)))=F2:=by
      show ltK (.tup [k3K b.1,.int b.2]) (.tup [k3K a.1,.int a.2])=F2;unfold ltK at e2⊢;have e2:ay (k3K b.1) (k3K a.1)=.lt:=by simpa using e2
      simp only[ay,cmpKs];rw[e2];rfl
     rw[this]at h1;cases h1
  have g2:=g1.trans (Ge.new (o:=.lst ys) hp);subst p2;refine⟨_,ai aa,?_⟩;have JN:L'.length<=ts.length:=by rw[O.length_eq];exact jt ts
  refine av (f:=λt:Tm=>kvD (kcD t)) (I:=λl ρ M' acc=>(∃o0 o1 o2 o3,ρ=[o0,o1,o2,o3])/\M'=ag M1 p (.lst (L'.map λt=>kvD (kcD t)))/\acc=(l.filter λt=>!(t.2==0)).map tmD) rfl ⟨⟨_,_,_,_,rfl⟩,rfl,rfl⟩ (λ_ _ _ _ hI=>by rw[hI.2.1];exact ai aa) ?_ ?_
  ·rintro l t r ρ M2 acc e ⟨⟨o0,o1,o2,o3,rfl⟩,rfl,rfl⟩;refine⟨_,rfl,λN' hN=>?_⟩;have JJ:=ax e;have JO:(l.filter λt=>!(t.2==0)).length<=l.length:=OZ _ _;ac_nf;simp only[show(kcD t).2=D.int t.2 from rfl];ac_nf
   by_cases U:t.2=0
   ·rw[if_neg (by simp[U])]
    exact hN _ _ _ ⟨⟨_,_,_,_,rfl⟩,rfl,by simp[OQ,U]⟩
   ·rw[if_pos (by simp[U])]
    refine⟨by rw[A0];lia,by rw[m1,A0];lia,hN _ _ _ ⟨⟨_,_,_,_,rfl⟩,rfl,?_⟩⟩
    simp[OQ,U,tmD]
  ·rintro ρ M2 acc ⟨_,rfl,rfl⟩ p2 hp2;refine⟨by rw[A0];lia,?_⟩
   have J:M p2=Y:=by
    cases hq:M p2 with
    |none=>rfl
    |some o=>rw[g2 _ _ hq]at hp2;cases hp2
   refine q (L'.filter λt=>!(t.2==0)) p2 _ ⟨JL.sublist List.filter_sublist,λr hr=>by simpa using(NG.mp hr).2,λk=>?_,λr hr=>?_,?_⟩ (g2.trans (Ge.new hp2)) J aa
   ·rw[Gy,CI O,CM]
   ·have:=(NG.mp hr).1;exact Ae ts _ (L5 (O.mem_iff.mp this))
   ·have:=OZ (λt:Tm=>!(t.2==0)) L';lia
end
section
open L2.Srt
variable{T:List FD}
noncomputable def gi(l:List Int)(i:Int):Int:=l.getD i.toNat 0
structure InB(rs:List Tm)(la lb N:Nat):Prop where
 k:∀r∈rs,0<=r.1.1/\r.1.1<N
 i:∀r∈rs,0<=r.1.2.1/\r.1.2.1<la
 j:∀r∈rs,0<=r.1.2.2/\r.1.2.2<lb
 c:∀r∈rs,-(2^64)<r.2/\r.2<2^64
end
section
open L2.Srt
theorem sY{α:Type}{lt:α->α->Prop}(as:∀a b,lt a b->lt b a->False):∀{l m:List α},l.Pairwise lt->m.Pairwise lt->(∀x,x∈l↔x∈m)->l=m
 |[],[],_,_,_=>rfl
 |[],y::m,_,_,h=>by have:=(h y).mpr (by simp);simp at this
 |x::l,[],_,_,h=>by have:=(h x).mp (by simp);simp at this
 |x::l,y::m,B,hm,h=>by
  rw[Ug]at B hm;have e:x=y:=by
   rcases D1.mp ((h x).mp (by simp))with z|z
   ·exact z
   ·rcases D1.mp ((h y).mpr (by simp))with w|w
    ·exact w.symm
    ·exact(as _ _ (hm.1 _ z) (B.1 _ w)).elim
  subst e;rw[sY as B.2 hm.2 λz=>?_];constructor
  ·intro j
   rcases D1.mp ((h z).mp (by simp[j]))with w|w
   ·subst w;exact(as _ _ (B.1 _ j) (B.1 _ j)).elim
   ·exact w
  ·intro j
   rcases D1.mp ((h z).mpr (by simp[j]))with w|w
   ·subst w;exact(as _ _ (hm.1 _ j) (hm.1 _ j)).elim
   ·exact w
end
section
open L2.Srt
variable{T:List FD}
noncomputable def ak(n:Nat)(F:Nat->Int):Int:=((q7 n).map F).sum
theorem al(h:∀i,i<n->F i=G i):ak n F=ak n G:=by unfold ak;rw[L8 λi hi=>h i (L9.mp hi)]
theorem rsum_succ:ak (n+1) F=ak n F+F n:=by unfold ak;rw[NP];simp
theorem nG:ak (n+1) F=F 0+ak n λi=>F (i+1):=by unfold ak;rw[List.range_succ_eq_map,KI,OA,LC];rfl
theorem db:ak n (λi=>F i+G i)=ak n F+ak n G:=by
 induction n with
 |zero=>rfl
 |succ n ih=>rw[rsum_succ,rsum_succ,rsum_succ,ih];lia
theorem ck{t:Int}:ak n (λi=>t*F i)=t*ak n F:=by
 induction n with
 |zero=>simp[ak]
 |succ n ih=>rw[rsum_succ,rsum_succ,ih,PZ]
theorem aO(h:∀i,i<n->F i=0):ak n F=0:=by
 induction n with
 |zero=>rfl
 |succ n ih=>rw[rsum_succ,ih λi hi=>h i ∅,h n ∅];rfl
noncomputable def eS(n m:Nat)(g:Nat->Nat->Tm):List Tm:=(q7 n).flatMap λi=>(q7 m).map (g i)
noncomputable def cH(i j:Nat):Tm:=(((i+j:Nat),(i:Int),(j:Int)),1)
noncomputable def aP(n m:Nat):List Tm:=eS n m cH
end
section
open L2.Srt
variable{T:List FD}
noncomputable def kF(s:Stmt)(ft:Nat):FD:=⟨"line_task",s,["n","m","terms"],2,
 (.cons (.asg (.name 2) (.comp [Y,Y,(Z 1)] ["i","j","m"] (.more (.rng1 (.var 0)) (.name 0) .nil (.last (.rng1 (.var 2)) (.name 1) .nil (.tup (.cons (.bin .add (.var 0) (.var 1)) (.cons (.var 0) (.cons (.var 1) (.cons (.int 1) .nil)))))))))
 (.cons (.ret (.call ft (.cons (.var 0) (.cons (.var 1) (.cons (.bin .sub (.bin .add (.var 0) (.var 1)) (.int 1)) (.cons (.var 2) .nil))))))
 .nil))⟩
theorem qP{g:Nat->Nat->Tm}:(eS n m g).length=n*m:=by
 unfold eS;rw[List.length_flatMap]
 induction n with
 |zero=>simp
 |succ n ih=>rw[NP,L3,Oj,ih,MU];simp
theorem xM{l:List Nat}{i:Nat}{G:Nat->List Tm}:(l++[i]).flatMap G=l.flatMap G++G i:=by simp
theorem Af{l:List Nat}{g:Nat->Nat->Tm}:(l.flatMap λi=>(q7 m).map (g i)).length=l.length*m:=by
 induction l with
 |nil=>simp
 |cons i l ih=>rw[MN,B0,ih,La,MU];simp;lia
theorem sZ{s':Stmt}(hf:T[f]?=Z (kF s ft))(O:T[ft]?=Z (i8 s')){k:Nat}(Fn:2<=k)(fv:n<=100)(hm:m<=100)(G:n*m<=63)(q:∀(rs:List Tm) p M',IsTask (aP n m) rs->Ge M M'->M p=Y->M' p=Z (.lst (rs.map tmD))->Q (.tup [.int n,.int m,.int (n+m-1),.ref p]) M'):phi T k f [.int n,.int m] M Q:=by
 refine ar ∅ hf rfl (ρ:=[Z _,Z _,Y]) rfl ?_
 unfold kF;nofun;refine⟨∅,∅,?_⟩
 refine av (f:=λi=>D.int (i:Nat)) (I:=λl ρ M' acc=>(∃o0 z,ρ=[o0,z,Z (.int m)])/\M'=M/\acc=(l.flatMap λi=>(q7 m).map (cH i)).map tmD) aS ⟨⟨_,_,rfl⟩,rfl,rfl⟩ (λ_ _ _ _ _=>trivial) ?_ ?_
 ·rintro l i r ρ M1 acc e ⟨⟨o0,z,rfl⟩,rfl,rfl⟩;refine⟨_,rfl,λN' U=>?_⟩;have J:=ax e;rw[Ld]at J;ac_nf;refine⟨∅,∅,?_⟩
  refine av (f:=λi=>D.int (i:Nat)) (I:=λl' ρ M' acc=>(∃z,ρ=[Z (.int i),z,Z (.int m)])/\M'=M1/\acc=((l.flatMap λi=>(q7 m).map (cH i))++l'.map (cH i)).map tmD) aS ⟨⟨_,rfl⟩,rfl,by simp⟩ (λ_ _ _ _ _=>trivial) ?_ ?_
  ·rintro l' j r' ρ M2 acc e' ⟨⟨z,rfl⟩,rfl,rfl⟩;refine⟨_,rfl,λN2 L=>?_⟩;have B:=ax e';rw[Ld]at B;have hmul:l.length*m<=100*100:=LF ∅ ∅
   ac_nf;refine⟨by rw[A0];lia,by rw[m1,B0,Af,m1,A0];lia,L _ _ _ ⟨⟨_,rfl⟩,rfl,?_⟩⟩
   simp[tmD,cH]
  ·rintro ρ M2 acc ⟨⟨z,rfl⟩,rfl,rfl⟩;refine U _ _ _ ⟨⟨_,_,rfl⟩,rfl,?_⟩;rw[xM];simp
 ·rintro ρ M1 acc ⟨_,rfl,rfl⟩ p hp;have eL:((q7 (n:Int).toNat).flatMap λi=>(q7 m).map (cH i))=aP n m:=by rw[J4];rfl
  rw[eL];have hl:(aP n m).length<=63:=by unfold aP;rw[qP];exact G
  nofun;refine CO O ∅ (ai aa) ∅ λrs p2 M2 h1 g F e2=>?_
  have g1:=Ge.new (o:=.lst ((aP n m).map tmD)) hp;refine q rs p2 M2 h1 (g1.trans g) ?_ e2
  cases hq:M1 p2 with
  |none=>rfl
  |some o=>rw[g1 _ _ hq]at F;cases F
end
section
open L2.Srt
theorem vc{g:Nat->Nat->Tm}(B:∀i j,(g i j).1.2=((i:Int),(j:Int))):((eS n m g).map (·.1)).Nodup:=by
 unfold eS;rw[V7,LQ,SV];refine⟨λi _=>?_,?_⟩
 ·rw[LC,LY];refine(LQ.mp V8).imp ?_;intro a b z e;have h:=congrArg (λk:K3=>k.2.2) e;simp only[RQ,B]at h;lia
 ·refine(LQ.mp V8).imp ?_;intro a b z x hx y F e;rw[LC]at hx F;obtain⟨u,_,rfl⟩:=D2.mp hx;obtain⟨v,_,rfl⟩:=D2.mp F;have h:=congrArg (λk:K3=>k.2.1) e;simp only[RQ,B]at h;lia
theorem Ag{g:Nat->Nat->Tm}{t:Tm}(h:t∈eS n m g):∃i j,i<n/\j<m/\t=g i j:=by obtain⟨i,hi,h⟩:=MJ.mp h;obtain⟨j,z,rfl⟩:=D2.mp h;exact⟨i,j,L9.mp hi,L9.mp z,rfl⟩
theorem IsTask.sub{ts rs:List Tm}(h:IsTask ts rs)(B:(ts.map (·.1)).Nodup){r:Tm}(j:r∈rs):r∈ts:=by obtain⟨u,z,e⟩:=D2.mp (h.mem r j);have:=h.val j;rw[<-e,qO B z]at this;have e2:u=r:=Up e this.symm;rw[<-e2];exact z
theorem kG:((aP n m).map (·.1)).Nodup:=vc λ_ _=>rfl
theorem lY{rs:List Tm}(h:IsTask (aP n m) rs)(B:1<=n):InB rs n m (n+m-1):=by
 have key:∀r∈rs,(0<=r.1.1/\r.1.1<(n+m-1:Nat))/\(0<=r.1.2.1/\r.1.2.1<n)/\(0<=r.1.2.2/\r.1.2.2<m)/\(-(2^64)<r.2/\r.2<2^64):=λr z=>by obtain⟨i,j,hi,F,rfl⟩:=Ag (h.sub kG z);unfold cH;dsimp only;exact⟨∅,∅,∅,by decide⟩
 exact⟨λr z=>(key r z).1,λr z=>(key r z).2.1,λr z=>(key r z).2.2.1,λr z=>(key r z).2.2.2⟩
end
section
open L2.Srt
variable{T:List FD}
theorem F5{a b:Nat}(j:a<n)(z:b<m):a*m+b<n*m:=by have:(a+1)*m<=n*m:=Mm m j;rw[MU]at this;lia
end
section
open L2.Srt
variable{T:List FD}
theorem dy{F:Nat->Nat->Int}:ak n (λi=>ak m λj=>F i j)=ak m λj=>ak n λi=>F i j:=by
 induction n with
 |zero=>exact(aO λ_ _=>rfl).symm
 |succ n ih=>rw[rsum_succ,ih,<-db];exact al λj _=>rsum_succ.symm
theorem eT{k:Nat}(h:k<n):ak n (λi=>if k=i then F i else 0)=F k:=by
 induction n with
 |zero=>lia
 |succ n ih=>
  rw[rsum_succ]
  by_cases e:k=n
  ·subst e;rw[if_pos rfl,aO λi hi=>if_neg ∅];lia
  ·rw[if_neg e,ih ∅];lia
theorem i9{t:Int}:ak n (λi=>F i*t)=ak n F*t:=by rw[Pu,<-ck];exact al λi _=>Pu _ _
theorem Ah{C:Nat}(h:∀i,i<n->(F i).natAbs<=C):(ak n F).natAbs<=n*C:=by
 induction n with
 |zero=>simp[ak]
 |succ n ih=>rw[rsum_succ,MU];exact LR (Int.natAbs_add_le _ _) (Nat.add_le_add (ih λi hi=>h i ∅) (h n ∅))
end
section
open L2.Srt
theorem iM{a b:Nat}(j:b<m):(a*m+b) / m=a:=by rw[OI,Nat.mul_add_div ∅,Nat.div_eq_of_lt j,Nat.add_zero]
theorem xN{α:Type}{p:Nat}{f:Nat->α}:(q7 (n*p)).map f=(q7 n).flatMap λi=>(q7 p).map λj=>f (i*p+j):=by
 induction n with
 |zero=>simp
 |succ n ih=>rw[MU,List.range_add,L3,ih,NP,NQ,LC];simp
noncomputable def vd(a:List Int)(m i:Nat):List Int:=(q7 m).map λt=>gi a ((i*m+t:Nat):Int)
theorem F6{a:List Int}{i:Nat}(h:i<a.length):a[i]?=Z (gi a (i:Nat)):=by unfold gi;rw[KH,J4,z0 h];rfl
theorem CP{a:List Int}{i:Nat}(j:a.length=n*m)(hi:i<n):ca (a.map D.int) (Z ((i*m:Nat):Int)) (Z ((i*m+m:Nat):Int))=(vd a m i).map D.int:=by
 have hle:i*m+m<=n*m:=by rw[<-MU];exact Mm m hi
 unfold ca;simp only[HT.sIx];rw[if_neg ∅,if_neg ∅,m1,J4,J4,MW ∅,MW ∅]
 unfold vd;apply MM;intro t
 by_cases h:t<m
 ·rw[Ni ∅,OO,KL,F6 ∅,KL,KL,Lh h];rfl
 ·rw[LA (by simp;lia),LA (by simp;lia)]
end
section
open L2.Srt
variable{T:List FD}
noncomputable def idx(l:List Int):List (Int×Int):=l.mapIdx λi x=>((i:Nat),x)
noncomputable def nz(l:List Int):List (Int×Int):=(idx l).filter λq=>!(q.2==0)
noncomputable def pD(q:Int×Int):D:=.tup [.int q.1,.int q.2]
theorem CQ:(idx l).length=l.length:=by simp[idx]
theorem Ai:fY (l.map .int)=(idx l).map pD:=by
 unfold fY idx;apply MM;intro j;simp only[Tb,KL]
 cases l[j]?<;>rfl
end
section
open L2.Srt
noncomputable def S1(zs:List (Int×Int))(k:Int):Int:=(zs.map λz=>if z.1=k then z.2 else 0).sum
theorem t5{z:Int×Int}{k:Int}:S1 (z::zs) k=(if z.1=k then z.2 else 0)+S1 zs k:=by simp[S1]
noncomputable def gz(l:List Int)(i:Int):Int:=if i<0 then 0 else l.getD i.toNat 0
theorem kH(h:i<0):gz l i=0:=if_pos h
theorem kI:gz [] i=0:=by unfold gz;split<;>simp
theorem cL{x:Int}:gz (x::l) i=if i=0 then x else gz l (i-1):=by
 unfold gz
 by_cases h:i<0
 ·rw[if_pos h,if_neg ∅,if_pos ∅]
 ·rw[if_neg h]
  by_cases h0:i=0
  ·subst h0;simp
  ·rw[if_neg h0,if_neg ∅]
   obtain⟨n,rfl⟩:∃n:Nat,i=((n+1:Nat):Int):=⟨(i-1).toNat,∅⟩
   rw[show(((n+1:Nat):Int)-1).toNat=n by lia,J4]
   simp
theorem ic{a b:List Int}:∀{i:Int},gz (a++b) i=if i<a.length then gz a i else gz b (i-a.length):=by
 induction a with
 |nil=>
  intro i
  by_cases h:i<0
  ·rw[if_pos (by simpa using h),QN,kH h,kH h]
  ·rw[if_neg (by simpa using h)];simp
 |cons x a ih=>
  intro i;rw[Pt,cL,cL,ih,La]
  by_cases h0:i=0
  ·subst h0;rw[if_pos rfl,if_pos rfl,if_pos ∅]
  ·rw[if_neg h0,if_neg h0]
   by_cases h:i<((a.length+1:Nat):Int)
   ·rw[if_pos ∅,if_pos h]
   ·rw[if_neg ∅,if_neg h]
    congr 1;lia
theorem qQ{x:Int}:∀{b:List Int} {i:Int},gz (b.map (x * ·)) i=x*gz b i
 |[],i=>by rw[Om,kI];simp
 |y::b,i=>by rw[KI,cL,cL,qQ];split<;>rfl
theorem eC(h:gz l i≠0):0<=i/\i<l.length:=by
 unfold gz at h
 by_cases hi:i<0
 ·rw[if_pos hi]at h;exact absurd rfl h
 ·rw[if_neg hi]at h;refine⟨∅,?_⟩
  by_cases hl:i.toNat<l.length
  ·lia
  ·rw[KH,LA ∅]at h;exact absurd rfl h
theorem xO{a b:List (Int×Int)}{k:Int}:S1 (a++b) k=S1 a k+S1 b k:=by simp[S1]
noncomputable def kr(a b:List Int):List Int:=a.flatMap λx=>b.map (x * ·)
theorem t6{x:Int}{a b:List Int}:kr (x::a) b=b.map (x * ·)++kr a b:=by simp[kr]
theorem dz{b:List Int}:∀{a:List Int},(kr a b).length=a.length*b.length
 |[]=>by simp[kr]
 |x::a=>by rw[t6,B0,dz,m1,La,MU];lia
theorem oP{b:List Int}{B:Nat}(j:b.length=B)(z:1<=B):∀{a:List Int} {i:Int},gz (kr a b) i=gz a (i / B)*gz b (i%B)
 |[],i=>by rw[show kr [] b=[]from rfl,kI,kI];simp
 |x::a,i=>by
  rw[t6,ic,qQ,oP j z,m1,j,cL]
  by_cases h:i<B
  ·rw[if_pos h]
   by_cases h0:i<0
   ·have:i / B<0:=Int.ediv_neg_of_neg_of_pos h0 ∅
    rw[kH h0,if_neg ∅,kH ∅];simp
   ·rw[SD ∅ h,if_pos rfl,UL ∅ h]
  ·rw[if_neg h];have e1:(i-B) / B=i / B-1:=by rw[Int.sub_ediv_of_dvd _ (Int.dvd_refl _),Int.ediv_self ∅]
   have e2:(i-B)%B=i%B:=by rw[Int.sub_emod,Int.emod_self];simp
   have F:i / B≠0:=by
    have:1<=i / B:=by rw[Int.le_ediv_iff_mul_le ∅];lia
    lia
   rw[e1,e2,if_neg F]
noncomputable def krP(p u:Pr):Pr:=(kr p.1 u.1,kr p.2.1 u.2.1,kr p.2.2 u.2.2)
noncomputable def aY(ps us:List Pr):List Pr:=ps.flatMap λp=>us.map (krP p)
noncomputable def Tn(ps:List Pr)(k i j:Int):Int:=(ps.map λp=>gz p.1 i*gz p.2.1 j*gz p.2.2 k).sum
theorem dA{a b:List Pr}{k:Int}:Tn (a++b) k i j=Tn a k i j+Tn b k i j:=by simp[Tn]
theorem bu{p:Pr}{a:List Pr}{k:Int}:Tn (p::a) k i j=gz p.1 i*gz p.2.1 j*gz p.2.2 k+Tn a k i j:=by simp[Tn]
theorem xP{L0 L1 L2:Nat}(h0:1<=L0)(h1:1<=L1)(h2:1<=L2){p:Pr}{k i j:Int}:∀{us:List Pr},(∀u∈us,u.1.length=L0/\u.2.1.length=L1/\u.2.2.length=L2)->
 Tn (us.map (krP p)) k i j=gz p.1 (i / L0)*gz p.2.1 (j / L1)*gz p.2.2 (k / L2)*Tn us (k%L2) (i%L0) (j%L1)
 |[],_=>by simp[Tn]
 |u::us,h=>by
  obtain⟨e0,e1,e2⟩:=h u (by simp)
  rw[KI,bu,bu,xP h0 h1 h2 λv z=>h v (by simp[z]),PZ]
  congr 1;unfold krP;dsimp only;rw[oP e0 h0,oP e1 h1,oP e2 h2];generalize gz p.1 (i / L0)=a;generalize gz p.2.1 (j / L1)=b;generalize gz p.2.2 (k / L2)=c;generalize gz u.1 (i%L0)=d;generalize gz u.2.1 (j%L1)=e;generalize gz u.2.2 (k%L2)=f;simp only[Int.mul_assoc,Pu,Int.mul_left_comm]
theorem AZ{L0 L1 L2:Nat}(h0:1<=L0)(h1:1<=L1)(h2:1<=L2){us:List Pr}(h:∀u∈us,u.1.length=L0/\u.2.1.length=L1/\u.2.2.length=L2){k i j:Int}:∀{ps:List Pr},
 Tn (aY ps us) k i j=Tn ps (k / L2) (i / L0) (j / L1)*Tn us (k%L2) (i%L0) (j%L1)
 |[]=>by simp[aY,Tn]
 |p::ps=>by rw[show aY (p::ps) us=us.map (krP p)++aY ps us by simp[aY],dA,AZ h0 h1 h2 h,xP h0 h1 h2 h,bu,Rz]
theorem qR{L0 L1 L2:Nat}{k i j:Int}:∀{us:List Pr},(∀u∈us,u.1.length=L0/\u.2.1.length=L1/\u.2.2.length=L2)->Tn us k i j≠0->(0<=k/\k<L2)/\(0<=i/\i<L0)/\(0<=j/\j<L1)
 |[],_,h=>absurd (by simp[Tn]) h
 |u::us,B,h=>by
  obtain⟨e0,e1,e2⟩:=B u (by simp)
  rw[bu]at h
  by_cases z:gz u.1 i*gz u.2.1 j*gz u.2.2 k=0
  ·rw[z,Int.zero_add]at h;exact qR (λv F=>B v (by simp[F])) h
  ·have a1:gz u.1 i≠0:=λe=>z (by rw[e];simp)
   have a2:gz u.2.1 j≠0:=λe=>z (by rw[e];simp)
   have G:gz u.2.2 k≠0:=λe=>z (by rw[e];simp)
   have:=eC a1;have:=eC a2;have:=eC G;lia
end
section
open L2.Srt
variable{T:List FD}
noncomputable def one(L:Nat)(k:Int):List Int:=(q7 L).map λh=>if((h:Nat):Int)=k then 1 else 0
theorem de{k:Int}:(one L k).length=L:=by simp[one]
theorem ie{k:Int}(h0:0<=k)(h1:k<L):gz (one L k) i=if i=k then 1 else 0:=by
 unfold gz one
 by_cases hi:i<0
 ·rw[if_pos hi,if_neg ∅]
 ·rw[if_neg hi,KH,KL]
  by_cases hl:i.toNat<L
  ·rw[Lh hl];simp only[Oh,Option.getD_some]
   by_cases e:i=k
   ·rw[if_pos ∅,if_pos e]
   ·rw[if_neg ∅,if_neg e]
  ·rw[LA (by simp;lia),if_neg ∅];rfl
end
section
open L2.Srt
noncomputable def tm(p:Pr)(k i j:Int):Int:=gz p.1 i*gz p.2.1 j*gz p.2.2 k
theorem ve{p:Pr}{a:List Pr}{k:Int}:Tn (p::a) k i j=tm p k i j+Tn a k i j:=bu
theorem F7{ps:List Pr}{p:Pr}{k:Int}:Tn (ps.take n++p::ps.drop n) k i j=Tn ps k i j+tm p k i j:=by
 have e:Tn ps k i j=Tn (ps.take n) k i j+Tn (ps.drop n) k i j:=by rw[<-dA,MP]
 rw[dA,ve,e];lia
end
section
open L2.Srt
variable{T:List FD}
def Within(B:Int)(l:List Int):Prop:=∀x∈l,-B<=x/\x<=B
structure Dr(B:Int)(L0 L1 L2:Nat)(p:Pr):Prop where
 l0:p.1.length=L0
 l1:p.2.1.length=L1
 l2:p.2.2.length=L2
 e0:Within B p.1
 e1:Within B p.2.1
 e2:Within B p.2.2
end
section
open L2.Srt
variable{T:List FD}
theorem qS{k:Int}:Within 1 (one L k):=λx hx=>by
 unfold one at hx;obtain⟨h,_,rfl⟩:=D2.mp hx
 split<;>lia
end
section
open L2.Srt
theorem iN{a b:Nat}(j:b<m):(a*m+b)%m=b:=by rw[Ur,Nat.add_mul_mod_self_right,Nat.mod_eq_of_lt j]
theorem cm{i:Nat}(h:i<n):gz ((q7 n).map F) (i:Nat)=F i:=by unfold gz;rw[if_neg ∅,J4,KH,KL,Lh h];rfl
theorem F8{a b:List Int}(j:a.length=b.length)(h:∀i:Nat,i<a.length->gz a (i:Nat)=gz b (i:Nat)):a=b:=by
 refine List.ext_getElem j λi h1 h2=>?_;have:=h i h1;unfold gz at this;rw[if_neg ∅,if_neg ∅,J4,KH,KH,z0 h1,z0 h2]at this
 exact this
theorem B3{i:Nat}(h:i<n*m):∃a b,a<n/\b<m/\i=a*m+b:=by
 have hm:0<m:=by
  rcases Nat.eq_zero_or_pos m with z|z
  ·rw[z]at h;simp at h
  ·exact z
 exact⟨i / m,i%m,Pj (by rw[OI];exact h),VQ _ hm,by rw[OI];exact(SN i m).symm⟩
end
section
open L2.Srt
variable{T:List FD}
noncomputable def lZ(n i:Nat):List Int:=(q7 (2*n-1)).map λk=>if k=2*i then 1 else if i<=k/\k<i+n then -1 else 0
noncomputable def bZ(n i j:Nat):List Int:=(q7 n).map λh=>if h=i∨h=j then 1 else 0
noncomputable def ppI(n i:Nat):List Pr:=(one n (i:Nat),one n (i:Nat),lZ n i)::(q7 i).map λj=>(bZ n i j,bZ n i j,one (2*n-1) ((i+j:Nat):Int))
noncomputable def pp(n:Nat):List Pr:=(q7 n).flatMap (ppI n)
theorem t7{G:Nat->List Pr}{k i j:Int}:∀l:List Nat,Tn (l.flatMap G) k i j=(l.map λx=>Tn (G x) k i j).sum
 |[]=>rfl
 |x::l=>by rw[MN,dA,t7 l];simp
theorem CS{G:Nat->Pr}{k:Int}:Tn ((q7 n).map G) k i j=ak n λx=>tm (G x) k i j:=by unfold Tn ak;rw[LC];rfl
theorem dY{k:Nat}:ak n (λi=>if k=i then v else 0)=if k<n then v else 0:=by
 by_cases h:k<n
 ·rw[if_pos h,eT (F:=λ_=>v) h]
 ·rw[if_neg h];exact aO λi hi=>if_neg ∅
theorem F9{i a b:Nat}{o:List Int}{k:Int}(hi:i<n):tm (one n (i:Nat),one n (i:Nat),o) k (a:Nat) (b:Nat)=if a=i/\b=i then gz o k else 0:=by
 unfold tm;dsimp only;rw[ie ∅ ∅,ie ∅ ∅]
 by_cases h1:a=i
 ·by_cases h2:b=i
  ·rw[if_pos ∅,if_pos ∅,if_pos ⟨h1,h2⟩];lia
  ·rw[if_pos (show(a:Int)=(i:Int) by lia),if_neg (show ¬(b:Int)=(i:Int) by lia),if_neg (show ¬(a=i/\b=i) by lia)];lia
 ·rw[if_neg (show ¬(a:Int)=(i:Int) by lia),if_neg (show ¬(a=i/\b=i) by lia)];simp
theorem CT{i j a b k:Nat}(hi:i<n)(J:j<i)(F:a<n)(G:b<n):tm (bZ n i j,bZ n i j,one (2*n-1) ((i+j:Nat):Int)) (k:Nat) (a:Nat) (b:Nat)=if((a=i∨a=j)/\(b=i∨b=j))/\k=i+j then 1 else 0:=by
 unfold tm bZ;dsimp only;rw[cm F,cm G,ie ∅ ∅]
 by_cases h1:a=i∨a=j
 ·by_cases h2:b=i∨b=j
  ·by_cases B:k=i+j
   ·rw[if_pos h1,if_pos h2,if_pos ∅,if_pos ⟨⟨h1,h2⟩,B⟩];rfl
   ·rw[if_pos h1,if_pos h2,if_neg ∅,if_neg (λz=>B z.2)];rfl
  ·rw[if_neg h2,if_neg (show ¬(((a=i∨a=j)/\(b=i∨b=j))/\k=i+j) fromλz=>h2 z.1.2)];simp
 ·rw[if_neg h1,if_neg (show ¬(((a=i∨a=j)/\(b=i∨b=j))/\k=i+j) fromλz=>h1 z.1.1)];simp
theorem Gz{a b k:Nat}(L:a<n)(O:b<n)(U:k<2*n-1):Tn (pp n) (k:Nat) (a:Nat) (b:Nat)=if k=a+b then 1 else 0:=by
 unfold pp;rw[t7];show ak n (λi=>Tn (ppI n i) _ _ _)=_;have Fn:∀i,i<n->Tn (ppI n i) (k:Nat) (a:Nat) (b:Nat)=(if a=i/\b=i then(if k=2*i then 1 else if i<=k/\k<i+n then -1 else 0)else 0)+ak i λj=>if((a=i∨a=j)/\(b=i∨b=j))/\k=i+j then 1 else 0:=λi hi=>by unfold ppI;rw[ve,F9 hi,CS];unfold lZ;rw[cm U];congr 1;exact al λj F=>CT hi F L O
 rw[al Fn]
 by_cases hab:a=b
 ·subst hab;have h1:∀i,i<n->((if a=i/\a=i then(if k=2*i then 1 else if i<=k/\k<i+n then -1 else 0)else 0)+ak i fun j=>if((a=i∨a=j)/\(a=i∨a=j))/\k=i+j then(1:Int)else 0)=(if a=i then((if k=2*a then 1 else if a<=k/\k<a+n then -1 else 0)+if a<=k/\k<2*a then 1 else 0)else 0)+if k-a=i then(if a<k-a/\a<=k then 1 else 0)else 0:=fun i hi=>by
   by_cases e:a=i
   ·subst e;rw[if_pos ⟨rfl,rfl⟩,if_pos rfl];have e1:(ak a fun j=>if((a=a∨a=j)/\(a=a∨a=j))/\k=a+j then(1:Int)else 0)=if a<=k/\k<2*a then 1 else 0:=by
     by_cases h:a<=k
     ·have:∀j,j<a->(if((a=a∨a=j)/\(a=a∨a=j))/\k=a+j then(1:Int)else 0)=if k-a=j then 1 else 0:=fun j F=>by
       by_cases z:k=a+j
       ·rw[if_pos ⟨⟨.inl rfl,.inl rfl⟩,z⟩,if_pos ∅]
       ·rw[if_neg (λw=>z w.2),if_neg ∅]
      rw[al this,dY]
      by_cases h2:k<2*a
      ·rw[if_pos ∅,if_pos ⟨h,h2⟩]
      ·rw[if_neg ∅,if_neg (λw=>h2 w.2)]
     ·rw[if_neg (λw=>h w.1)];exact aO λj F=>if_neg (λw=>h ∅)
    rw[e1];have e2:(if k-a=a then(if a<k-a/\a<=k then(1:Int)else 0)else 0)=0:=by
     by_cases h:k-a=a
     ·rw[if_pos h,if_neg ∅]
     ·rw[if_neg h]
    rw[e2];lia
   ·rw[if_neg (fun w=>e w.1),if_neg e];have e1:∀j,j<i->(if((a=i∨a=j)/\(a=i∨a=j))/\k=i+j then(1:Int)else 0)=if a=j then(if k=i+a then 1 else 0)else 0:=fun j F=>by
     by_cases z:a=j
     ·subst z;rw[if_pos rfl]
      by_cases B:k=i+a
      ·rw[if_pos ⟨⟨.inr rfl,.inr rfl⟩,B⟩,if_pos B]
      ·rw[if_neg (λw=>B w.2),if_neg B]
     ·rw[if_neg z,if_neg (λw=>∅)]
    rw[al e1,dY]
    by_cases h:a<i
    ·rw[if_pos h]
     by_cases z:k=i+a
     ·rw[if_pos z,if_pos ∅,if_pos ∅]
     ·rw[if_neg z]
      by_cases B:k-a=i
      ·rw[if_pos B,if_neg ∅]
      ·rw[if_neg B]
    ·rw[if_neg h]
     by_cases B:k-a=i
     ·rw[if_pos B,if_neg ∅]
     ·rw[if_neg B]
  rw[al h1,db,dY,dY,if_pos L]
  by_cases c1:k=2*a
  ·rw[if_pos c1,if_neg (show ¬(a<=k/\k<2*a) by lia),if_neg (show ¬(a<k-a/\a<=k) by lia),if_pos (show k=a+a by lia)]
   split<;>rfl
  ·rw[if_neg c1,if_neg (show ¬k=a+a by lia)]
   by_cases J:a<=k/\k<a+n
   ·rw[if_pos J,if_pos (show k-a<n by lia)]
    by_cases G:k<2*a
    ·rw[if_pos ⟨J.1,G⟩,if_neg (show ¬(a<k-a/\a<=k) by lia)];rfl
    ·rw[if_neg (show ¬(a<=k/\k<2*a) fromλw=>G w.2),if_pos (show a<k-a/\a<=k by lia)];rfl
   ·rw[if_neg J,if_neg (show ¬(a<=k/\k<2*a) by lia)]
    by_cases G:k-a<n
    ·rw[if_pos G,if_neg (show ¬(a<k-a/\a<=k) by lia)];rfl
    ·rw[if_neg G];rfl
 ·have h1:∀i,i<n->((if a=i/\b=i then(if k=2*i then 1 else if i<=k/\k<i+n then -1 else 0)else 0)+ak i fun j=>if((a=i∨a=j)/\(b=i∨b=j))/\k=i+j then(1:Int)else 0)=if max a b=i then(if k=a+b then 1 else 0)else 0:=fun i hi=>by
   rw[if_neg ∅]
   have e1:∀j,j<i->(if((a=i∨a=j)/\(b=i∨b=j))/\k=i+j then(1:Int)else 0)=if min a b=j then(if max a b=i/\k=a+b then 1 else 0)else 0:=λj F=>by
    by_cases z:min a b=j
    ·rw[if_pos z]
     by_cases B:max a b=i/\k=a+b
     ·rw[if_pos B,if_pos ∅]
     ·rw[if_neg B,if_neg ∅]
    ·rw[if_neg z,if_neg ∅]
   rw[al e1,dY]
   by_cases z:max a b=i
   ·rw[if_pos z,if_pos ∅]
    by_cases B:k=a+b
    ·rw[if_pos B,if_pos ⟨z,B⟩];rfl
    ·rw[if_neg B,if_neg (λw=>B w.2)];rfl
   ·rw[if_neg z,if_neg (show ¬(max a b=i/\k=a+b) fromλw=>z w.1)]
    split<;>rfl
  rw[al h1,dY,if_pos ∅]
theorem bN{k:Int}:cf (aP n m) (k,i,j)=if(0<=i/\i<n)/\(0<=j/\j<m)/\k=i+j then 1 else 0:=by
 by_cases h:(0<=i/\i<n)/\(0<=j/\j<m)/\k=i+j
 ·rw[if_pos h];have hm:cH i.toNat j.toNat∈aP n m:=MJ.mpr ⟨i.toNat,L9.mpr ∅,L5 (L9.mpr ∅)⟩
  have e:(k,i,j)=(cH i.toNat j.toNat).1:=by unfold cH;rw[QC,QC];exact⟨∅,∅,∅⟩
  rw[e];exact qO kG hm
 ·rw[if_neg h];refine iL λt z e=>h ?_;unfold aP eS at z;obtain⟨a,B,z⟩:=MJ.mp z;obtain⟨b,F,rfl⟩:=D2.mp z;have B:=L9.mp B;have F:=L9.mp F;unfold cH at e;rw[QC,QC]at e;lia
theorem fE:∀p∈pp n,Dr 1 n n (2*n-1) p:=by
 intro p z;unfold pp at z;obtain⟨i,hi,z⟩:=MJ.mp z;unfold ppI at z
 rcases D1.mp z with rfl|z
 ·refine⟨de,de,by simp[lZ],qS,qS,λx hx=>?_⟩
  unfold lZ at hx;obtain⟨k,_,rfl⟩:=D2.mp hx
  split
  ·lia
  ·split<;>lia
 ·obtain⟨j,_,rfl⟩:=D2.mp z;have B:Within 1 (bZ n i j):=fun x hx=>by
   unfold bZ at hx;obtain⟨k,_,rfl⟩:=D2.mp hx
   split<;>lia
  exact⟨by simp[bZ],by simp[bZ],de,B,B,qS⟩
theorem GA{k:Int}:Tn (pp n) k i j=cf (aP n n) (k,i,j):=by
 rw[bN]
 by_cases h:(0<=k/\k<((2*n-1:Nat):Int))/\(0<=i/\i<(n:Int))/\(0<=j/\j<(n:Int))
 ·obtain⟨K,rfl⟩:∃K:Nat,k=K:=⟨k.toNat,∅⟩
  obtain⟨I,rfl⟩:∃K:Nat,i=K:=⟨i.toNat,∅⟩
  obtain⟨J,rfl⟩:∃K:Nat,j=K:=⟨j.toNat,∅⟩
  rw[Gz ∅ ∅ ∅]
  by_cases z:K=I+J
  ·rw[if_pos z,if_pos ∅]
  ·rw[if_neg z,if_neg ∅]
 ·rw[if_neg ∅]
  cases Decidable.em (Tn (pp n) k i j=0)with
  |inl e=>exact e
  |inr e=>exact absurd (qR (L0:=n) (L1:=n) (L2:=2*n-1) (us:=pp n) (λu B=>⟨(fE u B).l0,(fE u B).l1,(fE u B).l2⟩) e) h
end
section
open L2.Srt
variable{T:List FD}
theorem qT{i:Nat}:((q7 L).map F).set i v=(q7 L).map λk=>if k=i then v else F k:=by
 apply MM;intro k;rw[UM]
 by_cases h:i=k
 ·subst h;rw[if_pos rfl]
  by_cases j:i<L
  ·rw[if_pos (by simpa using j),KL,Lh j];simp
  ·rw[if_neg (by simpa using j),LA (by simp;lia)]
 ·rw[if_neg h,KL,KL]
  by_cases j:k<L
  ·rw[Lh j];simp[Ne.symm h]
  ·rw[LA (by simp;lia)];rfl
theorem B4:(z4 L [D.int 0]).flatten=((q7 L).map λ_=>(0:Int)).map D.int:=by
 rw[LC];have:(q7 L).map (D.int∘λ_=>(0:Int))=z4 L (D.int 0):=by rw[show(D.int∘λ_:Nat=>(0:Int))=λ_=>D.int 0 from rfl,List.map_const',Ld]
 rw[this,List.flatten_replicate_singleton]
theorem vf{i:Nat}(h:i<L):ixN L (i:Nat)=Z i:=by unfold ixN;rw[if_pos ∅,if_pos ∅,J4]
theorem Aj{t:Tm}(h:t∈aP n m):((0<=t.1.1/\t.1.1<(n+m-1:Nat))/\(0<=t.1.2.1/\t.1.2.1<(n:Nat))/\(0<=t.1.2.2/\t.1.2.2<(m:Nat)))/\t.2=1:=by unfold aP eS at h;obtain⟨a,j,h⟩:=MJ.mp h;obtain⟨b,z,rfl⟩:=D2.mp h;have j:=L9.mp j;have z:=L9.mp z;unfold cH;dsimp only;lia
theorem gD:(aP n m).length=n*m:=qP
end
section
noncomputable abbrev K2:=Int×Int
noncomputable def k2D(k:K2):D:=.tup [.int k.1,.int k.2]
noncomputable def raD(r:K2×Wk):D×D:=(k2D r.1,.ref r.2)
theorem t8{a b:K2}(h:k2D a=k2D b):a=b:=by obtain⟨a1,a2⟩:=a;obtain⟨j,z⟩:=b;simp only[k2D,D.tup.injEq,OU,D.int.injEq,and_true]at h;rw[h.1,h.2]
theorem eD{α β:Type}{f:α->β}:∀{l:List α},(l.map f).Nodup->∀{x y:α},x∈l->y∈l->f x=f y->x=y
 |[],_,x,_,hx,_,_=>by cases hx
 |z::l,h,x,y,hx,F,e=>by
  rw[KI,Mo]at h
  rcases D1.mp hx with rfl|j<;>rcases D1.mp F with rfl|B
  ·rfl
  ·exact absurd (D2.mpr ⟨y,B,e.symm⟩) h.1
  ·exact absurd (D2.mpr ⟨x,j,e⟩) h.1
  ·exact eD h.2 j B e
structure RI(d:Wk)(N:Nat)(M:Mem)(R:List (K2×Wk))(g:K2->List Int):Prop where
 dct:M d=Z (.dct F2 (R.map raD))
 keys:(R.map (·.1)).Nodup
 ads:(R.map (·.2)).Nodup
 nd:∀r∈R,r.2≠d
 row:∀r∈R,M r.2=Z (.lst ((g r.1).map .int))
 ln:∀k,(g k).length=N
 out:∀k,k∉R.map (·.1)->g k=z4 N 0
structure Run(d:Wk)(R:List (K2×Wk))(M:Mem)(R':List (K2×Wk))(M':Mem):Prop where
 ex:∀r∈R',r∈R∨M r.2=Y
 kp:∀b o,b≠d->b∉R.map (·.2)->M b=Z o->M' b=Z o
theorem Run.refl{d:Wk}{R:List (K2×Wk)}:Run d R M R M:=⟨λr h=>.inl h,λ_ _ _ _ e=>e⟩
theorem m3{k:K2}:∀R:List (K2×Wk),dget (R.map raD) (k2D k)=(R.find? λr=>decide (r.1=k)).map λr=>.ref r.2
 |[]=>rfl
 |r::R=>by
  have ih:=m3 (k:=k) R;unfold dget at ih⊢;rw[KI,MA,MA]
  by_cases h:r.1=k
  ·have e:decide ((raD r).1=k2D k)=F2:=decide_eq_true (by rw[<-h];rfl)
   rw[e,decide_eq_true h];rfl
  ·have e:decide ((raD r).1=k2D k)=Wj:=decide_eq_false (λz=>h (t8 z));rw[e,decide_eq_false h];exact ih
theorem CU{k:K2}{R:List (K2×Wk)}(h:k∉R.map (·.1)):dget (R.map raD) (k2D k)=Y:=by
 rw[m3,Rj.mpr λr j=>by intro z;exact h (D2.mpr ⟨r,j,of_decide_eq_true z⟩)]
 rfl
theorem m4{k:K2}{R:List (K2×Wk)}(h:k∈R.map (·.1)):∃a,(k,a)∈R/\dget (R.map raD) (k2D k)=Z (.ref a):=by
 cases e:R.find? λr=>decide (r.1=k)with
 |none=>obtain⟨r,j,z⟩:=D2.mp h;exact absurd (decide_eq_true z) (Rj.mp e r j)
 |some r=>
  have h1:=Vs e;have h2:=Ro e;have B:r.1=k:=of_decide_eq_true h1;obtain⟨rk,ra⟩:=r
  cases B
  exact⟨ra,h2,by rw[m3,e];rfl⟩
theorem CV{k:K2}{R:List (K2×Wk)}(h:k∉R.map (·.1)):eY (R.map raD) (k2D k) (.ref a)=(R++[(k,a)]).map raD:=by
 unfold eY;rw[if_neg,L3]
 ·rfl
 ·intro z;obtain⟨x,hx,j⟩:=Mk.mp z;obtain⟨r,B,rfl⟩:=D2.mp hx;exact h (D2.mpr ⟨r,B,t8 (of_decide_eq_true j)⟩)
theorem RI.ge{d:Wk}{R:List (K2×Wk)}{g:K2->List Int}(h:RI d N M R g)(x:Ge M M'):RI d N M' R g:=⟨x _ _ h.dct,h.keys,h.ads,h.nd,λr j=>x _ _ (h.row r j),h.ln,h.out⟩
theorem Run.trans{d:Wk}{R R' R'':List (K2×Wk)}{g g':K2->List Int}(h:Run d R M R' M')(h2:Run d R' M' R'' M'')(i:RI d N M' R' g')(sub:∀r∈R,r∈R'):Run d R M R'' M'':=by
 refine⟨λr F=>?_,λb o n m e=>?_⟩
 ·rcases h2.ex r F with j|j
  ·exact h.ex r j
  ·by_cases z:r.2∈R.map (·.2)
   ·obtain⟨r',B,e⟩:=D2.mp z;rw[<-e,i.row r' (sub r' B)]at j;cases j
   ·refine .inr ?_
    cases e:M r.2 with
    |none=>rfl
    |some o=>
     by_cases zd:r.2=d
     ·rw[zd,i.dct]at j;cases j
     ·rw[h.kp _ _ zd z e]at j;cases j
 ·refine h2.kp b o n (λz=>?_) (h.kp b o n m e);obtain⟨r',B,e'⟩:=D2.mp z
  rcases h.ex r' B with j|j
  ·exact m (D2.mpr ⟨r',j,e'⟩)
  ·rw[e',e]at j;cases j
theorem RI.new{d:Wk}{R:List (K2×Wk)}{g:K2->List Int}(h:RI d N M R g){k:K2}(O:k∉R.map (·.1)){J:Mem}(ga:Ge M J)(B:M a=Y)(h1:J a=Z (.lst ((z4 N (0:Int)).map .int))):
 RI d N (ag J d (.dct F2 ((R++[(k,a)]).map raD))) (R++[(k,a)]) g/\Run d R M (R++[(k,a)]) (ag J d (.dct F2 ((R++[(k,a)]).map raD))):=by
 have F:a≠d:=λz=>by rw[z,h.dct]at B;cases B
 refine⟨⟨aa,?_,?_,?_,?_,h.ln,?_⟩,⟨?_,?_⟩⟩
 ·rw[L3,P6];exact⟨h.keys,by simp,λx hx y G=>by simp at G;subst G;exactλz=>O (z▸hx)⟩
 ·rw[L3,P6];refine⟨h.ads,by simp,λx hx y G=>?_⟩
  simp at G;subst G;intro z;obtain⟨r,j,rfl⟩:=D2.mp hx;rw[<-z,h.row r j]at B;cases B
 ·intro r j
  rcases Lo.mp j with j|j
  ·exact h.nd r j
  ·simp at j;subst j;exact F
 ·intro r j
  rcases Lo.mp j with j|j
  ·rw[aE (h.nd r j)];exact ga _ _ (h.row r j)
  ·simp at j;subst j;rw[aE F,h1,h.out k O]
 ·intro k' L;exact h.out k' λz=>L (by rw[L3];exact LD _ z)
 ·intro r j
  rcases Lo.mp j with j|j
  ·exact .inl j
  ·simp at j;subst j;exact .inr B
 ·intro b o n m e;rw[aE n];exact ga _ _ e
theorem RI.put{d:Wk}{R:List (K2×Wk)}{g:K2->List Int}(h:RI d N M R g){k:K2}(B:(k,a)∈R){row:List Int}(G:row.length=N):
 RI d N (ag M a (.lst (row.map .int))) R (λk'=>if k'=k then row else g k')/\Run d R M R (ag M a (.lst (row.map .int))):=by
 refine⟨⟨?_,h.keys,h.ads,h.nd,?_,?_,?_⟩,⟨λr h=>.inl h,?_⟩⟩
 ·rw[aE (λz=>h.nd _ B z.symm)];exact h.dct
 ·intro r j
  by_cases e:r=(k,a)
  ·subst e;rw[aa,if_pos rfl]
  ·have na:r.2≠a:=λz=>e (eD h.ads j B z);have nk:r.1≠k:=λz=>e (eD h.keys j B z);rw[aE na,if_neg nk];exact h.row r j
 ·intro k'
  split
  ·exact G
  ·exact h.ln k'
 ·intro k' F;rw[if_neg (λz=>F (D2.mpr ⟨_,B,z.symm⟩))];exact h.out k' F
 ·intro b o n m e;rw[aE (λz=>m (D2.mpr ⟨_,B,z.symm⟩))];exact e
end
section
open L2.Srt
variable{T:List FD}
noncomputable def df(s:Stmt):FD:=⟨"filled",s,["part"],1,
 (.cons (.ret (.comp [Y,Y] ["at","x"] (.last (.enum (.var 0)) (.tup (.cons (.name 0) (.cons (.name 1) .nil))) (.cons (.cmp .ne (.var 1) (.int 0)) .nil) (.tup (.cons (.var 0) (.cons (.var 1) .nil))))))
 .nil)⟩
theorem nH(hf:T[f]?=Z (df s))(G:1<=n){x:D}(J:l.length<=1000000)(hx:aF M x=Z (l.map .int))(q:∀p,M p=Y->Q (.ref p) (ag M p (.lst ((nz l).map pD)))):phi T n f [x] M Q:=by
 refine ar ∅ hf rfl (ρ:=[Z _]) rfl ?_
 unfold df;nofun;refine⟨_,hx,?_⟩;rw[Ai];refine av (f:=pD) (ys:=idx l) (I:=λr ρ M' acc=>(∃o0 z,ρ=[o0,z])/\M'=M/\acc=(r.filter λq=>!(q.2==0)).map pD) rfl ⟨⟨_,_,rfl⟩,rfl,rfl⟩ (λ_ _ _ _ h=>by rw[h.2.1];exact hx) ?_ ?_
 ·rintro l' y r ρ M1 acc e ⟨⟨o0,z,rfl⟩,rfl,rfl⟩;refine⟨_,rfl,λN' j=>?_⟩;have B:=ax e;rw[CQ]at B;have F:(l'.filter λq=>!(q.2==0)).length<=l'.length:=OZ _ _;ac_nf
  by_cases hz:y.2=0
  ·rw[if_neg (by simp[hz])]
   refine j _ _ _ ⟨⟨_,_,rfl⟩,rfl,?_⟩;rw[OQ,ND (by simp[hz])];simp
  ·rw[if_pos (by simp[hz])]
   refine⟨by rw[A0];lia,by rw[m1,A0];lia,j _ _ _ ⟨⟨_,_,rfl⟩,rfl,?_⟩⟩
   rw[OQ,NF (by simp[hz])];simp[pD]
 ·rintro ρ M1 acc ⟨⟨o0,z,rfl⟩,rfl,rfl⟩ p hp;exact q p hp
theorem xQ{k:Nat}(j:k<l.length):gz (l.set k v) i=if i=k then v else gz l i:=by
 unfold gz
 by_cases h:i<0
 ·rw[if_pos h,if_pos h,if_neg ∅]
 ·rw[if_neg h,if_neg h,KH,KH]
  by_cases e:i=k
  ·subst e;rw[J4,NR j,if_pos rfl];rfl
  ·rw[P7 ∅,if_neg e]
theorem fF{k:Nat}(j:k<l.length):l[k]?=Z (gz l k):=by unfold gz;rw[if_neg ∅,J4,KH,z0 j];rfl
theorem kJ:gz (z4 n 0) i=0:=by
 unfold gz
 split
 ·rfl
 ·rw[KH]
  cases e:(z4 n (0:Int))[i.toNat]? with
  |none=>rfl
  |some x=>exact RT (KZ e)
end
section
open L2.Srt
variable{T:List FD}
noncomputable def ow(n i:Nat):Pr:=(one n (i:Nat),one n (i:Nat),lZ n i)
noncomputable def pa(n i j:Nat):Pr:=(bZ n i j,bZ n i j,one (2*n-1) ((i+j:Nat):Int))
noncomputable def ows(n:Nat):List Pr:=(q7 n).map (ow n)
noncomputable def tri{α:Type}(F:Nat->Nat->α)(n:Nat):List α:=(q7 n).flatMap λi=>(q7 i).map (F i)
noncomputable def trj{α:Type}(F:Nat->Nat->α)(n:Nat):List α:=(q7 n).flatMap λj=>(q7 (n-(j+1))).map λt=>F j (j+1+t)
noncomputable def bp(n:Nat):List Pr:=ows n++trj (pa n) n
theorem xR{i j:Nat}:bZ n i j=bZ n j i:=by unfold bZ;exact L8 λh _=>by simp only[or_comm]
theorem CW{i j:Nat}:pa n i j=pa n j i:=by unfold pa;rw[xR,Ur]
theorem nI{α:Type}{f:Nat->α}{g:Nat->List α}:∀l:List Nat,(l.flatMap λi=>f i::g i).Perm (l.map f++l.flatMap g)
 |[]=>by simp
 |i::l=>by rw[MN,KI,MN,Pt,Pt];refine List.Perm.cons _ ?_;refine((nI l).append_left _).trans ?_;rw[<-Lx,<-Lx];exact List.perm_append_comm.append_right _
theorem kK{α:Type}{f:Nat->α}{g:Nat->List α}:∀l:List Nat,(l.flatMap λi=>g i++[f i]).Perm (l.flatMap g++l.map f)
 |[]=>by simp
 |i::l=>by rw[MN,KI,MN,Lx,Lx];refine Od _ ?_;rw[List.singleton_append];exact((kK l).cons _).trans UY.symm
theorem m5{α:Type}{F:Nat->Nat->α}:∀n,(trj F n).Perm (tri (λi j=>F j i) n)
 |0=>by simp[tri,trj]
 |n+1=>by
  have e1:tri (λi j=>F j i) (n+1)=tri (λi j=>F j i) n++(q7 n).map λj=>F j n:=by unfold tri;rw[NP,NQ];simp
  have e2:trj F (n+1)=(q7 n).flatMap λj=>((q7 (n-(j+1))).map λt=>F j (j+1+t))++[F j n]:=by
   unfold trj;rw[NP,NQ];have:(List.flatMap (λj=>(q7 (n+1-(j+1))).map λt=>F j (j+1+t)) [n])=[]:=by simp
   rw[this,Mz];unfold List.flatMap;congr 1;refine L8 λj z=>?_;have z:=L9.mp z;rw[show n+1-(j+1)=(n-(j+1))+1 by lia,NP,L3]
   simp only[KI,Om];rw[show j+1+(n-(j+1))=n by lia]
  rw[e1,e2];exact(kK _).trans ((m5 n).append_right _)
theorem pp_perm:(pp n).Perm (ows n++tri (pa n) n):=by unfold pp ppI;exact nI _
theorem Ak:tri (λi j=>pa n j i) n=tri (pa n) n:=by unfold tri;simp only[CW]
theorem bp_perm:(bp n).Perm (ows n++tri (pa n) n):=by unfold bp;refine Od _ ?_;have:=m5 (F:=pa n) n;rw[Ak (n:=n)]at this;exact this
theorem bp_pp:(bp n).Perm (pp n):=bp_perm.trans pp_perm.symm
theorem t9{α:Type}{F:Nat->Nat->α}:∀n,2*(tri F n).length+n=n*n
 |0=>by simp[tri]
 |n+1=>by
  have e1:tri F (n+1)=tri F n++(q7 n).map (F n):=by unfold tri;rw[NP,NQ];simp
  have:=t9 (F:=F) n;rw[e1,B0,m1,Ld,NV,Tg];lia
theorem CY{α:Type}{F:Nat->Nat->α}(n:Nat):2*(trj F n).length+n=n*n:=by rw[(m5 n).length_eq];exact t9 n
theorem qU:2*(bp n).length=n*(n+1):=by have:=CY (F:=pa n) n;unfold bp ows;rw[B0,m1,Ld,Tg];lia
theorem GB(h:n<=50):(bp n).length<=2000:=by
 have:=qU (n:=n);have:n*(n+1)<=50*51:=LF h ∅
 lia
noncomputable def dR(s:Stmt):FD:=⟨"single_one",s,["length","at","row"],2,
 (.cons (.asg (.name 2) (.bin .mul (.lst (.cons (.int 0) .nil)) (.var 0)))
 (.cons (.put (.var 2) (.var 1) (.int 1))
 (.cons (.ret (.var 2))
 .nil)))⟩
theorem m6(hf:T[f]?=Z (dR s))(U:1<=n){i:Nat}(Fn:L<=1000)(hi:i<L)(q:∀p M',Ge M M'->M p=Y->M' p=Z (.lst ((one L (i:Nat)).map .int))->Q (.ref p) M'):phi T n f [.int L,.int i] M Q:=by
 refine ar ∅ hf rfl (ρ:=[Z _,Z _,Y]) rfl ?_
 unfold dR;nofun;refine⟨by rw[A0];lia,λG F=>?_⟩
 refine⟨_,aa,∅,∅,by rw[A0];simp;lia,λB z=>?_⟩
 rw[J4,B4];have J:=Ge.new (o:=.lst [.int 0]) F;have g1:=J.trans (Ge.new (o:=.lst (((q7 L).map λ_=>(0:Int)).map D.int)) z);have e1:=aa (M:=ag M G (.lst [.int 0])) (a:=B) (o:=.lst (((q7 L).map λ_=>(0:Int)).map D.int));have O:M B=Y:=by
  cases hz:M B with
  |none=>rfl
  |some o=>rw[J _ _ hz]at z;cases z
 generalize ag (ag M G (.lst [.int 0])) B _=M1 at g1 e1⊢;nofun;refine cj e1 (j:=i) (by rw[m1,m1,Ld];exact vf hi) ?_
 nofun;refine q B _ (g1.upd O) O ?_;rw[aa,<-R5 (f:=D.int),qT];unfold one;congr 3;exact L8 λh _=>by simp only[Int.natCast_inj]
noncomputable def kL(s:Stmt)(fo:Nat):FD:=⟨"own_product",s,["n","i","o","j","part"],2,
 (.cons (.asg (.name 2) (.bin .mul (.lst (.cons (.int 0) .nil)) (.bin .sub (.bin .mul (.int 2) (.var 0)) (.int 1))))
 (.cons (.for (.name 3) (.rng1 (.var 0)) (.cons (.put (.var 2) (.bin .add (.var 1) (.var 3)) (.ite (.cmp .eq (.var 3) (.var 1)) (.int 1) (.neg (.int 1))))
 .nil))
 (.cons (.asg (.name 4) (.blt .tuple (.cons (.call fo (.cons (.var 0) (.cons (.var 1) .nil))) .nil)))
 (.cons (.ret (.tup (.cons (.var 4) (.cons (.var 4) (.cons (.blt .tuple (.cons (.var 2) .nil)) .nil)))))
 .nil))))⟩
theorem Fa(hf:T[f]?=Z (kL s fo))(L:T[fo]?=Z (dR so)){k:Nat}(hk:2<=k){i:Nat}(hn:n<=50)(hi:i<n)(q:∀M',Ge M M'->Q (prD (ow n i)) M'):phi T k f [.int n,.int i] M Q:=by
 refine ar ∅ hf rfl (ρ:=[Z _,Z _,Y,Y,Y]) rfl ?_
 unfold kL;nofun;refine⟨by rw[A0];lia,λfv O=>⟨aZ ∅,?_⟩⟩
 refine⟨_,aa,∅,∅,by rw[A0];simp;lia,λpo B=>?_⟩
 rw[show(2*(n:Int)-1).toNat=2*n-1 by lia,B4]
 have F:=Ge.new (o:=.lst [.int 0]) O;have G:M po=Y:=by
  cases hz:M po with
  |none=>rfl
  |some o=>rw[F _ _ hz]at B;cases B
 have g2:=F.trans (Ge.new (o:=.lst (((q7 (2*n-1)).map λ_=>(0:Int)).map D.int)) B);have e2:=aa (M:=ag M fv (.lst [.int 0])) (a:=po) (o:=.lst (((q7 (2*n-1)).map λ_=>(0:Int)).map D.int));generalize ag (ag M fv (.lst [.int 0])) po (.lst (((q7 (2*n-1)).map λ_=>(0:Int)).map D.int))=M2 at g2 e2⊢;nofun;refine⟨∅,∅,?_⟩
 rw[J4];refine bn (f:=λi=>D.int (i:Nat)) (ys:=q7 n) (I:=λl' ρ M'=>∃U,ρ=[Z (.int n),Z (.int (i:Nat)),Z (.ref po),U,Y]/\Ge M M'/\M' po=Z (.lst (((q7 (2*n-1)).map λk=>if i<=k/\k<i+l'.length then(if k=2*i then(1:Int)else -1)else 0).map D.int))) aS ⟨_,rfl,g2,by rw[e2];congr 3;exact L8 λk _=>by rw[if_neg (by simp)]⟩ (λ_ _ _ _=>trivial) ?_ ?_
 ·rintro l' j r' ρ M3 e' ⟨U,rfl,g3,J⟩;refine⟨_,rfl,fun F' Fn=>?_⟩;have z:=ax e';rw[Ld]at z;have hj:j=l'.length:=by
   have:=xJ e';rw[Lh z]at this;exact(Ml.inj this).symm
  subst hj;have fin:∀v:Int,v=(if l'.length=i then 1 else -1)->F' [Z (.int n),Z (.int (i:Nat)),Z (.ref po),Z (.int (l'.length:Nat)),Y] (ag M3 po (.lst ((((q7 (2*n-1)).map λk=>if i<=k/\k<i+l'.length then(if k=2*i then(1:Int)else -1)else 0).map D.int).set (i+l'.length) (.int v)))):=λv hv=>by
   refine Fn _ _ ⟨_,rfl,g3.upd G,?_⟩;rw[aa,<-R5 (f:=D.int),qT];congr 3;refine L8 λk _=>?_;rw[B0,Mt]
   by_cases h1:k=i+l'.length
   ·rw[if_pos h1,if_pos (show i<=k/\k<i+(l'.length+1) by lia),hv]
    by_cases h2:l'.length=i
    ·rw[if_pos h2,if_pos ∅]
    ·rw[if_neg h2,if_neg ∅]
   ·rw[if_neg h1]
    by_cases h2:i<=k/\k<i+l'.length
    ·rw[if_pos h2,if_pos (show i<=k/\k<i+(l'.length+1) by lia)]
    ·rw[if_neg h2,if_neg (show ¬(i<=k/\k<i+(l'.length+1)) by lia)]
  nofun;rw[<-NO]
  by_cases hz:l'.length=i
  ·rw[if_pos (by simp;lia)]
   refine cj J (j:=i+l'.length) (by rw[m1,m1,Ld];exact vf ∅) ?_
   exact fin 1 (by rw[if_pos hz])
  ·rw[if_neg (by simp;lia)]
   refine cj J (j:=i+l'.length) (by rw[m1,m1,Ld];exact vf ∅) ?_
   exact fin (-1) (by rw[if_neg hz])
 ·rintro ρ M3 ⟨U,rfl,g3,J⟩;rw[Ld]at J;dsimp only;nofun;refine m6 L ∅ ∅ hi λp1 M4 g4 _ e4=>?_
  refine⟨_,_,rfl,ai e4,?_⟩;nofun;refine⟨_,_,rfl,ai (g4 _ _ J),by rw[A0];lia,?_⟩
  have:=q M4 (g3.trans g4);unfold ow prD lZ at this;rw[show((q7 (2*n-1)).map λk=>if i<=k/\k<i+n then(if k=2*i then(1:Int)else -1)else 0)=((q7 (2*n-1)).map λk=>if k=2*i then(1:Int)else if i<=k/\k<i+n then -1 else 0)from L8 λk _=>by
   by_cases h1:k=2*i
   ·rw[if_pos h1,if_pos h1,if_pos ∅]
   ·rw[if_neg h1,if_neg h1]]
  exact this
noncomputable def kM(s:Stmt)(fo:Nat):FD:=⟨"pair_product",s,["n","i","j","part"],3,
 (.cons (.asg (.name 3) (.blt .tuple (.cons (.comp [Y,(Z 1),(Z 2)] ["at","i","j"] (.last (.rng1 (.var 0)) (.name 0) .nil (.ite (.cmp .inS (.var 0) (.tup (.cons (.var 1) (.cons (.var 2) .nil)))) (.int 1) (.int 0)))) .nil)))
 (.cons (.ret (.tup (.cons (.var 3) (.cons (.var 3) (.cons (.blt .tuple (.cons (.call fo (.cons (.bin .sub (.bin .mul (.int 2) (.var 0)) (.int 1)) (.cons (.bin .add (.var 1) (.var 2)) .nil))) .nil)) .nil)))))
 .nil))⟩
theorem Fb(hf:T[f]?=Z (kM s fo))(L:T[fo]?=Z (dR so)){k:Nat}(fv:2<=k){i j:Nat}(hn:n<=50)(hi:i<n)(hj:j<n)(q:∀M',Ge M M'->Q (prD (pa n i j)) M'):phi T k f [.int n,.int i,.int j] M Q:=by
 refine ar ∅ hf rfl (ρ:=[Z _,Z _,Z _,Y]) rfl ?_
 unfold kM;nofun;refine⟨∅,∅,?_⟩
 rw[J4];refine av (f:=λi=>D.int (i:Nat)) (ys:=q7 n) (I:=λr ρ M' acc=>(∃o0,ρ=[o0,Z (.int (i:Nat)),Z (.int (j:Nat))])/\M'=M/\acc=(r.map λh=>if h=i∨h=j then(1:Int)else 0).map .int) aS ⟨⟨_,rfl⟩,rfl,rfl⟩ (λ_ _ _ _ _=>trivial) ?_ ?_
 ·rintro r h r2 ρ B acc e10 ⟨⟨o0,rfl⟩,rfl,rfl⟩;refine⟨_,rfl,λN' F=>?_⟩;have G:=ax e10;rw[Ld]at G;ac_nf;refine⟨by rw[A0];lia,[(i:Int),(j:Int)],rfl,?_⟩
  ac_nf
  by_cases z:h=i∨h=j
  ·rw[if_pos (by simp;lia)]
   exact⟨by rw[m1,m1,A0];lia,F _ _ _ ⟨⟨_,rfl⟩,rfl,by rw[L3,L3,KI,KI,if_pos z];rfl⟩⟩
  ·rw[if_neg (by simp;lia)]
   exact⟨by rw[m1,m1,A0];lia,F _ _ _ ⟨⟨_,rfl⟩,rfl,by rw[L3,L3,KI,KI,if_neg z];rfl⟩⟩
 ·rintro ρ B acc ⟨⟨o0,rfl⟩,rfl,rfl⟩ p2 hp2;refine⟨_,_,rfl,ai aa,?_⟩;have J:=Ge.new (o:=.lst (((q7 n).map λh=>if h=i∨h=j then(1:Int)else 0).map .int)) hp2
  generalize ag B p2 (.lst (((q7 n).map λh=>if h=i∨h=j then(1:Int)else 0).map .int))=M11 at J⊢
  nofun;refine⟨aZ ∅,?_⟩
  rw[show(2*(n:Int)-1)=((2*n-1:Nat):Int) by lia,<-NO]
  refine m6 L ∅ ∅ ∅ λp1 O U _ Fn=>?_
  exact⟨_,_,rfl,ai Fn,by rw[A0];lia,q O (J.trans U)⟩
noncomputable def vg(s:Stmt)(fo fp:Nat):FD:=⟨"by_pairs",s,["n","products"],1,
 (.cons (.asg (.name 1) (.comp [Y,(Z 0)] ["i","n"] (.last (.rng1 (.var 0)) (.name 0) .nil (.call fo (.cons (.var 1) (.cons (.var 0) .nil))))))
 (.cons (.aug 1 .ext (.comp [Y,Y,(Z 0)] ["i","j","n"] (.more (.rng1 (.var 0)) (.name 0) .nil (.last (.rng2 (.bin .add (.var 0) (.int 1)) (.var 2)) (.name 1) .nil (.call fp (.cons (.var 2) (.cons (.var 0) (.cons (.var 1) .nil))))))))
 (.cons (.ret (.tup (.cons (.var 0) (.cons (.var 0) (.cons (.bin .sub (.bin .mul (.int 2) (.var 0)) (.int 1)) (.cons (.var 1) .nil))))))
 .nil)))⟩
theorem B5(hf:T[f]?=Z (vg s fo fp))(Fn:T[fo]?=Z (kL so f1))(fv:T[fp]?=Z (kM sp f1))(L:T[f1]?=Z (dR s1)){k:Nat}(hk:3<=k)(U:n<=50)(h1:1<=n)(q:∀p M',Ge M M'->M p=Y->M' p=Z (.lst ((bp n).map prD))->Q (.tup [.int n,.int n,.int ((2*n-1:Nat):Int),.ref p]) M'):phi T k f [.int n] M Q:=by
 refine ar ∅ hf rfl (ρ:=[Z _,Y]) rfl ?_
 unfold vg;nofun;refine⟨∅,∅,?_⟩
 rw[J4];refine av (f:=λi=>D.int (i:Nat)) (ys:=q7 n) (I:=λl ρ M' acc=>(∃o0,ρ=[o0,Z (.int n)])/\Ge M M'/\acc=(l.map (ow n)).map prD) aS ⟨⟨_,rfl⟩,Ge.refl,rfl⟩ (λ_ _ _ _ _=>trivial) ?_ ?_
 ·rintro l i r ρ M1 acc e ⟨⟨o0,rfl⟩,g1,rfl⟩;refine⟨_,rfl,λN' z=>?_⟩;have B:=ax e;rw[Ld]at B;have hi:i<n:=L9.mp (by rw[e];simp)
  ac_nf;refine Fa Fn L ∅ U hi λM2 g2=>?_
  exact⟨by rw[m1,m1,A0];lia,z _ _ _ ⟨⟨_,rfl⟩,g1.trans g2,by simp⟩⟩
 ·rintro ρ M1 acc ⟨⟨o0,rfl⟩,g1,rfl⟩ G hp1;have hp:M G=Y:=by
   cases hz:M G with
   |none=>rfl
   |some o=>rw[g1 _ _ hz]at hp1;cases hp1
  have g2:=g1.trans (Ge.new (o:=.lst (((q7 n).map (ow n)).map prD)) hp1);have e2:=aa (M:=M1) (a:=G) (o:=.lst (((q7 n).map (ow n)).map prD));generalize ag M1 G _=M2 at g2 e2⊢;nofun;refine⟨∅,∅,?_⟩
  rw[J4];have hT:∀l i r,q7 n=l++i::r->(l.flatMap λj=>(q7 (n-(j+1))).map λt=>pa n j (j+1+t)).length+n<=3000:=λl i r e=>by
   have h1:(l.flatMap λj=>(q7 (n-(j+1))).map λt=>pa n j (j+1+t)).length<=l.length*n:=by
    clear e
    induction l with
    |nil=>simp
    |cons j l ih=>rw[MN,B0,m1,Ld,La,MU];lia
   have B:=ax e;rw[Ld]at B;have:l.length*n<=50*50:=LF ∅ U
   lia
  refine av (f:=λi=>D.int (i:Nat)) (ys:=q7 n) (I:=λl ρ M' acc=>(∃o0 F,ρ=[o0,F,Z (.int n)])/\Ge M2 M'/\acc=(l.flatMap λj=>(q7 (n-(j+1))).map λt=>pa n j (j+1+t)).map prD) aS ⟨⟨_,_,rfl⟩,Ge.refl,rfl⟩ (λ_ _ _ _ _=>trivial) ?_ ?_
  ·rintro l i r ρ M3 acc e ⟨⟨o0,F,rfl⟩,g3,rfl⟩;refine⟨_,rfl,λN' z=>?_⟩;have hi:i<n:=L9.mp (by rw[e];simp)
   have hT:=hT l i r e;ac_nf;refine⟨(i:Int)+1,n,⟨rfl,rfl⟩,⟨∅,∅,∅,∅⟩,?_⟩
   rw[show((n:Int)-((i:Int)+1)).toNat=n-(i+1) by lia]
   refine av (f:=λt=>D.int ((i:Int)+1+(t:Nat))) (ys:=q7 (n-(i+1))) (I:=λl' ρ M' acc=>(∃F,ρ=[Z (.int i),F,Z (.int n)])/\Ge M2 M'/\acc=((l.flatMap λj=>(q7 (n-(j+1))).map λt=>pa n j (j+1+t))++l'.map λt=>pa n i (i+1+t)).map prD) (by rfl) ⟨⟨_,rfl⟩,g3,by simp⟩ (λ_ _ _ _ _=>trivial) ?_ ?_
   ·rintro l' t r' ρ M4 acc e' ⟨⟨F,rfl⟩,J,rfl⟩;refine⟨_,rfl,λN2 JJ=>?_⟩;have O:=ax e';rw[Ld]at O;have ht:t<n-(i+1):=L9.mp (by rw[e'];simp)
    ac_nf;rw[show(i:Int)+1+(t:Int)=((i+1+t:Nat):Int) by lia]
    refine Fb fv L ∅ U hi ∅ λM5 g5=>?_
    refine⟨by rw[m1,B0,m1,A0];lia,JJ _ _ _ ⟨⟨_,rfl⟩,J.trans g5,by simp⟩⟩
   ·rintro ρ M4 acc ⟨⟨F,rfl⟩,J,rfl⟩;refine z _ _ _ ⟨⟨_,_,rfl⟩,J,?_⟩;rw[NQ];simp
  ·rintro ρ M3 acc ⟨⟨o0,F,rfl⟩,g3,rfl⟩ p3 hp3;have hl:=GB (n:=n) U;unfold bp ows trj at hl;rw[B0]at hl;have J:=g3.trans (Ge.new (o:=.lst (((q7 n).flatMap λj=>(q7 (n-(j+1))).map λt=>pa n j (j+1+t)).map prD)) hp3);refine⟨G,p3,_,_,rfl,rfl,J _ _ e2,aa,by simp only[m1]at hl⊢;rw[A0];lia,?_⟩
   nofun;refine⟨aZ ∅,by rw[A0];lia,?_⟩
   rw[show 2*(n:Int)-1=((2*n-1:Nat):Int) by lia]
   refine q G _ ((g2.trans J).upd hp) hp ?_;rw[aa,<-L3];rfl
end
section
open L2.Srt
variable{T:List FD}
noncomputable def at2(rs:List Tm)(i j:Int):Bool:=rs.any λt=>decide (t.1.2=(i,j))
noncomputable def pq(L0 L1 N:Nat)(rs:List Tm)(i j:Int):Pr:=(one L0 i,one L1 j,(q7 N).map λk:Nat=>cf rs (k,i,j))
noncomputable def plJ(L0 L1 N:Nat)(rs:List Tm)(i:Nat)(l:List Nat):List Pr:=(l.filter λj:Nat=>at2 rs i j).map λj:Nat=>pq L0 L1 N rs i j
noncomputable def pl(L0 L1 N:Nat)(rs:List Tm)(l:List Nat):List Pr:=l.flatMap λi=>plJ L0 L1 N rs i (q7 L1)
def lx2(a b:K2):Prop:=a.1<b.1∨(a.1=b.1/\a.2<b.2)
theorem HR{a b:K2}(h:lx2 a b):ltK (kyD (k2D a)) (kyD (k2D b))=F2:=by
 unfold ltK;have e:ay (kyD (k2D a)) (kyD (k2D b))=(ay (.int a.1) (.int b.1)).then ((ay (.int a.2) (.int b.2)).then .eq):=by
  show ay (.tup [.int a.1,.int a.2]) (.tup [.int b.1,.int b.2])=_
  conv=>lhs;unfold ay
  simp only[cmpKs]
 rw[e];simp only[ay]
 rcases h with h|⟨h1,h2⟩
 ·rw[if_pos h];rfl
 ·rw[if_neg ∅,if_pos h1,if_pos h2];rfl
noncomputable def gr(rs:List Tm)(L1:Nat)(l:List Nat):List K2:=l.flatMap λi:Nat=>((q7 L1).filter λj:Nat=>at2 rs i j).map λj:Nat=>((i:Int),(j:Int))
theorem iP{rs:List Tm}{l:List Nat}:pl L0 L1 N rs l=(gr rs L1 l).map λk=>pq L0 L1 N rs k.1 k.2:=by unfold pl gr plJ;rw[V7];simp[LC,Function.comp_def]
theorem gr_lt{rs:List Tm}:(gr rs L1 (q7 L0)).Pairwise lx2:=by
 unfold gr;rw[SV];refine⟨λi _=>?_,?_⟩
 ·rw[LY];refine(List.pairwise_lt_range.filter _).imp ?_;intro a b h;exact .inr ⟨rfl,by dsimp only;lia⟩
 ·refine List.pairwise_lt_range.imp ?_;intro a b h x hx y j;obtain⟨_,_,rfl⟩:=D2.mp hx;obtain⟨_,_,rfl⟩:=D2.mp j;exact .inl (by dsimp only;lia)
theorem fG{rs:List Tm}(F:InB rs L0 L1 N){k:K2}:k∈gr rs L1 (q7 L0)↔at2 rs k.1 k.2=F2:=by
 unfold gr;constructor
 ·intro h;obtain⟨i,hi,h⟩:=MJ.mp h;obtain⟨j,J,rfl⟩:=D2.mp h;exact(NG.mp J).2
 ·intro h;have h':=h;unfold at2 at h';obtain⟨t,G,e⟩:=Mk.mp h';have e:t.1.2=(k.1,k.2):=of_decide_eq_true e;have z:=F.i t G;have B:=F.j t G;rw[e]at z B;refine MJ.mpr ⟨k.1.toNat,L9.mpr (by dsimp only at z;lia),D2.mpr ⟨k.2.toNat,NG.mpr ⟨L9.mpr (by dsimp only at B;lia),?_⟩,?_⟩⟩
  ·rw[OB z.1,OB B.1];exact h
  ·rw[OB z.1,OB B.1]
theorem GC{rs:List Tm}(J:InB rs L0 L1 N){R:List (K2×Wk)}(L:(R.map (·.1)).Nodup)(O:∀i j,(i,j)∈R.map (·.1)↔at2 rs i j=F2){ys:List D}(F:ys.Perm ((R.map raD).map (·.1)))(hs:gd ys):ys=(gr rs L1 (q7 L0)).map k2D:=by
 have e0:(R.map raD).map (·.1)=(R.map (·.1)).map k2D:=by rw[LC,LC];rfl
 rw[e0]at F;obtain⟨ks,G,p2⟩:=eN k2D F rfl;have B:ks.Nodup:=G.nodup_iff.mpr L;rw[<-p2];congr 1;unfold gd at hs;rw[<-p2,LY]at hs;refine sY (lt:=lx2) (λa b h1 h2=>?_) ((hs.and (LQ.mp B)).imp ?_) gr_lt λx=>?_
 ·unfold lx2 at h1 h2;lia
 ·rintro a b ⟨h1,h2⟩;unfold lx2
  by_cases h3:lx2 b a
  ·rw[HR h3]at h1;cases h1
  ·unfold lx2 at h3
   by_cases h4:a.1=b.1
   ·have:a.2≠b.2:=λz=>h2 (Up h4 z);lia
   ·lia
 ·rw[fG J,G.mem_iff];exact O x.1 x.2
theorem xS{L0 L1 N:Nat}{rs:List Tm}:∀{l:List Nat},(pl L0 L1 N rs l).length<=l.length*L1
 |[]=>by simp[pl]
 |i::l=>by
  have ih:=xS (L0:=L0) (L1:=L1) (N:=N) (rs:=rs) (l:=l);have h1:(plJ L0 L1 N rs i (q7 L1)).length<=L1:=by unfold plJ;rw[m1];exact LR (OZ _ _) (by simp)
  unfold pl at ih⊢;rw[MN,B0,La,MU];lia
noncomputable def iQ(s:Stmt)(f1:Nat):FD:=⟨"plain",s,["task","left","right","many","terms","outs","k","i","j","c","products"],1,
 (.cons (.asg (.tup (.cons (.name 1) (.cons (.name 2) (.cons (.name 3) (.cons (.name 4) .nil))))) (.var 0))
 (.cons (.asg (.name 5) (.dnew F2))
 (.cons (.for (.tup (.cons (.name 6) (.cons (.name 7) (.cons (.name 8) (.cons (.name 9) .nil))))) (.seq (.var 4)) (.cons (.ite (.cmp .ninD (.tup (.cons (.var 7) (.cons (.var 8) .nil))) (.var 5)) (.cons (.put (.var 5) (.tup (.cons (.var 7) (.cons (.var 8) .nil))) (.bin .mul (.lst (.cons (.int 0) .nil)) (.var 3)))
 .nil) .nil)
 (.cons (.put (.ix (.var 5) (.tup (.cons (.var 7) (.cons (.var 8) .nil)))) (.var 6) (.var 9))
 .nil)))
 (.cons (.asg (.name 10) (.comp [Y,Y,(Z 1),(Z 2),(Z 5)] ["i","j","left","right","outs"] (.last (.seq (.blt .sorts (.cons (.var 5) .nil))) (.tup (.cons (.name 0) (.cons (.name 1) .nil))) .nil (.tup (.cons (.blt .tuple (.cons (.call f1 (.cons (.var 2) (.cons (.var 0) .nil))) .nil)) (.cons (.blt .tuple (.cons (.call f1 (.cons (.var 3) (.cons (.var 1) .nil))) .nil)) (.cons (.blt .tuple (.cons (.ix (.var 4) (.tup (.cons (.var 0) (.cons (.var 1) .nil)))) .nil)) .nil)))))))
 (.cons (.ret (.tup (.cons (.var 1) (.cons (.var 2) (.cons (.var 3) (.cons (.var 10) .nil))))))
 .nil)))))⟩
theorem CZ(g:Ge M M')(h:M' p=Y):M p=Y:=by
 cases hz:M p with
 |none=>rfl
 |some o=>rw[g _ _ hz]at h;cases h
theorem D3{i:Nat}(h:i<L):ixN L (i:Nat)=Z i:=by unfold ixN;simp;lia
theorem xT(hf:T[f]?=Z (dR s))(j:1<=n)(z:L<=1000)(h0:0<=i)(h1:i<L)(q:∀p M',Ge M M'->M p=Y->M' p=Z (.lst ((one L i).map .int))->Q (.ref p) M'):phi T n f [.int L,.int i] M Q:=by obtain⟨k,rfl⟩:=Lp h0;exact m6 hf j z ∅ q
theorem qV(hf:T[f]?=Z (iQ s f1))(JK:T[f1]?=Z (dR s1))(hn:2<=n)(h0:L0<=100)(h1:L1<=100)(hN:N<=100){pt:Wk}{rs:List Tm}(ept:M pt=Z (.lst (rs.map tmD)))(JL:(rs.map (·.1)).Nodup)(hB:InB rs L0 L1 N)(hl:rs.length<=63)(q:∀p M',Ge M M'->M p=Y->M' p=Z (.lst ((pl L0 L1 N rs (q7 L0)).map prD))->Q (.tup [.int L0,.int L1,.int N,.ref p]) M'):phi T n f [.tup [.int L0,.int L1,.int N,.ref pt]] M Q:=by
 refine ar ∅ hf rfl (ρ:=[Z _,Y,Y,Y,Y,Y,Y,Y,Y,Y,Y]) rfl ?_
 unfold iQ;nofun;nofun;intro d hd;have g0:=Ge.new (o:=.dct F2 []) hd;have d0:=aa (M:=M) (a:=d) (o:=.dct F2 []);generalize ag M d (.dct F2 [])=M0 at g0 d0⊢;nofun;refine⟨_,ai (g0 _ _ ept),?_⟩;have K5:pt≠d:=λz=>by rw[z,hd]at ept;cases ept
 refine bn (f:=tmD) (ys:=rs) (I:=λl ρ M'=>∃R g o6 o7 o8 o9 L,ρ=[Z (.tup [.int L0,.int L1,.int N,.ref pt]),Z (.int L0),Z (.int L1),Z (.int N),Z (.ref pt),Z (.ref d),o6,o7,o8,o9,L]/\Ge M M'/\RI d N M' R g/\(∀r∈R,M r.2=Y)/\R.length<=l.length/\(∀k i j,gz (g (i,j)) k=cf l (k,i,j))/\∀i j,(i,j)∈R.map (·.1)↔at2 l i j=F2) rfl ⟨[],λ_=>z4 N 0,_,_,_,_,_,rfl,g0,⟨d0,by simp,by simp,by simp,by simp,by simp,λ_ _=>rfl⟩,by simp,by simp,λk i j=>by rw[kJ,fD],by simp[at2]⟩ (λl ρ M' ⟨_,_,_,_,_,_,_,_,g,_⟩=>ai (g _ _ ept)) ?_ ?_
 ·rintro l t r ρ U e ⟨R,g,o6,o7,o8,o9,L,rfl,g1,J,fr,JR,hg,hk⟩;refine⟨_,rfl,λF hF=>?_⟩;have JS:=ax e;have JT:t∈rs:=by rw[e];simp
  have tB:=hB.k t JT;have JU:cf l t.1=0:=by refine iL λu hu eu=>?_;rw[e,L3,KI]at JL;exact(P6.mp JL).2.2 _ (L5 hu) _ (KW ..) eu
  have ek:D.tup [D.int t.1.2.1,D.int t.1.2.2]=k2D t.1.2:=rfl;refine gB (λρ M'=>ρ=[Z (.tup [.int L0,.int L1,.int N,.ref pt]),Z (.int L0),Z (.int L1),Z (.int N),Z (.ref pt),Z (.ref d),Z (.int t.1.1),Z (.int t.1.2.1),Z (.int t.1.2.2),Z (.int t.2),L]/\∃R',RI d N M' R' g/\Run d R U R' M'/\(∀r∈R,r∈R')/\R'.length<=R.length+1/\(∀k,k∈R'.map (·.1)↔k∈R.map (·.1)∨k=t.1.2)) (λRR hR=>?_) ?_
  ·ac_nf;refine⟨by rw[A0];lia,d,F2,_,rfl,.inl J.dct,rfl,?_⟩
   ac_nf;rw[ek]
   by_cases G:t.1.2∈R.map (·.1)
   ·obtain⟨a,ha,e⟩:=m4 G;rw[e];ac_nf;exact hR _ _ ⟨rfl,R,J,Run.refl,λr h=>h,∅,λk=>⟨.inl,λz=>z.elim id λz=>by rw[z];exact G⟩⟩
   ·rw[CU G];ac_nf;rw[bj];ac_nf;refine⟨by rw[A0];lia,λp1 JV=>?_⟩
    have JM:=Ge.new (o:=.lst [.int 0]) JV;refine⟨_,aa,∅,∅,by rw[A0];simp;lia,λp2 Fn=>?_⟩
    have g2:=JM.trans (Ge.new (o:=.lst (z4 (N:Int).toNat [D.int 0]).flatten) Fn);have JN:U p2=Y:=by
     cases hq:U p2 with
     |none=>rfl
     |some o=>rw[JM _ _ hq]at Fn;cases Fn
    have e2:ag (ag U p1 (.lst [.int 0])) p2 (.lst (z4 (N:Int).toNat [D.int 0]).flatten) p2=Z (.lst ((z4 N (0:Int)).map .int)):=by rw[aa,v9];simp
    generalize ag (ag U p1 (.lst [.int 0])) p2 (.lst (z4 (N:Int).toNat [D.int 0]).flatten)=M2 at g2 e2;refine⟨by rw[A0];lia,qJ (g2 _ _ J.dct) rfl (by rw[m1,A0];lia) ?_⟩
    rw[ek,CV G];obtain⟨B,r2⟩:=J.new G g2 JN e2;exact hR _ _ ⟨rfl,_,B,r2,λr h=>LD _ h,by simp,λk=>by simp⟩
  ·rintro ρ M2 ⟨rfl,R',B,r2,sub,K6,JO⟩;rw[bj];ac_nf;refine⟨by rw[A0];lia,?_⟩
   rw[ek];obtain⟨a,O,ea⟩:=m4 ((JO t.1.2).mpr (.inr rfl));refine xE B.dct rfl ea ?_;obtain⟨kn,ekn⟩:=Lp tB.1;have JP:kn<N:=∅
   rw[ekn];refine cj (B.row _ O) (j:=kn) (by rw[m1,B.ln];exact D3 JP) ?_
   obtain⟨I3,r3⟩:=B.put O (row:=(g t.1.2).set kn t.2) (by rw[SH];exact B.ln _)
   rw[show((g t.1.2).map D.int).set kn (.int t.2)=((g t.1.2).set kn t.2).map D.int from R5.symm];have rr:=r2.trans (g:=g) r3 B sub;refine hF _ _ ⟨R',_,_,_,_,_,_,rfl,?_,I3,λr hr=>?_,by simp;lia,λk i j=>?_,λi j=>?_⟩
   ·intro b o hb;refine rr.kp b o (λz=>by rw[z,hd]at hb;cases hb) (λz=>?_) (g1 _ _ hb)
    obtain⟨r,hr,rfl⟩:=D2.mp z;rw[fr r hr]at hb;cases hb
   ·rcases rr.ex r hr with h|h
    ·exact fr r h
    ·cases hz:M r.2 with
     |none=>rfl
     |some o=>rw[g1 _ _ hz]at h;cases h
   ·rw[i7,b7,fD]
    by_cases h:(i,j)=t.1.2
    ·rw[if_pos h,xQ (by rw[B.ln];exact JP)]
     by_cases h3:k=kn
     ·have et:t.1=(k,i,j):=Up (ekn.trans h3.symm) h.symm;rw[if_pos h3,if_pos et,<-et,JU];lia
     ·rw[if_neg h3,if_neg (λz=>h3 ((congrArg (·.1) z).symm.trans ekn)),<-h,hg];lia
    ·rw[if_neg h,if_neg (λz=>h (congrArg (·.2) z).symm),hg];lia
   ·rw[JO,hk];unfold at2;rw[List.any_append,N8,List.any_nil,Bool.or_false,QR];exact or_congr Tt ⟨λz=>by simp[z],λz=>(of_decide_eq_true z).symm⟩
 ·rintro ρ U ⟨R,g,o6,o7,o8,o9,L,rfl,g1,J,fr,JR,hg,hk⟩;dsimp only;rw[bj];ac_nf;refine⟨d,F2,_,.tup [.int,.int],rfl,J.dct,rfl,λkv JW=>?_,by rw[m1];lia,λps ys JX fv JQ=>?_⟩
  ·obtain⟨t,_,rfl⟩:=D2.mp JW;rfl
  have ey:=GC hB J.keys hk fv JQ;subst ey;have g2:=Ge.new (o:=.lst ((gr rs L1 (q7 L0)).map k2D)) JX;have e2:=aa (M:=U) (a:=ps) (o:=.lst ((gr rs L1 (q7 L0)).map k2D));have B:=J.ge g2;have g2:=g1.trans g2;generalize ag U ps (.lst ((gr rs L1 (q7 L0)).map k2D))=M2 at g2 e2 B⊢;refine⟨_,ai e2,?_⟩;refine av (f:=k2D) (ys:=gr rs L1 (q7 L0)) (I:=λl ρ M' acc=>(∃o0 o1,ρ=[o0,o1,Z (.int L0),Z (.int L1),Z (.ref d)])/\Ge M2 M'/\acc=(l.map λk=>pq L0 L1 N rs k.1 k.2).map prD) rfl ⟨⟨_,_,rfl⟩,Ge.refl,rfl⟩ (λ_ _ _ _ h=>ai (h.2.1 _ _ e2)) ?_ ?_
  ·rintro lk k rk ρ M3 acc ek ⟨⟨o0,o1,rfl⟩,g3,rfl⟩;refine⟨_,rfl,λN' JY=>?_⟩;have JZ:k∈gr rs L1 (q7 L0):=by rw[ek];simp
   have JJ:=(fG hB).mp JZ;have K0:=(hk k.1 k.2).mpr JJ;have JS:=ax ek;have K1:=xS (L0:=L0) (L1:=L1) (N:=N) (rs:=rs) (l:=q7 L0);rw[iP,m1,Ld]at K1;have h6:L0*L1<=100*100:=LF h0 h1;unfold at2 at JJ;obtain⟨t,ht,et⟩:=Mk.mp JJ;have et:t.1.2=(k.1,k.2):=of_decide_eq_true et;have b1:=hB.i t ht;have b2:=hB.j t ht;rw[et]at b1 b2;ac_nf;refine xT JK ∅ ∅ b1.1 b1.2 λp4 M4 g4 _ e4=>⟨_,_,rfl,ai e4,?_⟩
   refine xT JK ∅ ∅ b2.1 b2.2 λp5 M5 g5 _ e5=>⟨_,_,rfl,ai e5,?_⟩
   have g5:=(g3.trans g4).trans g5;have I5:=B.ge g5;obtain⟨a,O,ea⟩:=m4 K0;refine⟨by rw[A0];lia,xE I5.dct rfl ea ⟨_,_,rfl,ai (I5.row _ O),?_⟩⟩
   refine⟨by rw[A0];lia,by rw[m1,m1,A0];lia,JY _ _ _ ⟨⟨_,_,rfl⟩,g5,?_⟩⟩
   rw[L3,L3];congr 1;have eg:g (k.1,k.2)=(q7 N).map λm:Nat=>cf rs (m,k.1,k.2):=by
    apply MM;intro m;rw[KL]
    by_cases hm:m<N
    ·rw[Lh hm,fF (by rw[J.ln];exact hm),hg];rfl
    ·rw[LA (by rw[J.ln];lia),LA (by simp;lia)];rfl
   show[D.tup [_,_,D.tup ((g (k.1,k.2)).map D.int)]]=_;rw[eg];rfl
  ·rintro ρ M3 acc ⟨⟨o0,o1,rfl⟩,g3,rfl⟩ p6 hp6;have g6:=Ge.new (o:=.lst (((gr rs L1 (q7 L0)).map λk=>pq L0 L1 N rs k.1 k.2).map prD)) hp6;nofun;refine⟨by rw[A0];lia,q p6 _ ((g2.trans g3).trans g6) ?_ (by rw[aa,iP])⟩
   cases hz:M p6 with
   |none=>rfl
   |some o=>rw[(g2.trans g3) _ _ hz]at hp6;cases hp6
theorem xU{a b:K2}(h:lx2 a b):a≠b:=λz=>by subst z;unfold lx2 at h;lia
theorem tf{α:Type}[BEq α][LawfulBEq α]:∀{l m:List α},l.Nodup->(∀x∈l,x∈m)->l.length<=m.length
 |[],_,_,_=>N7 _
 |x::l,m,j,h=>by
  rw[Mo]at j;have ih:=tf (l:=l) (m:=m.erase x) j.2 λy B=>by
   rw[List.mem_erase_of_ne (λz=>j.1 (by rw[<-z];exact B))]
   exact h y (KP _ B)
  rw[List.length_erase_of_mem (h x KW)]at ih;have:=List.length_pos_of_mem (h x KW);rw[La];lia
theorem B6{rs:List Tm}(j:InB rs L0 L1 N):(pl L0 L1 N rs (q7 L0)).length<=rs.length:=by rw[iP,m1,<-m1 (as:=rs) (f:=λt:Tm=>t.1.2)];refine tf (LQ.mpr (gr_lt.imp xU)) λk z=>?_;have h:=(fG j).mp z;unfold at2 at h;obtain⟨t,B,e⟩:=Mk.mp h;exact D2.mpr ⟨t,B,of_decide_eq_true e⟩
theorem nJ:cy (one L i):=λx hx=>by
 obtain⟨m,_,rfl⟩:=D2.mp hx
 split<;>lia
theorem GD{rs:List Tm}(hs:∀k,-1000<=cf rs k/\cf rs k<=1000):∀p∈pl L0 L1 N rs (q7 L0),v8 L0 L1 N p:=λp j=>by
 rw[iP]at j;obtain⟨k,_,rfl⟩:=D2.mp j;refine⟨de,de,by simp[pq],nJ,nJ,λx hx=>?_⟩
 obtain⟨m,_,rfl⟩:=D2.mp hx;exact hs _
theorem B7{L0 L1 N:Nat}{rs:List Tm}{k i j:Int}:∀{ks:List K2},ks.Nodup->(∀x∈ks,(0<=x.1/\x.1<L0)/\(0<=x.2/\x.2<L1))->Tn (ks.map λx=>pq L0 L1 N rs x.1 x.2) k i j=if(i,j)∈ks then gz ((q7 N).map λm:Nat=>cf rs (m,i,j)) k else 0
 |[],_,_=>by simp[Tn]
 |x::ks,B,F=>by
  rw[Mo]at B;have ih:=B7 (N:=N) (rs:=rs) (k:=k) (i:=i) (j:=j) B.2 λy L=>F y (by simp[L])
  obtain⟨G,J⟩:=F x (by simp)
  rw[KI,bu,ih];unfold pq;dsimp only;rw[ie G.1 G.2,ie J.1 J.2]
  by_cases e:(i,j)=x
  ·subst e;rw[if_pos rfl,if_pos rfl,if_neg B.1,if_pos (by simp)];simp
  ·have hm:((i,j)∈x::ks)↔(i,j)∈ks:=⟨λz=>by rcases D1.mp z with z|z;exact absurd z e;exact z,λz=>KP _ z⟩
   have O:(if i=x.1 then(1:Int)else 0)*(if j=x.2 then 1 else 0)=0:=by
    by_cases e1:i=x.1
    ·rw[if_neg (λz=>e (Up e1 z))];simp
    ·rw[if_neg e1];simp
   rw[O];simp only[hm];simp
theorem oQ{rs:List Tm}(B:InB rs L0 L1 N){k:Int}:Tn (pl L0 L1 N rs (q7 L0)) k i j=cf rs (k,i,j):=by
 have G:∀x∈gr rs L1 (q7 L0),(0<=x.1/\x.1<L0)/\(0<=x.2/\x.2<L1):=λx hx=>by have h:=(fG B).mp hx;unfold at2 at h;obtain⟨t,F,e⟩:=Mk.mp h;have e:t.1.2=(x.1,x.2):=of_decide_eq_true e;have J:=B.i t F;have L:=B.j t F;rw[e]at J L;exact⟨J,L⟩
 rw[iP,B7 (LQ.mpr (gr_lt.imp xU)) G];have out:(¬(0<=k/\k<N)∨at2 rs i j≠F2)->cf rs (k,i,j)=0:=λh=>iL λt F e=>by
  rcases h with h|h
  ·have:=B.k t F;rw[e]at this;exact h this
  ·exact h (Mk.mpr ⟨t,F,by simp[e]⟩)
 by_cases h:at2 rs i j=F2
 ·rw[if_pos ((fG B).mpr h)]
  by_cases hk:0<=k/\k<N
  ·obtain⟨m,rfl⟩:=Lp hk.1;have hm:m<N:=by lia
   unfold gz;rw[if_neg ∅,J4,KH,KL,Lh hm];rfl
  ·rw[out (.inl hk)];apply Rp;intro z;have:=eC z;simp at this;exact hk this
 ·rw[if_neg (λz=>h ((fG B).mp z)),out (.inr h)]
end
section
open L2.Srt
noncomputable def ngL(l:List Int):List Int:=l.map λx=>0-x
theorem GE:gz (ngL l) i = -gz l i:=by
 have e:ngL l=l.map ((-1) * ·):=by unfold ngL;exact L8 λx _=>∅
 rw[e,qQ];lia
theorem Al(h:cy l):cy (ngL l):=λx hx=>by unfold ngL at hx;obtain⟨y,j,rfl⟩:=D2.mp hx;have:=h y j;lia
theorem xV:(ngL l).length=l.length:=by simp[ngL]
theorem tj{a b:List Pr}(h:a.Perm b){k:Int}:Tn a k i j=Tn b k i j:=by
 induction h with
 |nil=>rfl
 |cons x _ ih=>rw[bu,bu,ih]
 |swap x y l=>simp only[bu];lia
 |trans _ _ z B=>rw[z,B]
end
section
open L2.Srt
variable{T:List FD}
theorem Fc{ps:List Pr}{a:Nat}{k:Int}:Tn (ps.drop a++ps.take a) k i j=Tn ps k i j:=by rw[tj (List.perm_append_comm),MP]
theorem GF{r o:List Int}{k:Int}:tm (l,r,o) k i j+tm (l,r,ngL o) k i j=0:=by unfold tm;dsimp only;rw[GE,Int.mul_neg];lia
theorem xW{ds:List D}{a:Nat}(h:a<=ds.length):ca ds (Z (a:Int)) Y=ds.drop a:=by unfold ca;rw[HT.sIx_none,HT.sIx_nat,MW h,OK (by simp)]
theorem xX{ds:List D}{a:Nat}(h:a<=ds.length):ca ds Y (Z (a:Int))=ds.take a:=by unfold ca;rw[HT.sIx_none,HT.sIx_nat,MW h,Tc,Nat.sub_zero]
end
section
open L2.Srt
variable{T:List FD}
noncomputable abbrev Bks:=List (Wk×List Int)
structure RwAt(M:Mem)(p:Wk)(R:Bks)(W:Nat):Prop where
 at':M p=Z (.lst (R.map λr=>.ref r.1))
 row:∀r∈R,M r.1=Z (.lst (r.2.map .int))/\r.2.length=W
theorem RwAt.ge{R:Bks}(h:RwAt M p R W)(g:Ge M M'):RwAt M' p R W:=⟨g _ _ h.at',λr j=>⟨g _ _ (h.row r j).1,(h.row r j).2⟩⟩
noncomputable def ju(c:Int)(m b:List Int):List Int:=(m.zip b).map λu=>u.1+c*u.2
noncomputable def az(B:List (List Int))(W:Nat)(zs:List (Int×Int)):List Int:=zs.foldl (λm z=>ju z.2 m (B.getD z.1.toNat [])) (z4 W 0)
theorem eU{B:List (List Int)}{z:Int×Int}:az B W (zs++[z])=ju z.2 (az B W zs) (B.getD z.1.toNat []):=by unfold az;rw[Qf];rfl
theorem jv{m b:List Int}(h:m.length=W)(g:b.length=W):(ju c m b).length=W:=by simp[ju,h,g]
theorem fH{z:Int×Int}(h:z∈nz l):∃i:Nat,z.1=i/\i<l.length/\l[i]?=Z z.2:=by unfold nz idx at h;obtain⟨h,_⟩:=NG.mp h;obtain⟨i,hi,e⟩:=List.mem_mapIdx.mp h;subst e;exact⟨i,rfl,hi,z0 hi⟩
theorem qW{α:Type}{xs:List α}{i:Nat}{x:α}(h:xs[i]?=Z x):atI xs (i:Nat)=Z x:=by
 have:=(KQ.mp h).1;unfold atI ixN;rw[if_pos ∅,if_pos ∅,Po,J4]
 exact h
theorem qX:∀{a b:List Int},Pn iz (a.map .int) (b.map .int)=(a.zip b).map pD
 |[],_=>by simp
 |_::_,[]=>by simp
 |x::a,y::b=>by have:=qX (a:=a) (b:=b);simp only[KI,SE,PV,this];rfl
noncomputable def ig(s:Stmt)(ff:Nat):FD:=⟨"block_sum",s,["part","blocks","made","at","c"],2,
 (.cons (.asg (.name 2) (.bin .mul (.lst (.cons (.int 0) .nil)) (.blt .len (.cons (.ix (.var 1) (.int 0)) .nil))))
 (.cons (.for (.tup (.cons (.name 3) (.cons (.name 4) .nil))) (.seq (.call ff (.cons (.var 0) .nil))) (.cons (.asg (.name 2) (.comp [Y,Y,(Z 4)] ["x","y","c"] (.last (.zip (.var 2) (.ix (.var 1) (.var 3))) (.tup (.cons (.name 0) (.cons (.name 1) .nil))) .nil (.bin .add (.var 0) (.bin .mul (.var 2) (.var 1))))))
 .nil))
 (.cons (.ret (.var 2))
 .nil)))⟩
theorem tq(hf:T[f]?=Z (ig s ff))(JJ:T[ff]?=Z (df sf))(hn:2<=n){R:Bks}{pb:Wk}(hR:RwAt M pb R W)(hl:l.length=R.length)(h0:1<=R.length)(hb:R.length<=1000)(hw:W<=100000)(hs:∀x∈l,-(2^64)<x/\x<2^64)(q:∀p M',Ge M M'->M p=Y->M' p=Z (.lst ((az (R.map (·.2)) W (nz l)).map .int))->Q (.ref p) M'):phi T n f [.tup (l.map .int),.ref pb] M Q:=by
 refine ar ∅ hf rfl (ρ:=[Z _,Z _,Y,Y,Y]) rfl ?_
 unfold ig;nofun;refine⟨by rw[A0];decide,λp1 JK=>?_⟩
 have g1:Ge M (ag M p1 (.lst [.int 0])):=.new JK;have G:=hR.ge g1;obtain⟨j,R',rfl⟩:∃j R',R=j::R':=by
  cases R with
  |nil=>simp at h0
  |cons j R'=>exact⟨j,R',rfl⟩
 refine aN G.at' (d:=.ref j.1) (by simp[atI,ixN]) ?_
 refine be (G.row j (KW ..)).1 ?_;rw[m1,(G.row j (KW ..)).2];refine wMul_r.mpr ⟨[.int 0],aa,∅,∅,by rw[A0];simp;lia,λp2 J=>?_⟩
 rw[show(z4 (W:Int).toNat [D.int 0]).flatten=(z4 W (0:Int)).map .int by simp]
 have g2:=g1.trans (.new (o:=.lst ((z4 W (0:Int)).map .int)) J);have JN:=hR.ge g2;nofun;refine nH JJ ∅ (l:=l) ∅ rfl λp3 L=>?_
 refine⟨_,ai aa,?_⟩;have g3:=g2.trans (.new (o:=.lst ((nz l).map pD)) L);refine bn (f:=pD) (ys:=nz l) (I:=λzs ρ M'=>∃pm fv o4,ρ=[Z (.tup (l.map .int)),Z (.ref pb),Z (.ref pm),fv,o4]/\Ge M M'/\M pm=Y/\M' pm=Z (.lst ((az ((j::R').map (·.2)) W zs).map .int))/\(az ((j::R').map (·.2)) W zs).length=W/\M' p3=Z (.lst ((nz l).map pD))) rfl ?_ ?_ ?_ ?_
 ·refine⟨p2,Y,Y,rfl,g3,?_,?_,by simp[az],aa⟩
  ·cases e:M p2 with
   |none=>rfl
   |some o=>rw[g1 _ _ e]at J;cases J
  ·rw[aE (λz=>by subst z;rw[aa]at L;cases L)]
   exact aa
 ·rintro zs ρ M' ⟨pm,fv,o4,rfl,g,n0,em,ln,U⟩;exact ai U
 ·rintro zs z r ρ M' e ⟨pm,fv,o4,rfl,g,n0,em,ln,U⟩;refine⟨_,rfl,λF hF=>?_⟩;nofun;obtain⟨i,ei,hi,ez⟩:=fH (show z∈nz l by rw[e];simp)
  have JO:=hs _ (KZ ez);obtain⟨b,eb⟩:∃b,(j::R')[i]?=Z b:=⟨_,z0 ∅⟩
  have O:=KZ eb;have B:=hR.ge g;refine aN B.at' (d:=.ref b.1) ?_ ?_
  ·rw[ei];exact qW (by rw[KL,eb];rfl)
  have hB:((j::R').map (·.2)).getD z.1.toNat []=b.2:=by rw[ei,J4,KH,KL,eb];rfl
  refine⟨_,ai em,_,ai (B.row b O).1,?_⟩;rw[qX];refine av (f:=pD) (ys:=(az ((j::R').map (·.2)) W zs).zip b.2) (I:=λt ρ M'' acc=>(∃o0 o1,ρ=[o0,o1,Z (.int z.2)])/\M''=M'/\acc=(t.map λu=>u.1+z.2*u.2).map .int) rfl ⟨⟨_,_,rfl⟩,rfl,rfl⟩ ?_ ?_ ?_
  ·rintro t ρ M1 acc ⟨_,rfl,_⟩;exact⟨ai em,ai (B.row b O).1⟩
  ·rintro t u r' ρ M1 acc e' ⟨⟨o0,o1,rfl⟩,rfl,rfl⟩;refine⟨_,rfl,λN' JL=>?_⟩;have JM:=ax e';ac_nf;refine⟨aZ ⟨∅,∅⟩,?_⟩
   rw[SK,ln]at JM;exact⟨by rw[m1,m1,A0];lia,JL _ _ _ ⟨⟨_,_,rfl⟩,rfl,by simp⟩⟩
  ·rintro ρ M1 acc ⟨⟨o0,o1,rfl⟩,rfl,rfl⟩ p Fn;refine hF _ _ ⟨p,_,_,rfl,g.trans (.new Fn),?_,?_,?_,?_⟩
   ·cases e9:M p with
    |none=>rfl
    |some o=>rw[g _ _ e9]at Fn;cases Fn
   ·rw[aa,eU,hB];rfl
   ·rw[eU,hB];exact jv ln (B.row b O).2
   ·rw[aE (λy=>by subst y;rw[U]at Fn;cases Fn)];exact U
 ·rintro ρ M' ⟨pm,fv,o4,rfl,g,n0,em,ln,U⟩;nofun;exact q _ _ g n0 em
end
section
open L2.Srt
variable{T:List FD}
noncomputable def bJ(t:List Int)(us:List (Int×Int))(c:Int):List Int:=us.foldl (λt u=>t.set u.1.toNat (gz t u.1+c*u.2)) t
noncomputable def cB(P:List (List Int))(t:List Int)(zs:List (Int×Int))(b:List Int):List Int:=zs.foldl (λt z=>bJ t ((P.getD z.1.toNat []).zip b) z.2) t
noncomputable def bT(mul:List Int->List Int->List Int)(BL BR:List (List Int))(W:Nat)(P:List (List Int))(N:Nat)(ps:List Pr):List Int:=ps.foldl (λt p=>cB P t (nz p.2.2) (mul (az BL W (nz p.1)) (az BR W (nz p.2.1)))) (z4 N 0)
theorem eV{c:Int}:∀{us:List (Int×Int)} {t:List Int},(bJ t us c).length=t.length
 |[],_=>rfl
 |u::us,t=>by show(bJ (t.set _ _) us c).length=_;rw[eV (us:=us),SH]
theorem kP{us:List (Int×Int)}{u:Int×Int}{t:List Int}:bJ t (us++[u]) c=(bJ t us c).set u.1.toNat (gz (bJ t us c) u.1+c*u.2):=by unfold bJ;rw[Qf];rfl
theorem nK{P:List (List Int)}{t:List Int}{z:Int×Int}{b:List Int}:cB P t (zs++[z]) b=bJ (cB P t zs b) ((P.getD z.1.toNat []).zip b) z.2:=by unfold cB;rw[Qf];rfl
theorem gF{P:List (List Int)}{b:List Int}:∀{zs:List (Int×Int)} {t:List Int},(cB P t zs b).length=t.length
 |[],_=>rfl
 |z::zs,t=>by show(cB P (bJ t _ _) zs b).length=_;rw[gF (zs:=zs),eV]
theorem gG{mul:List Int->List Int->List Int}{BL BR:List (List Int)}{W:Nat}{P:List (List Int)}{N:Nat}{ps:List Pr}{p:Pr}:bT mul BL BR W P N (ps++[p])=cB P (bT mul BL BR W P N ps) (nz p.2.2) (mul (az BL W (nz p.1)) (az BR W (nz p.2.1))):=by unfold bT;rw[Qf];rfl
theorem eW{BL BR P:List (List Int)}{ps:List Pr}:(bT mul BL BR W P N ps).length=N:=by
 refine bw (P:=λps=>(bT mul BL BR W P N ps).length=N) (by simp[bT]) (λl x ih=>?_) ps
 rw[gG,gF,ih]
noncomputable def kQ(s:Stmt)(fs ff:Nat):FD:=⟨"by_blocks",s,["scheme","lefts","rights","places","multiply","told","times","l","r","o","block","more","k","c","at","x",""],5,
 (.cons (.par 5 6 (.bin .mul (.lst (.cons (.int 0) .nil)) (.bin .add (.ix (.ix (.var 3) (.neg (.int 1))) (.neg (.int 1))) (.int 1))) (.int 0))
 (.cons (.for (.tup (.cons (.name 7) (.cons (.name 8) (.cons (.name 9) .nil)))) (.seq (.ix (.var 0) (.int 3))) (.cons (.asg (.tup (.cons (.name 10) (.cons (.name 11) .nil))) (.callC 4 (.cons (.call fs (.cons (.var 7) (.cons (.var 1) .nil))) (.cons (.call fs (.cons (.var 8) (.cons (.var 2) .nil))) .nil))))
 (.cons (.aug 6 .add (.var 11))
 (.cons (.for (.tup (.cons (.name 12) (.cons (.name 13) .nil))) (.seq (.call ff (.cons (.var 9) .nil))) (.cons (.for (.tup (.cons (.name 14) (.cons (.name 15) .nil))) (.zip (.ix (.var 3) (.var 12)) (.var 10)) (.cons (.augI (.var 5) (.var 14) .add (.bin .mul (.var 13) (.var 15)))
 .nil))
 .nil))
 .nil))))
 (.cons (.ret (.tup (.cons (.var 5) (.cons (.var 6) .nil))))
 .nil)))⟩
theorem xY(s:Stmt)(fs ff:Nat):(kQ s fs ff).takes:=by show(Lf "")∈([_,_,_,_,_,_,_,_,_,_,_,_,_,_,_,_,Lf ""]:List Str);simp only[D1,true_or,or_true]
theorem tt{α:Type}{xs:List α}{x:α}(h:xs.getLast?=Z x):atI xs (-1)=Z x:=by
 rw[Px]at h;have:=(KQ.mp h).1;unfold atI ixN;rw[if_neg ∅,if_pos ∅,Po]
 rw[<-h];congr 1;lia
theorem kR{M2:Mem}(g:Ge M M2)(h:M p=Y):Ge M (ag M2 p o):=λa o' e=>by rw[aE (λz=>by rw[z,h]at e;cases e)];exact g _ _ e
theorem kS(g:Ge M M')(h:M' p=Y):M p=Y:=by
 cases e:M p with
 |none=>rfl
 |some o=>rw[g _ _ e]at h;cases h
theorem Fd {fs:Nat}{ss:Stmt}(hf:T[f]?=Z (kQ s fs ff))(JL:T[fs]?=Z (ig ss ff))(L:T[ff]?=Z (df sf))(h5:fs<5000/\ff<5000/\f<1000){j:Nat}(hn:4<=n)(hj:j<1000){gs:List D}{pp pL pR pP:Wk}{a0 a1 a2:D}{ps:List Pr}{RL RR RP:Bks}{V tm:Nat}(ep:M pp=Z (.lst (ps.map prD)))(hL:RwAt M pL RL W)(hR:RwAt M pR RR W)(hP:RwAt M pP RP V)(h0:1<=RL.length/\RL.length<=1000/\1<=RR.length/\RR.length<=1000/\1<=RP.length/\RP.length<=1000)(hw:W<=100000)(hv:1<=V/\V<=100000)(hN:N<=1000000)(hl:∀p∈ps,p.1.length=RL.length/\p.2.1.length=RR.length/\p.2.2.length=RP.length)(hs:∀p∈ps,(∀x∈p.1,-(2^64)<x/\x<2^64)/\(∀x∈p.2.1,-(2^64)<x/\x<2^64)/\∀x∈p.2.2,-(2^64)<x/\x<2^64)(JS:∀r∈RP,∀x∈r.2,0<=x/\x<N)(JT:∃r,RP.getLast?=Z r/\r.2.getLast?=Z ((N:Int)-1))(JU:∀p∈ps,(mul (az (RL.map (·.2)) W (nz p.1)) (az (RR.map (·.2)) W (nz p.2.1))).length=V)(hmul:∀{p x y O Q1},p∈ps->Ge M O->O x=Z (.lst ((az (RL.map (·.2)) W (nz p.1)).map .int))->O y=Z (.lst ((az (RR.map (·.2)) W (nz p.2.1)).map .int))->
   (∀z M2,Ge O M2->O z=Y->M2 z=Z (.lst ((mul (az (RL.map (·.2)) W (nz p.1)) (az (RR.map (·.2)) W (nz p.2.1))).map .int))->Q1 (.tup [.ref z,.int tm]) M2)->rOf (phi T (n-1)) j gs js [.ref x,.ref y] O Q1)(q:∀p M',Ge M M'->M p=Y->M' p=Z (.lst ((bT mul (RL.map (·.2)) (RR.map (·.2)) W (RP.map (·.2)) N ps).map .int))->Q (.tup [.ref p,.int (ps.length*tm:Nat)]) M'):
 phi T n (1000+f) [.tup [a0,a1,a2,.ref pp],.ref pL,.ref pR,.ref pP,.ref a,.int (j:Nat),.tup gs,.tup ((js:List Nat).map λi:Nat=>.int i)] M Q:=by
 refine A9 (xs:=[.tup [a0,a1,a2,.ref pp],.ref pL,.ref pR,.ref pP]) ∅ ∅ hj hf (xY s fs ff) rfl (ρ:=[Z _,Z _,Z _,Z _,Z _,Y,Y,Y,Y,Y,Y,Y,Y,Y,Y,Y,Y]) rfl ?_
 unfold kQ;nofun;refine⟨by rw[A0];decide,λp1 JV=>?_⟩
 have g1:Ge M (ag M p1 (.lst [.int 0])):=.new JV;obtain⟨rl,el,JW⟩:=JT;have JM:=hP.ge g1;refine aN JM.at' (d:=.ref rl.1) (tt (by rw[RA,el];rfl)) ?_
 refine aN (JM.row rl (List.mem_of_getLast? el)).1 (d:=.int ((N:Int)-1)) (tt (by rw[RA,JW];rfl)) ?_
 rw[EW,show(N:Int)-1+1=N by lia]
 refine wMul_r.mpr ⟨[.int 0],aa,∅,∅,by rw[A0];simp;lia,λpt JN=>?_⟩
 rw[show(z4 (N:Int).toNat [D.int 0]).flatten=(z4 N (0:Int)).map .int by simp]
 have g2:=g1.trans (.new (o:=.lst ((z4 N (0:Int)).map .int)) JN);have npt:=kS g1 JN;have eps:=g2 _ _ ep;nofun;refine⟨_,rfl,_,ai eps,?_⟩;refine bn (f:=prD) (ys:=ps) (I:=λl ρ M'=>∃o7 o8 o9 JX JY U Fn B G,ρ=[Z (.tup [a0,a1,a2,.ref pp]),Z (.ref pL),Z (.ref pR),Z (.ref pP),Z (.ref a),Z (.ref pt),Z (.int (l.length*tm:Nat)),o7,o8,o9,JX,JY,U,Fn,B,G,Y]/\Ge M M'/\M' pt=Z (.lst ((bT mul (RL.map (·.2)) (RR.map (·.2)) W (RP.map (·.2)) N l).map .int))) rfl ?_ ?_ ?_ ?_
 ·exact⟨Y,Y,Y,Y,Y,Y,Y,Y,Y,by simp,g2,aa⟩
 ·rintro l ρ M' ⟨_,_,_,_,_,_,_,_,_,rfl,g,_⟩;exact ai (g _ _ ep)
 ·rintro l p r ρ M' e ⟨_,_,_,_,_,_,_,_,_,rfl,g,et⟩;refine⟨_,rfl,λF hF=>?_⟩;have hp:p∈ps:=by rw[e];simp
  obtain⟨l1,l2,l3⟩:=hl p hp;obtain⟨s1,s2,s3⟩:=hs p hp;have lo:p.2.2.length<=1000:=by rw[l3];exact h0.2.2.2.2.2
  nofun;refine⟨a,rfl,?_⟩;ac_nf;refine lV (tq JL L ∅ (hL.ge g) l1 h0.1 h0.2.1 hw s1 λx O gx nx ex=>?_) h5.1
  refine lV (tq JL L ∅ ((hR.ge g).ge gx) l2 h0.2.2.1 h0.2.2.2.1 hw s2 λy M2 gy ny ey=>?_) h5.1
  have gm:=(g.trans gx).trans gy;refine CA (hmul hp gm (gy _ _ ex) ey λz M3 gz' nz' ez=>?_);have g3:=gm.trans gz';refine⟨_,rfl,?_⟩;nofun;have JO:=(gx.trans gy |>.trans gz') _ _ et
  nofun;refine lV (nH L ∅ (l:=p.2.2) ∅ rfl λpz J=>?_) h5.2.1
  have g4:=g3.trans (.new (o:=.lst ((nz p.2.2).map pD)) J);have fv:ag M3 pz (.lst ((nz p.2.2).map pD)) z=_:=Ge.new (o:=.lst ((nz p.2.2).map pD)) J _ _ ez;have JJ:ag M3 pz (.lst ((nz p.2.2).map pD)) pt=_:=Ge.new (o:=.lst ((nz p.2.2).map pD)) J _ _ JO;have JK:ag M3 pz (.lst ((nz p.2.2).map pD)) pz=Z (.lst ((nz p.2.2).map pD)):=aa;have nzp:z≠pt:=λy=>by subst y;rw[(gx.trans gy) _ _ et]at nz';cases nz'
  have npp:pz≠pt:=λy=>by subst y;rw[JO]at J;cases J
  generalize ag M3 pz (.lst ((nz p.2.2).map pD))=M4 at g4 fv JJ JK⊢;have JP:(bT mul (RL.map (·.2)) (RR.map (·.2)) W (RP.map (·.2)) N l).length=N:=eW;have hb:=JU p hp;have fin:=@gG mul (RL.map (·.2)) (RR.map (·.2)) W (RP.map (·.2)) N l p;generalize bT mul (RL.map (·.2)) (RR.map (·.2)) W (RP.map (·.2)) N l=t0 at JJ JP fin;generalize mul (az (RL.map (·.2)) W (nz p.1)) (az (RR.map (·.2)) W (nz p.2.1))=b at fv hb fin;refine⟨_,ai JK,?_⟩;refine bn (f:=pD) (ys:=nz p.2.2) (I:=λzs ρ M'=>∃U Fn B G,ρ=[Z (.tup [a0,a1,a2,.ref pp]),Z (.ref pL),Z (.ref pR),Z (.ref pP),Z (.ref a),Z (.ref pt),Z (.int ((l.length*tm:Nat)+(tm:Nat))),Z (.tup (p.1.map .int)),Z (.tup (p.2.1.map .int)),Z (.tup (p.2.2.map .int)),Z (.ref z),Z (.int (tm:Nat)),U,Fn,B,G,Y]/\M'=ag M4 pt (.lst ((cB (RP.map (·.2)) t0 zs b).map .int))) rfl ?_ ?_ ?_ ?_
  ·exact⟨_,_,_,_,rfl,(xG JJ).symm⟩
  ·rintro zs ρ M' ⟨_,_,_,_,rfl,rfl⟩;exact ai (by rw[aE npp];exact JK)
  ·rintro zs w r' ρ M' e' ⟨_,_,_,_,rfl,rfl⟩;refine⟨_,rfl,λF2 JZ=>?_⟩;obtain⟨i,ei,hi,ew⟩:=fH (show w∈nz p.2.2 by rw[e'];simp)
   have K7:=s3 _ (KZ ew);obtain⟨row,er⟩:∃row,RP[i]?=Z row:=⟨_,z0 ∅⟩
   have JQ:=KZ er;have g5:∀t:List Int,Ge M (ag M4 pt (.lst (t.map .int))):=λt=>kR g4 npt;have K0:(RP.map (·.2)).getD w.1.toNat []=row.2:=by rw[ei,J4,KH,KL,er];rfl
   have sz:∀t:List Int,aF (ag M4 pt (.lst (t.map .int))) (.ref z)=Z (b.map .int):=λt=>ai (by rw[aE nzp];exact fv)
   have sr:∀t:List Int,aF (ag M4 pt (.lst (t.map .int))) (.ref row.1)=Z (row.2.map .int):=λt=>ai (g5 t _ _ (hP.row row JQ).1);nofun;refine aN ((hP.ge (g5 _)).at') (d:=.ref row.1) (by rw[ei];exact qW (by rw[KL,er];rfl)) ?_
   refine⟨_,sr _,_,sz _,?_⟩;rw[qX];have K1:(cB (RP.map (·.2)) t0 zs b).length=N:=by rw[gF,JP]
   refine bn (f:=pD) (ys:=row.2.zip b) (I:=λus ρ M'=>∃B G,ρ=[Z (.tup [a0,a1,a2,.ref pp]),Z (.ref pL),Z (.ref pR),Z (.ref pP),Z (.ref a),Z (.ref pt),Z (.int ((l.length*tm:Nat)+(tm:Nat))),Z (.tup (p.1.map .int)),Z (.tup (p.2.1.map .int)),Z (.tup (p.2.2.map .int)),Z (.ref z),Z (.int (tm:Nat)),Z (.int w.1),Z (.int w.2),B,G,Y]/\M'=ag M4 pt (.lst ((bJ (cB (RP.map (·.2)) t0 zs b) us w.2).map .int))) rfl ?_ ?_ ?_ ?_
   ·exact⟨_,_,rfl,rfl⟩
   ·rintro us ρ M' ⟨_,_,rfl,rfl⟩;exact⟨sr _,sz _⟩
   ·rintro us u r2 ρ M' e2 ⟨_,_,rfl,rfl⟩;refine⟨_,rfl,λF3 K5=>?_⟩;have hu:=JS row JQ u.1 (NH (show(u.1,u.2)∈row.2.zip b by rw[e2];simp)).1
    have JR:(bJ (cB (RP.map (·.2)) t0 zs b) us w.2).length=N:=by rw[eV,K1]
    have eu:u.1=((u.1.toNat:Nat):Int):=∅
    have hk:u.1.toNat<N:=∅
    have K6:atI ((bJ (cB (RP.map (·.2)) t0 zs b) us w.2).map D.int) u.1=Z (.int (gz (bJ (cB (RP.map (·.2)) t0 zs b) us w.2) u.1)):=by rw[eu];exact qW (by rw[KL,fF (by rw[JR];exact hk)];rfl)
    nofun;refine⟨pt,_,u.1,_,rfl,rfl,aa,K6,aZ ⟨∅,∅⟩,?_⟩
    rw[Cz];refine cj aa (j:=u.1.toNat) (by rw[eu,m1,JR];unfold ixN;rw[if_pos ∅,if_pos ∅]) ?_
    rw[xF,<-R5];exact K5 _ _ ⟨_,_,rfl,by rw[kP]⟩
   ·rintro ρ M' ⟨_,_,rfl,rfl⟩;ac_nf;exact JZ _ _ ⟨_,_,_,_,rfl,by rw[nK,K0]⟩
  ·rintro ρ M' ⟨_,_,_,_,rfl,rfl⟩;ac_nf;have e6:((l.length*tm:Nat):Int)+(tm:Nat)=((l++[p]).length*tm:Nat):=by rw[B0,Mt,NV,Nat.one_mul,NO]
   rw[e6];exact hF _ _ ⟨_,_,_,_,_,_,_,_,_,rfl,kR g4 npt,by rw[aa,fin]⟩
 ·rintro ρ M' ⟨_,_,_,_,_,_,_,_,_,rfl,g,et⟩;nofun;exact⟨by rw[A0];decide,q _ _ g npt et⟩
end
section
open L2.Srt
theorem Am{t:List Int}:∀us:List (Int×Int),(∀u∈us,0<=u.1/\u.1<t.length)->gz (bJ t us c) z=gz t z+c*S1 us z:=by
 refine bw (P:=λus:List (Int×Int)=>(∀u∈us,0<=u.1/\u.1<(t.length:Int))->gz (bJ t us c) z=gz t z+c*S1 us z) (λ_=>by simp[bJ,S1]) λl x ih h=>?_
 have hx:=h x (by simp)
 have e:=ih λu j=>h u (LD _ j);rw[kP,xQ (by rw[eV];lia),xO,t5,show S1 [] z=0 by rfl]
 by_cases y:z=x.1
 ·subst y;rw[if_pos ∅,if_pos rfl,e];grind
 ·rw[if_neg ∅,if_neg ∅,e];grind
theorem D4{P:List (List Int)}{b t:List Int}:∀zs:List (Int×Int),(∀w∈zs,∀u∈(P.getD w.1.toNat []).zip b,0<=u.1/\u.1<t.length)->gz (cB P t zs b) z=gz t z+(zs.map λw=>w.2*S1 ((P.getD w.1.toNat []).zip b) z).sum:=by
 refine bw (P:=λzs=>(∀w∈zs,∀u∈(P.getD w.1.toNat []).zip b,0<=u.1/\u.1<t.length)->gz (cB P t zs b) z=gz t z+(zs.map λw=>w.2*S1 ((P.getD w.1.toNat []).zip b) z).sum) (λ_=>by simp[cB]) λl x ih h=>?_
 have e:=ih λu j=>h u (LD _ j);rw[nK,Am _ (by rw[gF];exact h x (by simp)),e,L3,Oj]
 simp;lia
theorem Fe{x:Int}:nz (l++[x])=nz l++(if x=0 then[]else[(((l.length:Nat):Int),x)]):=by
 unfold nz idx;rw[List.mapIdx_append,OQ];congr 1
 by_cases h:x=0<;>simp[h]
theorem xZ{x:Int}{i:Nat}:gz (l++[x]) (i:Nat)=if i=l.length then x else gz l (i:Nat):=by
 rw[ic,cL,kI]
 by_cases h:i=l.length
 ·subst h;simp
 ·rw[if_neg h]
  by_cases y:i<l.length
  ·rw[if_pos ∅]
  ·rw[if_neg ∅,if_neg ∅]
   by_cases w:gz l (i:Nat)=0
   ·rw[w]
   ·have:=eC w;lia
theorem y0:∀l:List Int,((nz l).map λw=>w.2*G w.1.toNat).sum=ak l.length λi=>gz l (i:Nat)*G i:=by
 refine bw (P:=λl=>((nz l).map λw=>w.2*G w.1.toNat).sum=ak l.length λi=>gz l (i:Nat)*G i) (by rfl) λl x ih=>?_
 rw[Fe,L3,Oj,ih,B0,Mt,rsum_succ,xZ,if_pos rfl];congr 1
 ·exact al λi hi=>by rw[xZ,if_neg ∅]
 ·by_cases h:x=0
  ·subst h;simp
  ·rw[if_neg h];simp
theorem D5{m b:List Int}(hm:m.length=W)(j:b.length=W)(z:q<W):gz (ju c m b) (q:Nat)=gz m (q:Nat)+c*gz b (q:Nat):=by
 have h1:q<m.length:=∅
 have h2:q<b.length:=∅
 have e:(ju c m b)[q]?=Z (m[q]+c*b[q]):=by unfold ju;rw[KL,show(m.zip b)[q]?=Z (m[q],b[q])from List.getElem?_zip_eq_some.mpr ⟨z0 h1,z0 h2⟩];rfl
 unfold gz;rw[if_neg ∅,if_neg ∅,if_neg ∅,J4,KH,KH,KH,e,z0 h1,z0 h2]
 rfl
theorem D6{B:List (List Int)}(j:q<W):∀zs:List (Int×Int),(∀w∈zs,(B.getD w.1.toNat []).length=W)->(az B W zs).length=W/\gz (az B W zs) (q:Nat)=(zs.map λw=>w.2*gz (B.getD w.1.toNat []) (q:Nat)).sum:=by
 refine bw (P:=λzs=>(∀w∈zs,(B.getD w.1.toNat []).length=W)->(az B W zs).length=W/\gz (az B W zs) (q:Nat)=(zs.map λw=>w.2*gz (B.getD w.1.toNat []) (q:Nat)).sum) (λ_=>⟨by simp[az],by simp[az];exact kJ⟩) λl x ih h=>?_
 obtain⟨e1,e2⟩:=ih λu z=>h u (LD _ z);have hx:=h x (by simp)
 rw[eU];refine⟨jv e1 hx,?_⟩;rw[D5 e1 hx j,e2,L3,Oj];simp
theorem tu{B:List (List Int)}(j:q<W)(F:l.length=B.length)(z:∀b∈B,b.length=W):gz (az B W (nz l)) (q:Nat)=ak l.length λi=>gz l (i:Nat)*gz (B.getD i []) (q:Nat):=by
 rw[(D6 j (nz l) λw hw=>?_).2,y0 (G:=λi=>gz (B.getD i []) (q:Nat))];obtain⟨i,ei,hi,_⟩:=fH hw;rw[ei,J4,KH,z0 ∅]
 exact z _ (Qx _)
theorem eE{B:List (List Int)}(F:l.length=B.length)(j:∀b∈B,b.length=W):(az B W (nz l)).length=W:=by
 have g:∀zs:List (Int×Int),(∀w∈zs,(B.getD w.1.toNat []).length=W)->(az B W zs).length=W:=bw (P:=λzs=>(∀w∈zs,(B.getD w.1.toNat []).length=W)->(az B W zs).length=W) (λ_=>by simp[az]) λl x ih h=>by rw[eU];exact jv (ih λu z=>h u (LD _ z)) (h x (by simp))
 refine g _ λw hw=>?_;obtain⟨i,ei,hi,_⟩:=fH hw;rw[ei,J4,KH,z0 ∅]
 exact j _ (Qx _)
end
section
open L2.Srt
theorem iR{i:Nat}{x:Int}(h:l[i]?=Z x):gz l (i:Nat)=x:=by unfold gz;rw[if_neg ∅,J4,KH,h];rfl
theorem qY{m:Nat}{F:Nat->Int}:∀n:Nat,ak (n*m) F=ak n λa=>ak m λb=>F (a*m+b)
 |0=>by rw[Nat.zero_mul];rfl
 |n+1=>by
  rw[rsum_succ,<-qY n];have g:∀k:Nat,ak (n*m+k) F=ak (n*m) F+ak k λb=>F (n*m+b):=λk=>by
   induction k with
   |zero=>show _=_+0;simp
   |succ k ih=>rw[<-TV,rsum_succ,ih,rsum_succ];lia
  rw[MU,g m]
theorem An{s:Nat}(h:s<=W)(z:∀i,s<=i->F i=0):ak W F=ak s F:=by
 obtain⟨k,rfl⟩:=Nat.exists_eq_add_of_le h;clear h
 induction k with
 |zero=>rfl
 |succ k ih=>rw[<-TV,rsum_succ,ih,z _ ∅];simp
theorem B8{z:Int}:∀{r b:List Int},r.length=b.length->S1 (r.zip b) z=ak b.length λq=>if gz r (q:Nat)=z then gz b (q:Nat)else 0
 |[],[],_=>rfl
 |x::r,y::b,h=>by
  rw[PV,t5,B8 (r:=r) (b:=b) (by simpa using h),La,nG]
  congr 1
theorem tw{w m:Nat}{k:Int}{GL GR:Nat->Nat->Int}:∀ps:List Pr,(ps.map λp=>gz p.2.2 k*ak w λb=>(ak m λi=>gz p.1 (i:Nat)*GL i b)*(ak m λj=>gz p.2.1 (j:Nat)*GR j b)).sum=ak w λb=>ak m λi=>ak m λj=>Tn ps k (i:Nat) (j:Nat)*(GL i b*GR j b)
 |[]=>by
  rw[aO]
  ·rfl
  ·exactλb _=>aO λi _=>aO λj _=>by simp[Tn]
 |p::ps=>by
  rw[KI,OA,tw ps,<-ck,<-db];refine al λb _=>?_;rw[<-i9,<-ck,<-db];refine al λi _=>?_;rw[<-ck,<-ck,<-db];refine al λj _=>?_;rw[bu]
  grind
end
section
open L2.Srt
noncomputable def cvz(w:Nat)(A B:List Int)(z:Int):Int:=ak w λi=>gz A (i:Nat)*gz B (z-(i:Nat))
noncomputable def cv(w:Nat)(A B:List Int):List Int:=(q7 (2*w-1)).map λz:Nat=>cvz w A B (z:Nat)
theorem fI:(cv w A B).length=2*w-1:=by simp[cv]
theorem di(h:¬(0<=i/\i<l.length)):gz l i=0:=Decidable.byContradiction λz=>h (eC z)
theorem Ff(j:B.length<=w)(h:¬(0<=z/\z<(2*w-1:Nat))):cvz w A B z=0:=aO λi hi=>by rw[di (l:=B) ∅,Int.mul_zero]
theorem vh(j:B.length<=w):gz (cv w A B) z=cvz w A B z:=by
 by_cases h:0<=z/\z<(2*w-1:Nat)
 ·obtain⟨k,rfl⟩:=Lp h.1;refine iR ?_;unfold cv;rw[KL,Lh ∅];rfl
 ·rw[Ff j h,di (by rw[fI];exact h)]
noncomputable def pln(n w:Nat):List (List Int):=(q7 (2*n-1)).map λk:Nat=>(q7 (2*w-1)).map λx:Nat=>((k*w:Nat):Int)+(x:Nat)
theorem fJ:(pln n w).length=2*n-1:=by simp[pln]
theorem y3:∀r∈pln n w,∀x∈r,0<=x/\x<(2*n*w-1:Nat):=λr h z B=>by
 obtain⟨k,j,rfl⟩:=D2.mp h;obtain⟨x,hx,rfl⟩:=D2.mp B;have j:=L9.mp j;have hx:=L9.mp hx;have h1:(k+2)*w<=2*n*w:=Mm w ∅
 rw[NV]at h1;lia
theorem Fh{i:Nat}(hi:i<2*n-1):(pln n w).getD i []=(q7 (2*w-1)).map λx:Nat=>((i*w:Nat):Int)+(x:Nat):=by unfold pln;rw[KH,KL,Lh hi];rfl
theorem Fi{i:Nat}(hi:i<2*n-1){b:List Int}(B:b.length=2*w-1):S1 (((pln n w).getD i []).zip b) z=gz b (z-(i*w:Nat)):=by
 rw[Fh hi,B8 (by simp[B]),B]
 have ev:∀q,q<2*w-1->gz ((q7 (2*w-1)).map λx:Nat=>((i*w:Nat):Int)+(x:Nat)) (q:Nat)=((i*w:Nat):Int)+(q:Nat):=λq j=>iR (by rw[KL,Lh j];rfl)
 by_cases h:0<=z-(i*w:Nat)/\z-(i*w:Nat)<(2*w-1:Nat)
 ·obtain⟨k,G⟩:=Lp h.1;rw[G,<-eT (n:=2*w-1) (k:=k) (F:=λq=>gz b (q:Nat)) ∅]
  refine al λq j=>?_;rw[ev q j]
  by_cases e:k=q
  ·rw[if_pos ∅,if_pos e]
  ·rw[if_neg ∅,if_neg e]
 ·rw[di (by rw[B];exact h)]
  exact aO λq j=>if_neg (by rw[ev q j];lia)
theorem Ao{BL BR P:List (List Int)}{V:Nat}(G:List Int->Nat->Int):∀ps:List Pr,(∀p∈ps,p.2.2.length=P.length/\(mul (az BL W (nz p.1)) (az BR W (nz p.2.1))).length=V)->(∀r∈P,∀x∈r,0<=x/\x<N)->
 (∀(b:List Int) (i:Nat),b.length=V->i<P.length->S1 ((P.getD i []).zip b) z=G b i)->
 gz (bT mul BL BR W P N ps) z=(ps.map λp=>ak P.length λk=>gz p.2.2 (k:Nat)*G (mul (az BL W (nz p.1)) (az BR W (nz p.2.1))) k).sum:=by
 intro ps h B F
 revert ps
 refine bw (P:=λps=>(∀p∈ps,p.2.2.length=P.length/\(mul (az BL W (nz p.1)) (az BR W (nz p.2.1))).length=V)->gz (bT mul BL BR W P N ps) z=(ps.map λp=>ak P.length λk=>gz p.2.2 (k:Nat)*G (mul (az BL W (nz p.1)) (az BR W (nz p.2.1))) k).sum) (λ_=>by simp[bT];exact kJ) λl p ih h=>?_
 have e:=ih λu j=>h u (LD _ j);obtain⟨h1,h2⟩:=h p (by simp)
 rw[gG,D4,e,L3,Oj]
 ·congr 1;have e2:(nz p.2.2).map (fun w=>w.2*S1 ((P.getD w.1.toNat []).zip (mul (az BL W (nz p.1)) (az BR W (nz p.2.1)))) z)=(nz p.2.2).map fun w=>w.2*G (mul (az BL W (nz p.1)) (az BR W (nz p.2.1))) w.1.toNat:=L8 fun w hw=>by
   obtain⟨i,ei,hi,_⟩:=fH hw;rw[ei,J4,F _ i h2 ∅]
  rw[e2,y0 (G:=G (mul (az BL W (nz p.1)) (az BR W (nz p.2.1)))),h1];simp
 ·intro w hw u j;obtain⟨i,ei,hi,_⟩:=fH hw;rw[eW];rw[ei,J4,KH,z0 ∅]at j
  exact B _ (Qx _) _ (NH j).1
theorem qZ{α:Type}{m:Nat}{F:α->Nat->Int}:∀ps:List α,(ps.map λp=>ak m λk=>F p k).sum=ak m λk=>(ps.map λp=>F p k).sum
 |[]=>(aO λ_ _=>rfl).symm
 |p::ps=>by rw[KI,OA,qZ ps,<-db];exact al λk _=>by rw[KI,OA]
noncomputable def blk(n w:Nat)(A:List Int):List (List Int):=(q7 n).map λi:Nat=>(q7 w).map λx:Nat=>gz A (i*w+x:Nat)
theorem cz:(blk n w A).length=n:=by simp[blk]
theorem dh:∀b∈blk n w A,b.length=w:=λb j=>by obtain⟨k,_,rfl⟩:=D2.mp j;simp
theorem Fj{i:Nat}(hi:i<n):(blk n w A).getD i []=(q7 w).map λx:Nat=>gz A (i*w+x:Nat):=by unfold blk;rw[KH,KL,Lh hi];rfl
theorem ii{i:Nat}(hi:i<n):gz ((blk n w A).getD i []) y=if 0<=y/\y<w then gz A ((i*w:Nat)+y)else 0:=by
 rw[Fj hi]
 by_cases h:0<=y/\y<w
 ·obtain⟨k,rfl⟩:=Lp h.1;rw[if_pos h];exact iR (by rw[KL,Lh ∅];rfl)
 ·rw[if_neg h,di (by simpa using h)]
theorem r6(j:l.length=n):gz (az (blk n w B) w (nz l)) y=ak n λi=>gz l (i:Nat)*gz ((blk n w B).getD i []) y:=by
 by_cases h:0<=y/\y<w
 ·obtain⟨k,rfl⟩:=Lp h.1;rw[tu ∅ (by rw[j,cz]) dh,j]
 ·rw[di (by rw[eE (by rw[j,cz]) dh];exact h)]
  exact(aO λi hi=>by rw[ii hi,if_neg h,Int.mul_zero]).symm
theorem Ap(hw:0<w)(L:B.length<=n*w){u:Int}:(ak n λj=>gz ((blk n w B).getD j []) (u-(j*w:Nat)))=gz B u:=by
 by_cases h:0<=u/\u<(n*w:Nat)
 ·obtain⟨k,rfl⟩:=Lp h.1;have J:k<n*w:=by lia
  have e:=SN k w;have hm:=VQ k hw;have hd:k / w<n:=Pj (by rw[OI];exact J)
  rw[<-eT (n:=n) (k:=k / w) (F:=λ_=>gz B (k:Nat)) hd];refine al λj G=>?_;rw[ii G]
  by_cases ej:k / w=j
  ·subst ej;rw[OI]at e;rw[if_pos rfl,if_pos ∅];congr 1;lia
  ·rw[if_neg ej,if_neg];intro z;refine ej ?_;have O:j*w<=k:=by lia
   have U:k<(j+1)*w:=by rw[NV];lia
   exact(Nat.div_eq_of_lt_le ∅ ∅)
 ·rw[di ∅]
  refine aO λj G=>?_;rw[ii G,if_neg];intro z;have:(j+1)*w<=n*w:=Mm w G;rw[NV]at this;exact h ∅
theorem D7{s:Nat}(hw:0<w){ps:List Pr}(fv:A.length=s)(hB:B.length=s)(hs:s<=n*w)(U:∀k i j,Tn ps k i j=cf (aP n n) (k,i,j))(J:∀p∈ps,p.1.length=n/\p.2.1.length=n/\p.2.2.length=2*n-1):
 gz (bT (cv w) (blk n w A) (blk n w B) w (pln n w) (2*n*w-1) ps) z=cvz s A B z:=by
 have L:∀p∈ps,(az (blk n w B) w (nz p.2.1)).length=w:=λp G=>eE (by rw[(J p G).2.1,cz]) dh
 rw[Ao (V:=2*w-1) (λb i=>gz b (z-(i*w:Nat))) ps (λp G=>⟨by rw[(J p G).2.2,fJ],fI⟩) y3 λb i O hi=>Fi (by rwa[fJ]at hi) O,fJ]
 have e1:ps.map (λp=>ak (2*n-1) λk=>gz p.2.2 (k:Nat)*gz (cv w (az (blk n w A) w (nz p.1)) (az (blk n w B) w (nz p.2.1))) (z-(k*w:Nat)))
  = ps.map λp=>ak (2*n-1) λk=>gz p.2.2 (k:Nat)*ak w λb=>(ak n λi=>gz p.1 (i:Nat)*gz ((blk n w A).getD i []) (b:Nat))*(ak n λj=>gz p.2.1 (j:Nat)*gz ((blk n w B).getD j []) (z-(k*w:Nat)-(b:Nat))):=L8 λp G=>by
  obtain⟨l1,l2,l3⟩:=J p G;refine al λk Fn=>?_;rw[vh (by rw[L p G];exact KO _)]
  congr 1;exact al λb O=>by rw[r6 l1,r6 l2]
 rw[e1,qZ,al λk _=>tw (w:=w) (m:=n) (k:=(k:Nat)) (GL:=λi b=>gz ((blk n w A).getD i []) (b:Nat)) (GR:=λj b=>gz ((blk n w B).getD j []) (z-(k*w:Nat)-(b:Nat))) ps];rw[dy];have e2:∀b,b<w->(ak (2*n-1) λk=>ak n λi=>ak n λj=>Tn ps (k:Nat) (i:Nat) (j:Nat)*(gz ((blk n w A).getD i []) (b:Nat)*gz ((blk n w B).getD j []) (z-(k*w:Nat)-(b:Nat))))
  = ak n λi=>gz A (i*w+b:Nat)*gz B (z-(i*w+b:Nat)):=λb O=>by
  rw[dy];refine al λi hi=>?_;rw[dy,<-Ap hw (B:=B) (n:=n) ∅,<-ck]
  refine al λj hj=>?_;rw[<-eT (n:=2*n-1) (k:=i+j) (F:=λk=>gz A (i*w+b:Nat)*gz ((blk n w B).getD j []) (z-(i*w+b:Nat)-(j*w:Nat))) ∅]
  refine al λk Fn=>?_;rw[U,bN]
  by_cases e:i+j=k
  ·subst e;rw[if_pos rfl,if_pos ∅,ii hi,if_pos ∅,Int.one_mul]
   congr 2;rw[NV];lia
  ·rw[if_neg e,if_neg ∅,Int.zero_mul]
 rw[al e2,dy,<-qY (F:=λq=>gz A (q:Nat)*gz B (z-(q:Nat)))];exact An hs λi hi=>by rw[di (l:=A) ∅,Int.zero_mul]
theorem D8{s:Nat}(hw:0<w){ps:List Pr}(G:A.length=s)(J:B.length=s)(hs:s<=n*w)(L:∀k i j,Tn ps k i j=cf (aP n n) (k,i,j))(O:∀p∈ps,p.1.length=n/\p.2.1.length=n/\p.2.2.length=2*n-1):
 (bT (cv w) (blk n w A) (blk n w B) w (pln n w) (2*n*w-1) ps).take (2*s-1)=cv s A B:=by
 have h2:2*s-1<=2*n*w-1:=by rw[RU];lia
 apply MM;intro z
 by_cases F:z<2*s-1
 ·rw[Ni F,fF (by rw[eW];lia),D7 hw G J hs L O,fF (by rw[fI];exact F),vh ∅]
 ·rw[LA (by rw[Ll];lia),LA (by rw[fI];lia)]
end
section
open L2.Srt
variable{T:List FD}
noncomputable def ij(s:Stmt):FD:=⟨"block_length",s,["length","n"],2,
 (.cons (.ret (.bin .fdiv (.bin .sub (.bin .add (.var 0) (.var 1)) (.int 1)) (.var 1)))
 .nil)⟩
theorem tz(hf:T[f]?=Z (ij s)){k:Nat}(z:1<=k){l:Nat}(B:1<=n)(j:n<=1000)(q:Q (.int ((l+n-1) / n:Nat)) M):phi T k f [.int l,.int n] M Q:=by
 refine ar ∅ hf rfl (ρ:=[Z _,Z _]) rfl ?_
 unfold ij;nofun;refine⟨∅,∅,?_⟩
 rw[show((l:Int)+n-1) / n=(((l+n-1) / n:Nat):Int) by rw[Qy];congr 1;lia]
 exact q
theorem nM{l r:List Nat}{x:Nat}(e:q7 n=l++x::r):x=l.length/\x<n/\l=q7 x:=by
 have h1:x<n:=L9.mp (by rw[e];simp)
 have h2:(q7 n)[l.length]?=Z x:=by rw[e];simp
 have j:l.length<n:=by have:=congrArg Nb e;simp at this;lia
 rw[Lh j]at h2
 cases h2
 refine⟨rfl,h1,?_⟩;have z:(q7 n).take l.length=l:=by rw[e];simp
 rw[<-z,List.take_range,MW ∅]
 simp
end
section
open L2.Srt
variable{T:List FD}
noncomputable def tms(m n:Nat):Nat->Nat->Nat
 |0,_=>1
 |d+1,s=>if s=1 then 1 else m*tms m n d ((s+n-1) / n)
def Lim(m:Nat)(l:List Int):Prop:=∀x∈l,x.natAbs<2^m
theorem Lim.gz(h:Lim m l)(i:Int):(gz l i).natAbs<2^m:=by
 by_cases z:Mi.gz l i=0
 ·rw[z];exact Vt m
 ·obtain⟨h0,h1⟩:=eC z;have:l[i.toNat]?=Z (Mi.gz l i):=by
   have:=fF (l:=l) (k:=i.toNat) ∅
   rwa[show((i.toNat:Nat):Int)=i by lia]at this
  exact h _ (KZ this)
theorem Fk(h:∀q:Nat,q<l.length->(gz l (q:Nat)).natAbs<2^m):Lim m l:=λx hx=>by
 obtain⟨q,j,e⟩:=List.getElem_of_mem hx;have:=h q j
 rwa[iR (by rw[z0 j,e])]at this
theorem m7(hm:m<=1000){x:Int}(h:x.natAbs<2^m):Py x<=2^20:=LR (intBits_le_iff.mpr h) ∅
end
section
open L2.Srt
variable{T:List FD}
theorem oR{g:MG}{e:ME}{r:MSs}(h:wE Φ e ρ M λx j=>∃ρ',bG g x ρ=Z ρ'/\wSs Φ r E ρ' j):wSs Φ (.cons (.asg g e) r) E ρ M:=by rw[bj];exact h
theorem tD{s d:Nat}(j:2<=n)(hs:2<=s)(h:s<=2^(d+1)):(s+n-1) / n<=2^d/\1<=(s+n-1) / n/\s<=n*((s+n-1) / n)/\(s+n-1) / n<=s/\n*((s+n-1) / n)<=s+n:=by
 have e:=SN (s+n-1) n;have r:=VQ (s+n-1) (show n > 0 by lia)
 have h1:(s+n-1) / n<2^d+1:=Pj (by rw[Tg,Th];have:2*2^d<=n*2^d:=Mm _ j;rw[Nat.pow_succ]at h;lia)
 have h2:(s+n-1) / n<s+1:=Pj (by rw[Tg,Th];have:2*s<=n*s:=Mm _ j;lia)
 refine⟨∅,?_,∅,∅,∅⟩
 exact Nat.div_pos ∅ ∅
end
section
open L2.Srt
theorem GG{i:Nat}:gi l (i:Nat)=gz l (i:Nat):=by unfold gi gz;rw[if_neg ∅]
end
section
open L2.Srt
variable{T:List FD}
noncomputable def oS(s:Stmt):FD:=⟨"row_blocks",s,["row","n","wide","whole"],3,
 (.cons (.asg (.name 3) (.bin .add (.var 0) (.bin .mul (.lst (.cons (.int 0) .nil)) (.bin .sub (.bin .mul (.var 1) (.var 2)) (.blt .len (.cons (.var 0) .nil))))))
 (.cons (.ret (.comp [Y,(Z 3),(Z 2)] ["at","whole","wide"] (.last (.rng1 (.var 1)) (.name 0) .nil (.sl (.var 1) (.some (.bin .mul (.var 0) (.var 2))) (.some (.bin .mul (.bin .add (.var 0) (.int 1)) (.var 2)))))))
 .nil))⟩
theorem Fl{k:Nat}:gz (A++z4 k 0) i=gz A i:=by
 rw[ic]
 by_cases h:i<A.length
 ·rw[if_pos h]
 ·rw[if_neg h,kJ,di ∅]
theorem kT(hf:T[f]?=Z (oS s)){k:Nat}(hk:1<=k)(hn:n<=10)(hw:w<=100)(hA:A.length<=n*w)(ep:M p=Z (.lst (A.map .int)))(q:∀p' R M',Ge M M'->M p'=Y->RwAt M' p' R w->R.map (·.2)=blk n w A->Q (.ref p') M'):phi T k f [.ref p,.int n,.int w] M Q:=by
 have JJ:n*w<=10*100:=LF hn hw;refine ar ∅ hf rfl (ρ:=[Z _,Z _,Z _,Y]) rfl ?_
 unfold oS;nofun;refine⟨by rw[A0];decide,λp1 z=>⟨aZ ⟨∅,∅⟩,?_⟩⟩
 have g1:=Ge.new (o:=.lst [.int 0]) z;refine be (g1 _ _ ep) ?_;ac_nf;rw[m1,show(n:Int)*w-A.length=((n*w-A.length:Nat):Int) by rw[Int.ofNat_sub hA];simp]
 refine⟨_,aa,∅,∅,by rw[A0];simp;lia,λp2 B=>?_⟩
 rw[J4,v9];have g2:=g1.trans (Ge.new (o:=.lst ((z4 (n*w-A.length) (0:Int)).map D.int)) B);refine⟨_,_,g2 _ _ ep,aa,by rw[m1,m1,Ly,A0];lia,λpw F=>?_⟩
 rw[<-L3];have g3:=g2.trans (Ge.new (o:=.lst ((A++z4 (n*w-A.length) (0:Int)).map D.int)) F);have O:ag (ag (ag M p1 (.lst [.int 0])) p2 (.lst ((z4 (n*w-A.length) (0:Int)).map D.int))) pw (.lst ((A++z4 (n*w-A.length) (0:Int)).map D.int)) pw=_:=aa;generalize ag (ag (ag M p1 (.lst [.int 0])) p2 (.lst ((z4 (n*w-A.length) (0:Int)).map D.int))) pw (.lst ((A++z4 (n*w-A.length) (0:Int)).map D.int))=M3 at g3 O⊢;have G:(A++z4 (n*w-A.length) (0:Int)).length=n*w:=by rw[B0,Ly];lia
 have j:∀i,i<n->vd (A++z4 (n*w-A.length) (0:Int)) w i=(q7 w).map λx:Nat=>gz A (i*w+x:Nat):=λi hi=>by unfold vd;exact L8 λt _=>by rw[GG,Fl]
 generalize A++z4 (n*w-A.length) (0:Int)=W at O G j;clear g1 g2 z B F;nofun;refine⟨∅,∅,?_⟩
 rw[J4];refine av (f:=λi:Nat=>.int (i:Nat)) (ys:=q7 n) (I:=λl ρ M' acc=>(∃o0,ρ=[o0,Z (.ref pw),Z (.int w)])/\Ge M3 M'/\∃R:Bks,acc=R.map (λr=>.ref r.1)/\R.map (·.2)=l.map (λi:Nat=>(q7 w).map λx:Nat=>gz A (i*w+x:Nat))/\∀r∈R,M' r.1=Z (.lst (r.2.map .int))/\r.2.length=w) aS ⟨⟨_,rfl⟩,.refl,[],rfl,rfl,by simp⟩ (λ_ _ _ _ _=>trivial) ?_ ?_
 ·rintro l x r' ρ M1 acc e ⟨⟨o0,rfl⟩,g,R,rfl,eR,J⟩;refine⟨_,rfl,λN' U=>?_⟩;obtain⟨ex,hx,el⟩:=nM e;have Fn:R.length=l.length:=by have:=congrArg Nb eR;simpa using this
  ac_nf;refine⟨aZ ⟨∅,∅⟩,aZ ⟨∅,∅⟩,?_⟩
  rw[show(x:Int)*w=((x*w:Nat):Int) by simp,show((x:Int)+1)*w=((x*w+w:Nat):Int) by rw[NO,Mp];grind]
  refine⟨_,g _ _ O,λpr L=>?_⟩;rw[CP G hx,j x hx];refine⟨by rw[m1,Fn,<-ex,A0];lia,U _ _ _ ⟨⟨_,rfl⟩,g.trans (.new L),R++[(pr,(q7 w).map λt:Nat=>gz A (x*w+t:Nat))],by simp,by simp[eR],λu hu=>?_⟩⟩
  rcases Lo.mp hu with h|h
  ·exact⟨Ge.new L _ _ (J u h).1,(J u h).2⟩
  ·rw[Oa]at h;subst h;exact⟨aa,by simp⟩
 ·rintro ρ M1 acc ⟨_,g,R,rfl,eR,J⟩ p fv;exact q p R _ ((g3.trans g).trans (.new fv)) (kS (g3.trans g) fv) ⟨aa,λr hr=>⟨Ge.new fv _ _ (J r hr).1,(J r hr).2⟩⟩ eR
theorem y4{J L:Str}(O:ρ[4]?=Z (Z (.int (w:Nat))))(e1:ρ[1]?=Z (Z (.int (n:Nat))))(fv:1<=n/\n<=10)(hw:1<=w/\w<=100)(q:∀p R M',Ge M M'->RwAt M' p R (2*w-1)->R.map (·.2)=pln n w->Q (.ref p) M'):
 wE Φ (.comp [Y,(Z 4)] [J,L] (.last (.rng1 (.bin .sub (.bin .mul (.int 2) (.var 1)) (.int 1))) (.name 0) .nil (.lrng2 (.bin .mul (.var 0) (.var 1)) (.bin .sub (.bin .mul (.bin .add (.var 0) (.int 2)) (.var 1)) (.int 1))))) ρ M Q:=by
 ac_nf;refine⟨_,e1,?_⟩;ac_nf;refine⟨aZ ⟨by decide,by decide⟩,∅,∅,?_⟩
 rw[O,show(2*(n:Int)-1).toNat=2*n-1 by lia]
 simp only[Sd];refine av (f:=λi:Nat=>.int (i:Nat)) (ys:=q7 (2*n-1)) (I:=λl ρ M' acc=>(∃o0,ρ=[o0,Z (.int w)])/\Ge M M'/\∃R:Bks,acc=R.map (λr=>.ref r.1)/\R.map (·.2)=l.map (λk:Nat=>(q7 (2*w-1)).map λx:Nat=>((k*w:Nat):Int)+(x:Nat))/\∀r∈R,M' r.1=Z (.lst (r.2.map .int))/\r.2.length=2*w-1) aS ⟨⟨_,rfl⟩,.refl,[],rfl,rfl,by simp⟩ (λ_ _ _ _ _=>trivial) ?_ ?_
 ·rintro l x r' ρ' M1 acc e ⟨⟨o0,rfl⟩,g,R,rfl,eR,j⟩;refine⟨_,rfl,λN' B=>?_⟩;obtain⟨ex,hx,el⟩:=nM e;have F:R.length=l.length:=by have:=congrArg Nb eR;simpa using this
  have U:x*w<=20*100:=LF ∅ hw.2
  ac_nf;refine⟨aZ ⟨∅,∅⟩,aZ ⟨∅,∅⟩,((x*w:Nat):Int),2*w-1,?_,∅,∅,∅,λp z=>?_⟩
  ·have:((x:Int)+2)*w=((x*w:Nat):Int)+2*w:=by rw[Rz,Mp]
   rw[this,show(x:Int)*w=((x*w:Nat):Int) by simp]
   congr 3;lia
  ·rw[show((q7 (2*w-1)).map λk:Nat=>D.int (((x*w:Nat):Int)+(k:Nat)))=((q7 (2*w-1)).map λk:Nat=>((x*w:Nat):Int)+(k:Nat)).map .int by rw[LC];rfl]
   refine⟨by rw[m1,F,<-ex,A0];lia,B _ _ _ ⟨⟨_,rfl⟩,g.trans (.new z),R++[(p,(q7 (2*w-1)).map λk:Nat=>((x*w:Nat):Int)+(k:Nat))],by simp,by simp[eR],λu Fn=>?_⟩⟩
   rcases Lo.mp Fn with h|h
   ·exact⟨Ge.new z _ _ (j u h).1,(j u h).2⟩
   ·rw[Oa]at h;subst h;exact⟨aa,by simp⟩
 ·rintro ρ' M1 acc ⟨_,g,R,rfl,eR,j⟩ p z;exact q p R _ (g.trans (.new z)) ⟨aa,λr G=>⟨Ge.new z _ _ (j r G).1,(j r G).2⟩⟩ eR
noncomputable def jw(s:Stmt)(fbl fby frb fsl:Nat)(P:Wk)(pos:Pos)(q:Str):FD:=⟨"row_times",s,["scheme","n","one","other","wide","places","told","times"],4,
 (.cons (.ite (.cmp .eq (.blt .len (.cons (.var 2) .nil)) (.int 1)) (.cons (.ret (.tup (.cons (.lst (.cons (.bin .mul (.ix (.var 2) (.int 0)) (.ix (.var 3) (.int 0))) .nil)) (.cons (.int 1) .nil))))
 .nil) .nil)
 (.cons (.asg (.name 4) (.call fbl (.cons (.blt .len (.cons (.var 2) .nil)) (.cons (.var 1) .nil))))
 (.cons (.asg (.name 5) (.comp [Y,(Z 4)] ["k","wide"] (.last (.rng1 (.bin .sub (.bin .mul (.int 2) (.var 1)) (.int 1))) (.name 0) .nil (.lrng2 (.bin .mul (.var 0) (.var 1)) (.bin .sub (.bin .mul (.bin .add (.var 0) (.int 2)) (.var 1)) (.int 1))))))
 (.cons (.asg (.tup (.cons (.name 6) (.cons (.name 7) .nil))) (.callL fby (.cons (.var 0) (.cons (.call frb (.cons (.var 2) (.cons (.var 1) (.cons (.var 4) .nil)))) (.cons (.call frb (.cons (.var 3) (.cons (.var 1) (.cons (.var 4) .nil)))) (.cons (.var 5) .nil)))) fsl [0,1] [0,1,2,3] P pos q))
 (.cons (.ret (.tup (.cons (.sl (.var 6) .none (.some (.bin .sub (.bin .mul (.int 2) (.blt .len (.cons (.var 2) .nil))) (.int 1)))) (.cons (.var 7) .nil))))
 .nil)))))⟩
theorem tE{L:List Int}(G:n*1000<=2^20)(h:Lim m L)(j:l.length=n)(hs:∀x∈l,x.natAbs<=1000):Lim (m+20) (az (blk n w L) w (nz l)):=by
 refine Fk λq B=>?_;rw[eE (by rw[j,cz]) dh]at B
 rw[tu B (by rw[j,cz]) dh,j]
 have J:0<2^m:=Vt m;have g:=Ah (n:=n) (C:=1000*(2^m-1)) (F:=λi=>gz l (i:Nat)*gz ((blk n w L).getD i []) (q:Nat)) λi hi=>by
  rw[Int.natAbs_mul];refine LF ?_ ?_
  ·by_cases z:gz l (i:Nat)=0
   ·rw[z];decide
   ·exact hs _ (KZ (fF ∅))
  ·rw[ii hi]
   split
   ·have:=h.gz ((i*w:Nat)+(q:Nat):Int);lia
   ·exact N7 _
 refine Ul g ?_;rw[Nat.pow_add,<-RU,OI (2^m)];refine Ul (Mm _ G) (Nat.mul_lt_mul_of_pos_left ∅ (by decide))
theorem Aq(j:1<=n):(pln n w).getLast?=Z ((q7 (2*w-1)).map λx:Nat=>(((2*n-2)*w:Nat):Int)+(x:Nat)):=by rw[Px,fJ];unfold pln;rw[KL,Lh ∅,show 2*n-1-1=2*n-2 by lia];rfl
end
section
open L2.Srt
variable{T:List FD}
theorem D9{ds:List D}{a:Nat}(h:a<=ds.length):ca ds Y (Z (a:Int))=ds.take a:=by unfold ca;rw[HT.sIx_none,HT.sIx_nat,MW h,Tc,Nat.sub_zero]
theorem y6{fbl fby frb fs:Nat}{sbl sby srb ss:Stmt}{qn:Str}(hf:T[f]?=Z (jw s fbl fby frb f P pos qn))(JL:T[fbl]?=Z (ij sbl))(O:T[frb]?=Z (oS srb))(JM:T[fby]?=Z (kQ sby fs ff))(JN:T[fs]?=Z (ig ss ff))(JO:T[ff]?=Z (df sf))(h5:fs<5000/\ff<5000/\fby<1000)(h6:f<1000)(hn:2<=n/\n<=10){ps:List Pr}(JS:ps.length<=1000)(hT:∀k i j,Tn ps k i j=cf (aP n n) (k,i,j))(G:∀p∈ps,v8 n n (2*n-1) p){pp:Wk}{a0 a1 a2:D}:
 ∀{d s k m:Nat} {A B:List Int} {pA pB:Wk} {M:Mem} {Q:QD},1<=s->s<=2^d->s<=64->3*d+6<=k->m+20*d<=1000->A.length=s->B.length=s->Lim m A->Lim m B->M P=Z (.tab pos qn)->M pp=Z (.lst (ps.map prD))->M pA=Z (.lst (A.map .int))->M pB=Z (.lst (B.map .int))->
  (∀p M',Ge M M'->M p=Y->M' p=Z (.lst ((cv s A B).map .int))->Q (.tup [.ref p,.int (tms ps.length n d s:Nat)]) M')->phi T k f [.tup [a0,a1,a2,.ref pp],.int n,.ref pA,.ref pB] M Q:=by
 intro d;have base:∀{d k m:Nat} {A B:List Int} {pA pB:Wk} {M:Mem} {Q:QD},1<=k->m<=1000->A.length=1->B.length=1->Lim m A->Lim m B->M pA=Z (.lst (A.map .int))->M pB=Z (.lst (B.map .int))->
  (∀p M',Ge M M'->M p=Y->M' p=Z (.lst ((cv 1 A B).map .int))->Q (.tup [.ref p,.int (tms ps.length n d 1:Nat)]) M')->phi T k f [.tup [a0,a1,a2,.ref pp],.int n,.ref pA,.ref pB] M Q:=by
  intro d k m A B pA pB M Q hk hm lA lB bA bB eA eB q;refine ar ∅ hf rfl (ρ:=[Z _,Z _,Z _,Z _,Y,Y,Y,Y]) rfl ?_
  unfold jw;obtain⟨x,rfl⟩:=Qc.mp lA;obtain⟨y,rfl⟩:=Qc.mp lB;nofun;refine be eA ?_;ac_nf;rw[if_pos (by rfl)]
  nofun;refine aN eA (d:=.int x) rfl ?_;refine aN eB (d:=.int y) rfl ?_;refine wMul_i.mpr ⟨.inr (.inr ⟨m7 hm (bA x (by simp)),m7 hm (bB y (by simp))⟩),?_⟩
  refine⟨by rw[A0];decide,λp F=>⟨by rw[A0];decide,?_⟩⟩
  have e1:cv 1 [x] [y]=[x*y]:=by show[ak 1 _]=_;simp[ak,gz]
  have e2:tms ps.length n d 1=1:=by cases d<;>rfl
  rw[e1,e2]at q;exact q p _ (.new F) F aa
 induction d with
 |zero=>
  intro s k m A B pA pB M Q h1 h2 JP hk hm lA lB bA bB eP ep eA eB q;obtain rfl:s=1:=by simp at h2;lia
  exact base ∅ ∅ lA lB bA bB eA eB q
 |succ d ih=>
  intro s k m A B pA pB M Q h1 h2 JP hk hm lA lB bA bB eP ep eA eB q
  by_cases U:s=1
  ·subst U;exact base ∅ ∅ lA lB bA bB eA eB q
  refine ar ∅ hf rfl (ρ:=[Z _,Z _,Z _,Z _,Y,Y,Y,Y]) rfl ?_
  unfold jw;nofun;refine be eA ?_;ac_nf;rw[if_neg (by rw[m1,lA];simp;lia)]
  nofun;refine be eA ?_;rw[m1,lA];refine tz JL ∅ ∅ ∅ ?_
  have L:(s+n-1) / n<=2^d/\1<=(s+n-1) / n/\s<=n*((s+n-1) / n)/\(s+n-1) / n<=s/\n*((s+n-1) / n)<=s+n:=tD hn.1 ∅ h2
  have etm:tms ps.length n (d+1) s=ps.length*tms ps.length n d ((s+n-1) / n):=by show(if s=1 then 1 else _)=_;rw[if_neg U]
  generalize (s+n-1) / n=w at L etm⊢;obtain⟨L,JQ,JR,JT,JU⟩:=L;refine oR ?_;refine y4 (n:=n) (w:=w) rfl rfl ∅ ∅ λpP RP M1 g1 hP eRP=>?_
  refine⟨_,rfl,?_⟩;refine oR ?_;refine⟨[.tup [a0,a1,a2,.ref pp],.int n],rfl,?_⟩;dsimp only[wA,au,aW];refine⟨_,rfl,?_⟩;dsimp only;have Fn:RP.length=2*n-1:=by
   have:=congrArg Nb eRP
   rwa[m1,fJ]at this
  ac_nf;refine kT O ∅ ∅ ∅ ∅ (g1 _ _ eA) λpBL RL M4 g4 nL hL eRL=>?_
  ac_nf;refine kT O ∅ ∅ ∅ ∅ (g4 _ _ (g1 _ _ eB)) λpBR RR M5 g5 nR hR eRR=>?_
  have fv:=g4.trans g5;have J:=g1.trans fv;have lRL:RL.length=n:=by have:=congrArg Nb eRL;rwa[m1,cz]at this
  have lRR:RR.length=n:=by have:=congrArg Nb eRR;rwa[m1,cz]at this
  ac_nf;refine⟨J _ _ eP,λa ha=>?_⟩;have JJ:∀r∈RP,r.2∈pln n w:=λr hr=>by rw[<-eRP];exact L5 hr
  refine Fd (n:=k-1) (f:=fby) (js:=[0,1,2,3]) (gs:=[.tup [a0,a1,a2,.ref pp],.int n]) (W:=w) (V:=2*w-1) (N:=2*n*w-1) (mul:=cv w) (tm:=tms ps.length n d w) JM JN JO h5 ∅ h6 (J _ _ ep) (hL.ge g5) hR (hP.ge fv) ⟨∅,∅,∅,∅,∅,∅⟩ ∅ ⟨∅,∅⟩ ?_ ?_ ?_ ?_ ?_ ?_ ?_ ?_
  ·exact LR (Nat.sub_le _ _) (LR (LF (by lia:2*n<=20) (by lia:w<=100)) (by decide))
  ·exactλp F=>⟨by rw[lRL];exact(G p F).l0,by rw[lRR];exact(G p F).l1,by rw[Fn];exact(G p F).l2⟩
  ·exactλp F=>⟨λx hx=>by have:=(G p F).s0 x hx;lia,λx hx=>by have:=(G p F).s1 x hx;lia,λx hx=>by have:=(G p F).s2 x hx;lia⟩
  ·exactλr hr z hz=>y3 r.2 (JJ r hr) z hz
  ·have h1:(RP.map (·.2)).getLast?=_:=(congrArg List.getLast? eRP).trans (Aq ∅)
   rw[RA]at h1
   cases h2:RP.getLast? with
   |none=>rw[h2]at h1;cases h1
   |some r=>
    rw[h2]at h1;have h3:r.2=_:=Ml.inj h1;refine⟨r,rfl,?_⟩;rw[h3,Px,m1,Ld,KL,Lh ∅,Oh]
    congr 1;have e1:(2*n-2)*w+2*w=2*n*w:=by rw[<-NV];congr 1;lia
    have e2:1*w<=2*n*w:=Mm w ∅
    lia
  ·exactλp F=>fI
  ·intro p x y M6 Q6 F g6 ex ey q6;refine⟨rfl,CB ∅ ∅ ?_⟩
   have bnd:n*1000<=2^20:=∅
   rw[eRL]at ex q6;rw[eRR]at ey q6;refine ih (s:=w) (m:=m+20) JQ L ∅ ∅ ∅ (eE (by rw[cz];exact(G p F).l0) dh) (eE (by rw[cz];exact(G p F).l1) dh) (tE bnd bA (G p F).l0 λx hx=>by have:=(G p F).s0 x hx;lia) (tE bnd bB (G p F).l1 λx hx=>by have:=(G p F).s1 x hx;lia) (g6 _ _ (J _ _ eP)) (g6 _ _ (J _ _ ep)) ex ey q6
  ·intro p M6 g6 n6 e6;refine⟨_,rfl,?_⟩;rw[eRL,eRR,eRP]at e6;nofun;refine be (g6 _ _ (J _ _ eA)) ?_;ac_nf;rw[m1,lA];refine⟨aZ ⟨∅,∅⟩,?_⟩
   rw[show 2*(s:Int)-1=((2*s-1:Nat):Int) by lia]
   have hle:2*s-1<=2*n*w-1:=by rw[RU];lia
   refine⟨_,e6,λp7 JK=>⟨by rw[A0];decide,?_⟩⟩
   rw[D9 (by rw[m1,eW];exact hle),<-TX,D8 ∅ lA lB JR hT λp F=>⟨(G p F).l0,(G p F).l1,(G p F).l2⟩,<-etm]
   have gE:=(J.trans g6);exact q p7 _ (gE.trans (.new JK)) (kS gE JK) aa
end
section
open L2.Srt
variable{T:List FD}
noncomputable def r8(s:Stmt)(fbp fpl flt fta fpa:Nat):FD:=⟨"_law_line_scheme",s,["_law_box_here","_law_n","_law_scheme","_law_products","_law_l","_law_r","_law_o","_law_at"],2,
 (.cons (.asg (.name 2) (.ix (.lst (.cons (.call fbp (.cons (.var 1) .nil)) (.cons (.call fpl (.cons (.call flt (.cons (.var 1) (.cons (.var 1) .nil))) .nil)) .nil))) (.call fta (.cons (.var 0) (.cons (.int 2) .nil)))))
 (.cons (.asg (.name 3) (.blt .list (.cons (.ix (.var 2) (.int 3)) .nil)))
 (.cons (.ite (.cmp .eq (.call fta (.cons (.var 0) (.cons (.int 3) .nil))) (.int 0)) (.cons (.asgL (.cons (.name 4) (.cons (.name 5) (.cons (.name 6) .nil))) (.comp [Y,(Z 0)] ["_law_length","_law_box_here"] (.last (.seq (.tup (.cons (.var 1) (.cons (.var 1) (.cons (.bin .sub (.bin .mul (.int 2) (.var 1)) (.int 1)) .nil))))) (.name 0) .nil (.call fpa (.cons (.var 1) (.cons (.var 0) .nil))))))
 (.cons (.drop (.ins (.var 3) (.call fta (.cons (.var 0) (.cons (.bin .add (.blt .len (.cons (.var 3) .nil)) (.int 1)) .nil))) (.tup (.cons (.var 4) (.cons (.var 5) (.cons (.var 6) .nil))))))
 (.cons (.drop (.meth .append (.var 3) (.tup (.cons (.var 4) (.cons (.var 5) (.cons (.blt .tuple (.cons (.comp [Y] ["_law_c"] (.last (.seq (.var 6)) (.name 0) .nil (.bin .sub (.int 0) (.var 0)))) .nil)) .nil))))))
 .nil))) .nil)
 (.cons (.asg (.name 7) (.call fta (.cons (.var 0) (.cons (.blt .len (.cons (.var 3) .nil)) .nil))))
 (.cons (.ret (.tup (.cons (.var 1) (.cons (.var 1) (.cons (.bin .sub (.bin .mul (.int 2) (.var 1)) (.int 1)) (.cons (.bin .add (.sl (.var 3) (.some (.var 7)) .none) (.sl (.var 3) .none (.some (.var 7)))) .nil))))))
 .nil)))))⟩
structure LS(n c:Nat)(ps:List Pr):Prop where
 ne:ps≠[]
 len:ps.length<=c
 pr:∀p∈ps,v8 n n (2*n-1) p
 tn:∀k i j,Tn ps k i j=cf (aP n n) (k,i,j)
theorem m8(h:Within 1 l):cy l:=λx hx=>by have:=h x hx;lia
theorem B9(h1:1<=n)(F:n<=5):LS n 27 (bp n):=by
 have B:=qU (n:=n);have h:n*(n+1)<=5*6:=LF F ∅
 have h':1*2<=n*(n+1):=LF h1 ∅
 refine⟨λz=>by rw[z]at B;simp at B;lia,∅,λp G=>?_,λk i j=>(tj bp_pp).trans GA⟩
 have:=fE p (bp_pp.mem_iff.mp G);exact⟨this.l0,this.l1,this.l2,m8 this.e0,m8 this.e1,m8 this.e2⟩
theorem Da{fbp fpl flt fta fpa:Nat}{s2 s3 s4 s5 s6 s7:Stmt}(hf:T[f]?=Z (r8 s fbp fpl flt fta fpa))(JZ:T[fpl]?=Z (iQ s1 f1))(JT:T[f1]?=Z (dR s2))(Fn:T[flt]?=Z (kF s3 ft))(ht:T[ft]?=Z (i8 s4))(K0:T[fbp]?=Z (vg s5 fo fp))(K1:T[fo]?=Z (kL s6 f1))(K5:T[fp]?=Z (kM s7 f1)){k:Nat}(hk:6<=k)(fv:kD T (k-1) fta)(JO:xK T (k-1) fpa)(JP:2<=n/\n<=5)(hb:Box b M)(q:∀ps p M',LS n 29 ps->Bx b M M'->M p=Y->M' p=Z (.lst (ps.map prD))->Q (.tup [.int n,.int n,.int (2*n-1:Nat),.ref p]) M'):phi T k f [.ref b,.int n] M Q:=by
 refine ar ∅ hf rfl (ρ:=[Z _,Z _,Y,Y,Y,Y,Y,Y]) rfl ?_
 unfold r8;have Kb:n*n<=25:=LF JP.2 JP.2;refine gB (λρ M'=>∃ps p,ρ=[Z (.ref b),Z (.int n),Z (.tup [.int n,.int n,.int (2*n-1:Nat),.ref p]),Y,Y,Y,Y,Y]/\Bx b M M'/\M' p=Z (.lst (ps.map prD))/\LS n 27 ps) (λR hR=>?_) ?_
 ·ac_nf;refine B5 K0 K1 K5 JT ∅ ∅ ∅ λpa Ma ga na ea=>?_
  ac_nf;refine sZ Fn ht ∅ ∅ ∅ ∅ λrs a M1 hT g1 n1 e1=>?_
  rw[show(n:Int)+n-1=((2*n-1:Nat):Int) by lia]
  have hlen:rs.length<=25:=by have:=hT.len;rw[gD]at this;lia
  have hI:InB rs n n (2*n-1):=by
   have:=lY hT ∅
   rwa[show n+n-1=2*n-1 by lia]at this
  have JQ:∀k,-25<=cf rs k/\cf rs k<=25:=λk=>by
   rw[hT.cf];have:=Ab (ts:=aP n n) (B:=1) ∅ (λt ht=>by have:=(Aj ht).2;lia) (k:=k)
   rw[gD]at this;lia
  refine qV JZ JT ∅ ∅ ∅ ∅ e1 hT.nodup hI ∅ λp M2 g2 n2 e2=>?_
  ac_nf;refine⟨by rw[A0];decide,λpz K6=>?_⟩
  have gz':=Ge.new (o:=.lst [.tup [.int n,.int n,.int (2*n-1:Nat),.ref pa],.tup [.int n,.int n,.int (2*n-1:Nat),.ref p]]) K6;have g3:=((ga.trans g1).trans g2).trans gz';have x3:=Bx.of hb g3;have e3:=aa (M:=M2) (a:=pz) (o:=.lst [.tup [.int n,.int n,.int (2*n-1:Nat),.ref pa],.tup [.int n,.int n,.int (2*n-1:Nat),.ref p]]);have ea:=gz' _ _ (g2 _ _ (g1 _ _ ea));have e2:=gz' _ _ e2;generalize ag M2 pz (.lst [.tup [.int n,.int n,.int (2*n-1:Nat),.ref pa],.tup [.int n,.int n,.int (2*n-1:Nat),.ref p]])=M3 at x3 e3 ea e2⊢;refine fv x3.box (by decide) (by decide) λv M4 v0 v1 J=>?_
  have nb:∀{a:Wk} {o:O},M3 a=Z o->(∀x y z:Int,o≠.lst [.int x,.int y,.int z])->a≠b:=λ{a o} h1 h2 z=>by obtain⟨x,y,z',e⟩:=x3.box;rw[<-z,h1]at e;exact h2 _ _ _ (Ml.inj e)
  have nbp:∀{a:Wk} {ps:List Pr},M3 a=Z (.lst (ps.map prD))->LS n 27 ps->a≠b:=λh1 G=>nb h1 λx y z=>by
   intro e
   cases h:(_:List Pr)with
   |nil=>exact G.ne h
   |cons u r=>rw[h]at e;cases e
  have JU:=B9 (n:=n) ∅ JP.2
  have JV:LS n 27 (pl n n (2*n-1) rs (q7 n)):=by
   refine⟨?_,?_,?_,?_⟩
   ·intro z;have h:cf (aP n n) (0,0,0)=0:=by
     rw[<-hT.cf,<-oQ hI,z];rfl
    rw[bN,if_pos ∅]at h
    cases h
   ·have:=B6 hI;lia
   ·exact GD λk=>by have:=JQ k;lia
   ·exactλk i j=>by rw[oQ hI,hT.cf]
  have JW:=J.keep _ _ (nb e3 λx y z e=>by cases e) e3
  have JX:=x3.trans J;have L:v=0∨v=1:=∅
  rcases L with rfl|rfl
  ·exact aN JW (d:=.tup [.int n,.int n,.int (2*n-1:Nat),.ref pa]) rfl (hR _ _ ⟨_,_,rfl,JX,J.keep _ _ (nbp ea JU) ea,JU⟩)
  ·exact aN JW (d:=.tup [.int n,.int n,.int (2*n-1:Nat),.ref p]) rfl (hR _ _ ⟨_,_,rfl,JX,J.keep _ _ (nbp e2 JV) e2,JV⟩)
 rintro ρ M1 ⟨ps,p,rfl,x1,e1,G⟩;nofun;refine⟨_,rfl,_,_,rfl,ai e1,λp3 JJ=>?_⟩;have F:p3≠b:=λz=>by obtain⟨_,_,_,e⟩:=x1.box;rw[<-z,JJ]at e;cases e
 have n3:=x1.none JJ F;have x3:=x1.ge (Ge.new (o:=.lst (ps.map prD)) JJ);have e3:=aa (M:=M1) (a:=p3) (o:=.lst (ps.map prD));generalize ag M1 p3 (.lst (ps.map prD))=M3 at x3 e3⊢;generalize D.tup [.int n,.int n,.int (2*n-1:Nat),.ref p]=sch;refine gB (λρ M'=>∃ps o4 o5 o6,ρ=[Z (.ref b),Z (.int n),Z sch,Z (.ref p3),o4,o5,o6,Y]/\Bx b M M'/\M' p3=Z (.lst (ps.map prD))/\LS n 29 ps) (λR hR=>?_) ?_
 ·ac_nf;refine fv x3.box (by decide) (by decide) λv M4 v0 v1 J=>?_
  have e4:=J.keep _ _ F e3;have J:=x3.trans J;ac_nf
  by_cases L:v=0
  ·rw[if_pos (by simp[L])]
   nofun;refine⟨aZ ⟨by decide,by decide⟩,by rw[A0];decide,?_⟩
   rw[show 2*(n:Int)-1=((2*n-1:Nat):Int) by lia]
   refine av (f:=λi:Nat=>.int (i:Nat)) (ys:=[n,n,2*n-1]) (I:=λl ρ M' acc=>(∃o0,ρ=[o0,Z (.ref b)])/\Bx b M M'/\M' p3=Z (.lst (ps.map prD))/\∃vs:List (List Int),acc=vs.map (λv=>.tup (v.map .int))/\vs.map Nb=l/\∀v∈vs,cy v) rfl ⟨⟨_,rfl⟩,J,e4,[],rfl,rfl,by simp⟩ (λ_ _ _ _ _=>trivial) ?_ ?_
   ·rintro l i r ρ M5 acc e ⟨⟨o0,rfl⟩,U,e5,vs,rfl,hl,L⟩;refine⟨_,rfl,fun N' JR=>?_⟩;have Fn:=ax e;have hi:i=n∨i=2*n-1:=by
     have:i∈[n,n,2*n-1]:=by rw[e];simp
     simp only[D1,Lb,or_false]at this
     rcases this with h|h|h
     ·exact .inl h
     ·exact .inl h
     ·exact .inr h
    have Kc:vs.length=l.length:=by rw[<-hl,m1]
    ac_nf;refine JO ∅ U.box λns M6 K7 K8 x6=>?_
    refine⟨by rw[m1,A0];simp at Fn;lia,JR _ _ _ ⟨⟨_,rfl⟩,U.trans x6,x6.keep _ _ F e5,vs++[ns],by simp,by simp[hl,K7],λv K9=>?_⟩⟩
    rcases Lo.mp K9 with h|h
    ·exact L v h
    ·rw[Oa]at h;subst h;exact K8
   ·rintro ρ M5 acc ⟨⟨o0,rfl⟩,U,e5,vs,rfl,hl,L⟩ pv hpv;obtain⟨l,r,o,rfl⟩:∃l r o,vs=[l,r,o]:=by
     have h3:vs.length=3:=by have:=congrArg Nb hl;simpa using this
     match vs,h3 with
     |[l,r,o],_=>exact⟨l,r,o,rfl⟩
    simp only[KI,Om,OU,and_true]at hl;refine⟨_,aa,_,rfl,?_⟩;have gv:=Ge.new (o:=.lst ([l,r,o].map λv=>.tup (v.map .int))) hpv;have e6:=gv _ _ e5;have x6:=U.ge gv;have JK:=Qo hl.1 (L l (by simp))
    have JL:=Qo hl.2.1 (L r (by simp))
    have JM:=Qo hl.2.2 (L o (by simp))
    generalize ag M5 pv (.lst ([l,r,o].map λv=>.tup (v.map .int)))=M6 at gv e6 x6⊢;clear L e5 U gv hpv J e4;nofun;refine⟨⟨_,e6⟩,be e6 ?_⟩;ac_nf;rw[m1];refine fv x6.box ∅ (by have:=G.len;lia) λw M7 w0 w1 x7=>?_
    have e7:=x7.keep _ _ F e6;have x7:=x6.trans x7;refine⟨by rw[A0];lia,?_⟩
    refine⟨_,_,_,_,rfl,rfl,e7,w0,by rw[m1];lia,by rw[m1,A0];have:=G.len;lia,?_⟩
    have eq:(ps.map prD).take w.toNat++D.tup [D.tup (l.map D.int),D.tup (r.map D.int),D.tup (o.map D.int)]::(ps.map prD).drop w.toNat=(ps.take w.toNat++(l,r,o)::ps.drop w.toNat).map prD:=by rw[L3,KI,TX,List.map_drop];rfl
    rw[eq];have JY:∀p∈ps.take w.toNat++(l,r,o)::ps.drop w.toNat,v8 n n (2*n-1) p:=λy hy=>by
     rcases Lo.mp hy with h|h
     ·exact G.pr y (Ti h)
     ·rcases D1.mp h with rfl|h
      ·exact⟨JK.1,JL.1,JM.1,JK.2,JL.2,JM.2⟩
      ·exact G.pr y (Tj h)
    have hT:∀k i j,Tn (ps.take w.toNat++(l,r,o)::ps.drop w.toNat) k i j=Tn ps k i j+tm (l,r,o) k i j:=λk i j=>F7;have hlen:(ps.take w.toNat++(l,r,o)::ps.drop w.toNat).length<=28:=by have:=G.len;rw[B0,La,Ll,N6];lia
    generalize ps.take w.toNat++(l,r,o)::ps.drop w.toNat=qs at JY hT hlen⊢;have e8:=aa (M:=M7) (a:=p3) (o:=.lst (qs.map prD));have x8:=x7.upd (o:=.lst (qs.map prD)) n3 F;generalize ag M7 p3 (.lst (qs.map prD))=M8 at e8 x8⊢;clear e7 x7 e6 x6;nofun;refine⟨⟨_,e8⟩,?_⟩;refine av (f:=.int) (ys:=o) (I:=λl ρ M' acc=>(∃o0,ρ=[o0])/\M'=M8/\acc=(ngL l).map .int) rfl ⟨⟨_,rfl⟩,rfl,rfl⟩ (λ_ _ _ _ _=>trivial) ?_ ?_
    ·rintro l2 y r2 ρ M9 acc e ⟨⟨o0,rfl⟩,rfl,rfl⟩;refine⟨_,rfl,λN' JR=>?_⟩;have Fn:=ax e;ac_nf;exact⟨by rw[m1,xV,A0];lia,JR _ _ _ ⟨⟨_,rfl⟩,rfl,by simp[ngL]⟩⟩
    ·rintro ρ M9 acc ⟨_,rfl,rfl⟩ p9 hp9;refine⟨_,_,rfl,ai aa,?_⟩;have g9:=Ge.new (o:=.lst ((ngL o).map .int)) hp9;have e9:=g9 _ _ e8;have x9:=x8.ge g9;generalize ag M9 p9 (.lst ((ngL o).map .int))=M10 at g9 e9 x9⊢;refine⟨by rw[A0];decide,p3,_,_,rfl,rfl,e9,by rw[m1,A0];lia,?_⟩
     refine hR _ _ ⟨qs++[(l,r,ngL o)],_,_,_,rfl,x9.upd n3 F,by rw[aa,L3];rfl,by simp,by rw[B0,Mt];lia,λy hy=>?_,λk i j=>?_⟩
     ·rcases Lo.mp hy with h|h
      ·exact JY y h
      ·rw[Oa]at h;subst h;exact⟨JK.1,JL.1,by rw[xV];exact JM.1,JK.2,JL.2,Al JM.2⟩
     ·have:=GF (l:=l) (r:=r) (o:=o) (k:=k) (i:=i) (j:=j);rw[dA,ve,hT,G.tn,show Tn [] k i j=0 from rfl];lia
  ·rw[if_neg (by simp[L])]
   exact hR _ _ ⟨_,_,_,_,rfl,J,e4,G.ne,by have:=G.len;lia,G.pr,G.tn⟩
 clear G e3 e1 JJ x3 ps x1;rintro ρ M4 ⟨ps,o4,o5,o6,rfl,J,e4,G⟩;nofun;refine be e4 ?_;rw[m1];have Ka:=QW.mpr G.ne;have hlen:=G.len;refine fv J.box ∅ ∅ λv M5 v0 v1 U=>?_
 have e5:=U.keep _ _ F e4;have U:=J.trans U;obtain⟨a,rfl⟩:=Lp v0;have JN:a<=ps.length:=∅
 nofun;refine⟨aZ ⟨by decide,by decide⟩,?_⟩
 refine⟨_,e5,λpa JO=>?_⟩;have ga:=Ge.new (o:=.lst (ca (ps.map prD) (Z (a:Int)) Y)) JO;refine⟨_,ga _ _ e5,λpb F=>?_⟩;have gb:=ga.trans (Ge.new (o:=.lst (ca (ps.map prD) Y (Z (a:Int)))) F);refine⟨_,_,Ge.new F _ _ aa,aa,?_,λpc JS=>⟨by rw[A0];decide,?_⟩⟩
 ·rw[xX (by simpa using JN),xW (by simpa using JN),A0,Ll,N6,m1];lia
 have Kd:=U.box;have xb:=U.ge gb;have JQ:pc≠b:=λz=>by obtain⟨_,_,_,e⟩:=xb.box;rw[<-z,JS]at e;cases e
 rw[show 2*(n:Int)-1=((2*n-1:Nat):Int) by lia]
 refine q (ps.drop a++ps.take a) pc _ ⟨?_,?_,λy hy=>?_,λk i j=>?_⟩ (xb.ge (.new JS)) (xb.none JS JQ) ?_
 ·intro z;have:=congrArg Nb z;rw[B0,Ll,N6,MV]at this;lia
 ·rw[B0,Ll,N6];lia
 ·rcases Lo.mp hy with h|h
  ·exact G.pr y (Tj h)
  ·exact G.pr y (Ti h)
 ·rw[Fc,G.tn]
 ·rw[aa,xX (by simpa using JN),xW (by simpa using JN),<-TX,<-List.map_drop,<-L3]
end
section
open L2.Srt
noncomputable def ev(b:Int):List Int->Int
 |[]=>0
 |x::l=>x+b*ev b l
def Dg(b:Int)(l:List Int):Prop:=∀x∈l,0<=x/\x<b
def Lz(R:List Int):Prop:=∀x,R.getLast?=Z x->x≠0
structure Nm(b:Int)(F:List Int):Prop where
 dg:Dg b F
 ex:∃x R,F=x::R/\Lz R
theorem tF{b:Int}:∀l:List Int,ev b (l++[0])=ev b l
 |[]=>by simp[ev]
 |x::l=>by show x+b*ev b (l++[0])=x+b*ev b l;rw[tF l]
theorem ik{b:Int}{l:List Int}:∀k:Nat,ev b (l++z4 k 0)=ev b l
 |0=>by simp
 |k+1=>by rw[List.replicate_succ',<-Lx,tF,ik k]
theorem Lz.tail{x:Int}(h:Lz (x::y::l)):Lz (y::l):=λz j=>h z (by rw[Q0];exact j)
theorem r9{b:Int}(F:1<=b):∀{l:List Int},Dg b l->Lz l->l≠[]->0<ev b l
 |[],_,_,h=>absurd rfl h
 |[x],h,j,_=>by have h1:=(h x KW).1;have h2:=j x rfl;show 0<x+b*0;lia
 |x::y::l,h,j,_=>by
  have h1:=(h x KW).1;have ih:=r9 F (λz B=>h z (KP _ B)) j.tail (by simp)
  have:=Int.mul_pos (show 0<b by lia) ih
  show 0<x+b*ev b (y::l);lia
theorem rc{b x:Int}(h:0<=x/\x<b):(ev b (x::l))%b=x:=by show(x+b*ev b l)%b=x;rw[Int.add_mul_emod_self_left];exact UL h.1 h.2
theorem rf{b x:Int}(h:0<=x/\x<b):(ev b (x::l)) / b=ev b l:=by show(x+b*ev b l) / b=_;rw[Int.add_mul_ediv_left _ _ ∅,SD h.1 h.2];lia
theorem Ba{b:Int}(j:1<=b/\b<=1000):∀{l:List Int},Dg b l->0<=ev b l/\ev b l<1024^l.length
 |[],_=>by simp[ev]
 |x::l,h=>by
  obtain⟨z,F⟩:=Ba j (l:=l) λy B=>h y (KP _ B);have h1:=h x KW;have h2:b*ev b l<=1000*ev b l:=Int.mul_le_mul_of_nonneg_right j.2 z;have G:=Nv (show 0<=b by lia) z
  refine⟨by show 0<=x+b*ev b l;lia,?_⟩
  rw[La,SF];show x+b*ev b l<_;lia
theorem tG{b:Int}(j:1<=b/\b<=1000)(h:Dg b l)(z:l.length<=100):Py (ev b l)<=2^20:=by
 obtain⟨h1,h2⟩:=Ba j h;refine m7 (m:=1000) (by decide) ?_
 have G:(1024:Int)^l.length<=1024^100:=by exact_mod_cast Nat.pow_le_pow_right (show 0<1024 by decide) z
 have B:((ev b l).natAbs:Int)<1024^100:=∅
 have F:((ev b l).natAbs:Int)<((2^1000:Nat):Int):=by rw[show((2^1000:Nat):Int)=1024^100 by decide +kernel];exact B
 exact_mod_cast F
theorem iS{b:Int}:∀{l:List Int},ev b l=ak l.length λi=>gz l (i:Nat)*b^i
 |[]=>rfl
 |x::l=>by
  rw[La,nG];show x+b*ev b l=_;rw[iS (l:=l),<-ck,cL,if_pos (by rfl)]
  congr 1
  ·simp
  ·refine al λi _=>?_;rw[cL,if_neg ∅,SF,show((i+1:Nat):Int)-1=(i:Nat) by lia]
   grind
theorem gH{n:Nat}{F:Nat->Int}:∀k:Nat,ak (n+k) F=ak n F+ak k λj=>F (n+j)
 |0=>by show _=_+0;simp
 |k+1=>by rw[<-TV,rsum_succ,gH k,rsum_succ];lia
theorem Bb{b:Int}{s:Nat}(G:A.length=s)(J:B.length=s)(h1:1<=s):ev b (cv s A B)=ev b A*ev b B:=by
 have e1:ev b (cv s A B)=ak (2*s-1) λz=>cvz s A B (z:Nat)*b^z:=by rw[iS,fI];exact al λz _=>by rw[vh ∅]
 have e2:(ak (2*s-1) λz=>cvz s A B (z:Nat)*b^z)=ak (2*s-1) λz=>ak s λi=>gz A (i:Nat)*gz B ((z:Nat)-(i:Nat))*b^z:=al λz _=>by unfold cvz;rw[<-i9]
 rw[e1,e2,dy];have L:∀i,i<s->(ak (2*s-1) λz=>gz A (i:Nat)*gz B ((z:Nat)-(i:Nat))*b^z)=gz A (i:Nat)*b^i*ev b B:=λi hi=>by
  obtain⟨r,O⟩:∃r,2*s-1=i+(s+r):=⟨s-1-i,∅⟩
  rw[O,gH,gH,aO,iS,J,aO (n:=r),Int.zero_add,Int.add_zero,<-ck]
  ·refine al λj F=>?_;rw[show((i+j:Nat):Int)-(i:Nat)=(j:Nat) by lia,Int.pow_add]
   grind
  ·intro j F;rw[di (l:=B) ∅];simp
  ·intro j F;rw[di (l:=B) ∅];simp
 rw[al L,i9,iS (l:=A),G]
end
section
open L2.Srt
variable{T:List FD}
noncomputable def kU(s:Stmt):FD:=⟨"figures_of",s,["number","base","figures","rest"],2,
 (.cons (.asg (.name 2) (.lst (.cons (.bin .mod (.var 0) (.var 1)) .nil)))
 (.cons (.asg (.name 3) (.bin .fdiv (.var 0) (.var 1)))
 (.cons (.while (.cmp .gt (.var 3) (.int 0)) (.cons (.drop (.meth .append (.var 2) (.bin .mod (.var 3) (.var 1))))
 (.cons (.asg (.name 3) (.bin .fdiv (.var 3) (.var 1)))
 .nil)))
 (.cons (.ret (.var 2))
 .nil))))⟩
noncomputable def rh(s:Stmt)(ff fr:Nat):FD:=⟨"long_product",s,["scheme","n","one","other","base","left","right","length","row","times","product","x"],5,
 (.cons (.par 5 6 (.call ff (.cons (.var 2) (.cons (.var 4) .nil))) (.call ff (.cons (.var 3) (.cons (.var 4) .nil))))
 (.cons (.asg (.name 7) (.blt .max2 (.cons (.blt .len (.cons (.var 5) .nil)) (.cons (.blt .len (.cons (.var 6) .nil)) .nil))))
 (.cons (.asg (.tup (.cons (.name 8) (.cons (.name 9) .nil))) (.call fr (.cons (.var 0) (.cons (.var 1) (.cons (.bin .add (.var 5) (.bin .mul (.lst (.cons (.int 0) .nil)) (.bin .sub (.var 7) (.blt .len (.cons (.var 5) .nil))))) (.cons (.bin .add (.var 6) (.bin .mul (.lst (.cons (.int 0) .nil)) (.bin .sub (.var 7) (.blt .len (.cons (.var 6) .nil))))) .nil))))))
 (.cons (.asg (.name 10) (.int 0))
 (.cons (.for (.name 11) (.rev (.var 8)) (.cons (.asg (.name 10) (.bin .add (.bin .mul (.var 10) (.var 4)) (.var 11)))
 .nil))
 (.cons (.ret (.tup (.cons (.var 10) (.cons (.var 9) .nil))))
 .nil))))))⟩
theorem tH(hf:T[f]?=Z (kU s)){k:Nat}(hk:1<=k){b:Int}(hb:1<=b/\b<=1000){F:List Int}(Fn:Nm b F)(fv:F.length<=100)(q:∀p M',Ge M M'->M p=Y->M' p=Z (.lst (F.map .int))->Q (.ref p) M'):phi T k f [.int (ev b F),.int b] M Q:=by
 obtain⟨j,x,R,rfl,J⟩:=Fn;have hx:=j x KW;refine ar ∅ hf rfl (ρ:=[Z _,Z _,Y,Y]) rfl ?_
 unfold kU;nofun;rw[rc hx];refine⟨∅,by rw[A0];decide,λp O=>?_⟩
 nofun;rw[rf hx];refine⟨∅,∅,?_⟩
 nofun;refine⟨R.length+1,?_⟩;have g:∀(o0:Option D) (R G:List Int) (M':Mem),Dg b R->Lz R->G.length+R.length<=100->Ge M M'->M' p=Z (.lst (G.map .int))->(∀M',Ge M M'->M' p=Z (.lst ((G++R).map .int))->Q (.ref p) M')->
  aH (fU (wOp wGt (dD 3) (wC (.int 0)))) (wSs (phi T (k-1)) (.cons (.drop (.meth .append (.var 2) (.bin .mod (.var 3) (.var 1)))) (.cons (.asg (.name 3) (.bin .fdiv (.var 3) (.var 1))) .nil)))
   {nx:=wSs (phi T (k-1)) (.cons (.ret (.var 2)) .nil) {nx:=λ_ M'=>Q .non M',rt:=Q},rt:=Q} (R.length+1) [o0,Z (.int b),Z (.ref p),Z (.int (ev b R))] M':=by
  intro o0 R
  induction R with
  |nil=>
   intro G M' _ _ _ g' e' q';rw[MV,aH];ac_nf;rw[if_neg (by simp[ev])]
   nofun;exact q' _ g' (by rw[Mz];exact e')
  |cons y R ih=>
   intro G M' j J hlen g' e' q';have L:=j y KW;rw[La,aH];have B:=r9 (b:=b) ∅ j J (by simp)
   ac_nf;rw[if_pos (by simpa using B)]
   nofun;refine⟨⟨_,e'⟩,∅,⟨p,_,_,rfl,rfl,e',by rw[m1,A0];rw[La]at hlen;lia,?_⟩⟩
   rw[rc L];nofun;rw[rf L];refine⟨∅,∅,?_⟩
   have U:Lz R:=by
    cases R with
    |nil=>intro z h;cases h
    |cons a R=>exact J.tail
   exact ih (G++[y]) _ (λz h=>j z (KP _ h)) U (by simp at hlen⊢;lia) (kR g' O) (by rw[aa,L3];rfl) λM2 g2 e2=>q' M2 g2 (by rw[e2,Lx];rfl)
 exact g _ R [x] _ (λy L=>j y (KP _ L)) J (by simp at fv⊢;lia) (.new O) aa λM' g' e'=>q p M' g' O e'
theorem oT{i:Nat}{F:List Int}(ei:ρ[i]?=Z (Z (.ref p)))(G:ρ[7]?=Z (Z (.int (L:Nat))))(ep:M p=Z (.lst (F.map .int)))(h:F.length<=L)(J:L<=1000)(q:∀p' M',Ge M M'->M' p'=Z (.lst ((F++z4 (L-F.length) 0).map .int))->Q (.ref p') M'):
 wE Φ (.bin .add (.var i) (.bin .mul (.lst (.cons (.int 0) .nil)) (.bin .sub (.var 7) (.blt .len (.cons (.var i) .nil))))) ρ M Q:=by
 ac_nf;refine⟨_,ei,by rw[A0];decide,λO j=>⟨_,G,_,ei,?_⟩⟩
 have g1:=Ge.new (o:=.lst [.int 0]) j;refine be (g1 _ _ ep) ?_;ac_nf;rw[m1,show(L:Int)-F.length=((L-F.length:Nat):Int) by lia]
 refine⟨_,aa,∅,∅,by rw[A0];simp;lia,λp2 z=>?_⟩
 rw[J4,v9];have g2:=g1.trans (Ge.new (o:=.lst ((z4 (L-F.length) (0:Int)).map D.int)) z);refine⟨_,_,g2 _ _ ep,aa,by rw[m1,m1,Ly,A0];lia,λpw B=>?_⟩
 rw[<-L3];exact q pw _ (g2.trans (.new B)) aa
theorem iT{b:Int}(j:1<=b/\b<=1000){F:List Int}(h:Dg b F){k:Nat}:Big (F++z4 k 0):=λx hx=>by
 rcases Lo.mp hx with h1|h1
 ·have:=h x h1;lia
 ·rw[RT h1];decide
theorem Db{fr:Nat}(hf:T[f]?=Z (rh s ff fr))(O:T[ff]?=Z (kU sf)){k:Nat}(hk:2<=k){b:Int}(fv:1<=b/\b<=1000){F G:List Int}(hF:Nm b F)(hG:Nm b G)(lF:F.length<=60)(lG:G.length<=60){sch:D}{tm:Nat->Nat}(JJ:∀{sz:Nat} {A B:List Int} {pA pB:Wk} {z:Mem} {Q1:QD},1<=sz->sz<=60->A.length=sz->B.length=sz->Big A->Big B->Ge M z->z pA=Z (.lst (A.map .int))->z pB=Z (.lst (B.map .int))->(∀p M',Ge z M'->z p=Y->M' p=Z (.lst ((cv sz A B).map .int))->Q1 (.tup [.ref p,.int (tm sz:Nat)]) M')->phi T (k-1) fr [sch,.int n,.ref pA,.ref pB] z Q1)(q:∀M',Ge M M'->Q (.tup [.int (ev b F*ev b G),.int (tm (max F.length G.length):Nat)]) M'):phi T k f [sch,.int n,.int (ev b F),.int (ev b G),.int b] M Q:=by
 refine ar ∅ hf rfl (ρ:=[Z _,Z _,Z _,Z _,Z _,Y,Y,Y,Y,Y,Y,Y]) rfl ?_
 unfold rh;nofun;refine tH O ∅ fv hF ∅ λp1 z g1 n1 e1=>?_
 ac_nf;refine tH O ∅ fv hG ∅ λp2 M2 g2 n2 e2=>?_
 ac_nf;nofun;have e1:=g2 _ _ e1;refine be e1 ?_;refine be e2 ?_;ac_nf;rw[m1,m1];have JK:(if(F.length:Int)<G.length then(G.length:Int)else F.length)=((max F.length G.length:Nat):Int):=by split<;>lia
 rw[JK];have U:F.length<=max F.length G.length:=Vu ..;have Fn:G.length<=max F.length G.length:=V9 ..;have j:1<=max F.length G.length/\max F.length G.length<=60:=by
  obtain⟨x,R,e,_⟩:=hF.ex;have:1<=F.length:=by rw[e];simp
  exact⟨∅,Nat.max_le.mpr ⟨lF,lG⟩⟩
 generalize max F.length G.length=L at U Fn j q⊢;refine oR ?_;show wAr (phi T (k-1) fr) (wA (phi T (k-1)) _) _ _ _;unfold wAr;dsimp only[wA,au,aW];refine⟨_,rfl,?_⟩;dsimp only;refine⟨_,rfl,?_⟩;dsimp only;refine oT rfl rfl e1 U ∅ λq1 M3 g3 e3=>?_
 refine oT rfl rfl (g3 _ _ e2) Fn ∅ λq2 M4 g4 e4=>?_
 have gA:=((g1.trans g2).trans g3).trans g4;refine JJ (sz:=L) j.1 j.2 (by rw[B0,Ly];lia) (by rw[B0,Ly];lia) (iT fv hF.dg) (iT fv hG.dg) gA (g4 _ _ e3) e4 λpr M5 g5 n5 e5=>?_
 refine⟨_,rfl,?_⟩;nofun;nofun;refine⟨_,e5,?_⟩;refine bn (f:=.int) (ys:=(cv L (F++z4 (L-F.length) 0) (G++z4 (L-G.length) 0)).reverse) (I:=λl ρ M'=>(∃J,ρ=[Z sch,Z (.int n),Z (.int (ev b F)),Z (.int (ev b G)),Z (.int b),Z (.ref p1),Z (.ref p2),Z (.int (L:Nat)),Z (.ref pr),Z (.int (tm L:Nat)),Z (.int (ev b l.reverse)),J])/\M'=M5) (by rw[Va]) ⟨⟨_,rfl⟩,rfl⟩ (λl ρ M' h=>by rw[h.2];exact e5) ?_ ?_
 ·rintro l x r ρ M' e ⟨⟨J,rfl⟩,rfl⟩;refine⟨_,rfl,λFn JL=>?_⟩;rw[bj];ac_nf;refine⟨gw ⟨∅,∅⟩,?_⟩
  refine JL _ _ ⟨⟨Z (.int x),?_⟩,rfl⟩;rw[TF,show[x].reverse++l.reverse=x::l.reverse from rfl,show ev b (x::l.reverse)=x+b*ev b l.reverse from rfl,Pu b,Int.add_comm x]
 ·rintro ρ M' ⟨⟨J,rfl⟩,rfl⟩;nofun;rw[QK,Bb (by rw[B0,Ly];lia) (by rw[B0,Ly];lia) j.1,ik,ik]
  exact⟨by rw[A0];decide,q _ (gA.trans g5)⟩
end
section
open L2.Srt
variable{T:List FD}
noncomputable def rj(s:Stmt)(fbl:Nat):FD:=⟨"times_for",s,["products","n","length","count"],3,
 (.cons (.asg (.name 3) (.int 1))
 (.cons (.while (.cmp .gt (.var 2) (.int 1)) (.cons (.asg (.name 3) (.bin .mul (.var 3) (.var 0)))
 (.cons (.asg (.name 2) (.call fbl (.cons (.var 2) (.cons (.var 1) .nil))))
 .nil)))
 (.cons (.ret (.var 3))
 .nil)))⟩
theorem Dc{fbl:Nat}{sb:Stmt}(hf:T[f]?=Z (rj s fbl))(j:T[fbl]?=Z (ij sb)){k:Nat}(J:2<=k){many d sz:Nat}(hm:many<=1000)(B:2<=n)(F:n<=1000)(h1:1<=sz)(h2:sz<=2^d)(hs:sz<=1000)(q:Q (.int (tms many n d sz:Nat)) M):phi T k f [.int many,.int n,.int sz] M Q:=by
 refine ar ∅ hf rfl (ρ:=[Z _,Z _,Z _,Y]) rfl ?_
 unfold rj;nofun;nofun;refine⟨d+1,?_⟩;have g:∀(d sz tot:Nat),1<=sz->sz<=2^d->sz<=1000->Q (.int (tot*tms many n d sz:Nat)) M->
  aH (fU (wOp wGt (dD 2) (wC (.int 1)))) (wSs (phi T (k-1)) (.cons (.asg (.name 3) (.bin .mul (.var 3) (.var 0))) (.cons (.asg (.name 2) (.call fbl (.cons (.var 2) (.cons (.var 1) .nil)))) .nil)))
   {nx:=wSs (phi T (k-1)) (.cons (.ret (.var 3)) .nil) {nx:=λ_ M'=>Q .non M',rt:=Q},rt:=Q} (d+1) [Z (.int many),Z (.int n),Z (.int sz),Z (.int tot)] M:=by
  intro d
  induction d with
  |zero=>
   intro sz tot h1 h2 hs q;obtain rfl:sz=1:=by simp at h2;lia
   rw[aH];ac_nf;rw[if_neg (by simp)]
   nofun;have e:tms many n 0 1=1:=rfl;rw[e,Th]at q;exact q
  |succ d ih=>
   intro sz tot h1 h2 G q;rw[aH]
   by_cases hs:sz=1
   ·subst hs;ac_nf;rw[if_neg (by simp)]
    nofun;have e:tms many n (d+1) 1=1:=rfl;rw[e,Th]at q;exact q
   ·have ew:=tD B ∅ h2
    have e:tms many n (d+1) sz=many*tms many n d ((sz+n-1) / n):=by show(if sz=1 then 1 else _)=_;rw[if_neg hs]
    have z:=ih ((sz+n-1) / n) (tot*many) ew.2.1 ew.1 ∅ (by rw[RU,<-e];exact q)
    ac_nf;rw[if_pos ∅]
    nofun;refine⟨gw ⟨∅,∅⟩,?_⟩
    nofun;refine tz j ∅ ∅ ∅ ?_
    ac_nf;rw[show(tot:Int)*many=((tot*many:Nat):Int) by simp]
    exact z
 exact g d sz 1 h1 h2 hs (by rw[Nat.one_mul];exact q)
noncomputable def vj(s:Stmt):FD:=⟨"mirrored",s,["scheme","left","right","many","products"],1,
 (.cons (.asg (.tup (.cons (.name 1) (.cons (.name 2) (.cons (.name 3) (.cons (.name 4) .nil))))) (.var 0))
 (.cons (.ret (.tup (.cons (.var 2) (.cons (.var 1) (.cons (.var 3) (.cons (.comp [Y,Y,Y] ["l","r","o"] (.last (.seq (.var 4)) (.tup (.cons (.name 0) (.cons (.name 1) (.cons (.name 2) .nil)))) .nil (.tup (.cons (.var 1) (.cons (.var 0) (.cons (.var 2) .nil)))))) .nil))))))
 .nil))⟩
noncomputable def mir(p:Pr):Pr:=(p.2.1,p.1,p.2.2)
theorem Fm(hf:T[f]?=Z (vj s)){k:Nat}(J:1<=k){a b c:D}{qs:List Pr}(L:qs.length<=10000)(ep:M p=Z (.lst (qs.map prD)))(q:∀p' M',Ge M M'->M p'=Y->M' p'=Z (.lst ((qs.map mir).map prD))->Q (.tup [b,a,c,.ref p']) M'):phi T k f [.tup [a,b,c,.ref p]] M Q:=by
 refine ar ∅ hf rfl (ρ:=[Z _,Y,Y,Y,Y]) rfl ?_
 unfold vj;nofun;nofun;refine⟨_,ai ep,?_⟩;refine av (f:=prD) (ys:=qs) (I:=λl ρ M' acc=>(∃o0 B F,ρ=[o0,B,F])/\M'=M/\acc=(l.map mir).map prD) rfl ⟨⟨_,_,_,rfl⟩,rfl,rfl⟩ (λ_ _ _ _ h=>by rw[h.2.1];exact ai ep) ?_ ?_
 ·rintro l u r ρ M1 acc e ⟨⟨o0,B,F,rfl⟩,rfl,rfl⟩;refine⟨_,rfl,λN' z=>?_⟩;have G:=ax e;ac_nf;exact⟨by rw[A0];decide,by rw[m1,m1,A0];lia,z _ _ _ ⟨⟨_,_,_,rfl⟩,rfl,by simp[mir,prD]⟩⟩
 ·rintro ρ M1 acc ⟨_,rfl,rfl⟩ p' j;exact⟨by rw[A0];decide,q p' _ (.new j) j aa⟩
theorem y7{k i j:Int}:∀ps:List Pr,Tn (ps.map mir) k i j=Tn ps k j i
 |[]=>rfl
 |p::ps=>by rw[KI,bu,bu,y7 ps];unfold mir;dsimp only;rw[Pu (gz p.2.1 i)]
theorem LS.mir{c:Nat}{ps:List Pr}(h:LS n c ps):LS n c (ps.map Mi.mir):=by
 refine⟨λz=>h.ne (TB.mp z),by rw[m1];exact h.len,λp B=>?_,λk i j=>?_⟩
 ·obtain⟨u,F,rfl⟩:=D2.mp B;have:=h.pr u F;exact⟨this.l1,this.l0,this.l2,this.s1,this.s0,this.s2⟩
 ·rw[y7,h.tn,bN,bN]
  by_cases e:(0<=j/\j<n)/\(0<=i/\i<n)/\k=j+i
  ·rw[if_pos e,if_pos ∅]
  ·rw[if_neg e,if_neg ∅]
theorem vk{b:Int}(G:2<=b):∀(f:Nat) (N:Int),0<=N->N<2^f->∃F,Nm b F/\ev b F=N/\F.length<=f+1
 |0,N,h0,h1=>by
  obtain rfl:N=0:=by simp at h1;lia
  exact⟨[0],⟨λx hx=>by rw[Oa]at hx;lia,0,[],rfl,λx hx=>by cases hx⟩,by simp[ev],by simp⟩
 |f+1,N,h0,h1=>by
  by_cases h:N<b
  ·exact⟨[N],⟨λx hx=>by rw[Oa]at hx;lia,N,[],rfl,λx hx=>by cases hx⟩,by simp[ev],by simp⟩
  ·have h2:1<=N / b:=Int.le_ediv_of_mul_le ∅ ∅
   have O:N / b<2^f:=Int.ediv_lt_of_lt_mul ∅ (by
    rw[SF]at h1;have:(2:Int)^f*2<=2^f*b:=QL G (by have:=Int.pow_pos (n:=2) (m:=f) (by decide);lia)
    lia)
   obtain⟨F,J,eF,lF⟩:=vk G f (N / b) ∅ O
   have hm:=PR N (show b≠0 by lia)
   have B:=OP N (show 0<b by lia)
   refine⟨N%b::F,⟨λx hx=>?_,N%b,F,rfl,?_⟩,?_,by rw[La];lia⟩
   ·rcases D1.mp hx with rfl|hx
    ·exact⟨hm,B⟩
    ·exact J.dg x hx
   ·obtain⟨x,R,rfl,U⟩:=J.ex
    cases R with
    |nil=>intro y L;simp at L;subst L;intro z;subst z;simp[ev]at eF;lia
    |cons y R=>intro z j;rw[Q0]at j;exact U z j
   ·show N%b+b*ev b F=N;rw[eF];have:=Int.emod_add_mul_ediv N b;lia
end
section
open L2.Srt
variable{T:List FD}
noncomputable def mvl(l:List (Int×Nat))(L:Nat):List Int:=(q7 L).map λt=>(l.map λq=>if q.2=t then q.1 else 0).sum
noncomputable def mv(xs:List Int)(ps:List Nat)(L:Nat):List Int:=mvl (xs.zip ps) L
theorem dZ{l:List (Int×Nat)}:(mvl l L).length=L:=by simp[mvl]
theorem Dd:mvl [] L=z4 L 0:=by unfold mvl;rw[List.eq_replicate_iff];exact⟨by simp,λx hx=>by obtain⟨t,_,rfl⟩:=D2.mp hx;rfl⟩
theorem m9{l:List (Int×Nat)}{t:Nat}(h:t<L):(mvl l L)[t]?=Z ((l.map λq=>if q.2=t then q.1 else 0).sum):=by unfold mvl;rw[KL,Lh h];rfl
theorem De{l:List (Int×Nat)}{x:Int}{t:Nat}(h:t<L):(mvl l L).set t ((l.map λq=>if q.2=t then q.1 else 0).sum+x)=mvl (l++[(x,t)]) L:=by
 apply MM;intro i;rw[UM,dZ]
 by_cases hi:i<L
 ·rw[m9 hi,m9 hi,L3,Oj]
  by_cases e:t=i
  ·subst e;simp[h]
  ·rw[if_neg e];simp[e]
 ·rw[LA (by rw[dZ];lia),LA (by rw[dZ];lia),if_neg ∅]
noncomputable def nsD(ps:List Nat):List D:=ps.map λt=>D.int (t:Nat)
noncomputable def iU(s:Stmt):FD:=⟨"moved",s,["part","places","length","row","x","at"],3,
 (.cons (.asg (.name 3) (.bin .mul (.lst (.cons (.int 0) .nil)) (.var 2)))
 (.cons (.for (.tup (.cons (.name 4) (.cons (.name 5) .nil))) (.zip (.var 0) (.var 1)) (.cons (.augI (.var 3) (.var 5) .add (.var 4))
 .nil))
 (.cons (.ret (.blt .tuple (.cons (.var 3) .nil)))
 .nil)))⟩
def tI(T:List FD)(n f:Nat):Prop:=∀{xs:List Int} {ps:List Nat} {L:Nat} {pp:Wk} {M:Mem} {Q:QD},L<=100000->(∀t∈ps,t<L)->M pp=Z (.lst (nsD ps))->(∀M',Ge M M'->Q (.tup ((mv xs ps L).map .int)) M')->phi T n f [.tup (xs.map .int),.ref pp,.int L] M Q
theorem y8:∀{xs:List Int} {ps:List Nat},Pn iz (xs.map .int) (nsD ps)=(xs.zip ps).map λq=>D.tup [.int q.1,.int (q.2:Nat)]
 |[],ps=>by simp[nsD]
 |x::xs,[]=>by simp[nsD]
 |x::xs,t::ps=>by have:=y8 (xs:=xs) (ps:=ps);unfold nsD at this⊢;rw[KI,KI,SE,this];rfl
theorem Ar(hf:T[f]?=Z (iU s))(hn:1<=n):tI T n f:=by
 intro xs ps L pp M Q hL O ep q;refine ar ∅ hf rfl (ρ:=[Z _,Z _,Z _,Y,Y,Y]) rfl ?_
 unfold iU;nofun;refine⟨by rw[A0];lia,λp1 U=>?_⟩
 have g1:=Ge.new (o:=.lst [.int 0]) U;refine⟨_,aa,∅,∅,by rw[A0];simp;lia,λp2 B=>?_⟩
 have g2:=g1.trans (Ge.new (o:=.lst (z4 (L:Int).toNat [D.int 0]).flatten) B);have G:M p2=Y:=by
  cases hq:M p2 with
  |none=>rfl
  |some o=>rw[g1 _ _ hq]at B;cases B
 have e2:ag (ag M p1 (.lst [.int 0])) p2 (.lst (z4 (L:Int).toNat [D.int 0]).flatten) p2=Z (.lst ((mvl [] L).map .int)):=by rw[aa,v9,Dd];simp
 generalize ag (ag M p1 (.lst [.int 0])) p2 (.lst (z4 (L:Int).toNat [D.int 0]).flatten)=M2 at g2 e2⊢;nofun;refine⟨_,ai (g2 _ _ ep),?_⟩;rw[y8];refine bn (f:=λq:Int×Nat=>D.tup [.int q.1,.int (q.2:Nat)]) (ys:=xs.zip ps) (I:=λl ρ M'=>∃Fn fv,ρ=[Z (.tup (xs.map .int)),Z (.ref pp),Z (.int L),Z (.ref p2),Fn,fv]/\Ge M M'/\M' p2=Z (.lst ((mvl l L).map .int))) rfl ⟨_,_,rfl,g2,e2⟩ (λ_ _ _ ⟨_,_,_,g,_⟩=>by first|exact ai (g _ _ ep)|exact⟨rfl,ai (g _ _ ep)⟩) ?_ ?_
 ·rintro l z r ρ M3 e ⟨Fn,fv,rfl,g3,J⟩;refine⟨_,rfl,λF hF=>?_⟩;have hz:z.2<L:=O z.2 (NH (show(z.1,z.2)∈xs.zip ps by rw[e];simp)).2
  rw[bj];ac_nf;refine⟨p2,_,_,.int ((l.map λq=>if q.2=z.2 then q.1 else 0).sum),rfl,rfl,J,?_,?_⟩
  ·refine CG ?_;rw[KL,m9 hz];rfl
  ac_nf;refine cj J (j:=z.2) ?_ ?_
  ·unfold ixN;rw[m1,dZ,if_pos ∅,if_pos ∅];simp
  refine hF _ _ ⟨_,_,rfl,g3.upd G,?_⟩;rw[aa,<-De hz,R5]
 ·rintro ρ M3 ⟨Fn,fv,rfl,g3,J⟩;dsimp only;nofun;exact⟨_,_,rfl,ai J,q _ g3⟩
noncomputable def mvP(P0 P1 P2:List Nat)(L0 L1 L2:Nat)(u:Pr):Pr:=(mv u.1 P0 L0,mv u.2.1 P1 L1,mv u.2.2 P2 L2)
noncomputable def vm(s:Stmt)(fm:Nat):FD:=⟨"products_moved",s,["products","places","lengths"],3,
 (.cons (.ret (.comp [Y,(Z 1),(Z 2)] ["product","places","lengths"] (.last (.seq (.var 0)) (.name 0) .nil (.blt .tuple (.cons (.comp [Y,Y,Y] ["part","spots","length"] (.last (.zip3 (.var 0) (.var 1) (.var 2)) (.tup (.cons (.name 0) (.cons (.name 1) (.cons (.name 2) .nil)))) .nil (.call fm (.cons (.var 0) (.cons (.var 1) (.cons (.var 2) .nil)))))) .nil)))))
 .nil)⟩
theorem y9(hf:T[f]?=Z (vm s fm))(L:tI T (n-1) fm)(hn:1<=n){us:List Pr}(hl:us.length<=100000){j z B:List Nat}{L2:Nat}(h0:L0<=100000)(h1:L1<=100000)(h2:L2<=100000)(b0:∀t∈j,t<L0)(b1:∀t∈z,t<L1)(b2:∀t∈B,t<L2){pu pl G J p2:Wk}(eu:M pu=Z (.lst (us.map prD)))(el:M pl=Z (.lst [.ref G,.ref J,.ref p2]))(e0:M G=Z (.lst (nsD j)))(e1:M J=Z (.lst (nsD z)))(e2:M p2=Z (.lst (nsD B)))(q:∀p M',Ge M M'->M p=Y->M' p=Z (.lst ((us.map (mvP j z B L0 L1 L2)).map prD))->Q (.ref p) M'):phi T n f [.ref pu,.ref pl,.tup [.int L0,.int L1,.int L2]] M Q:=by
 refine ar ∅ hf rfl (ρ:=[Z _,Z _,Z _]) rfl ?_
 unfold vm;nofun;refine⟨_,ai eu,?_⟩;refine av (f:=prD) (ys:=us) (I:=λl ρ M' acc=>(∃o0,ρ=[o0,Z (.ref pl),Z (.tup [.int L0,.int L1,.int L2])])/\Ge M M'/\acc=(l.map (mvP j z B L0 L1 L2)).map prD) rfl ⟨⟨_,rfl⟩,Ge.refl,rfl⟩ (λ_ _ _ _ h=>ai (h.2.1 _ _ eu)) ?_ ?_
 ·rintro l u r ρ M1 acc e ⟨⟨o0,rfl⟩,g1,rfl⟩;refine⟨_,rfl,λN' O=>?_⟩;have JJ:=ax e;have el:=g1 _ _ el;ac_nf;refine⟨_,rfl,rfl,_,ai el,?_⟩;refine av (f:=λw:List Int×(Wk×List Nat)×Nat=>D.tup [.tup (w.1.map .int),.ref w.2.1.1,.int (w.2.2:Nat)]) (ys:=[(u.1,(G,j),L0),(u.2.1,(J,z),L1),(u.2.2,(p2,B),L2)]) (I:=λl' ρ M' acc=>(∃o0 U Fn,ρ=[o0,U,Fn])/\Ge M M'/\acc=l'.map λw=>D.tup ((mv w.1 w.2.1.2 w.2.2).map .int)) rfl ⟨⟨_,_,_,rfl⟩,g1,rfl⟩ (λ_ _ _ _ h=>by first|exact ai (h.2.1 _ _ (by assumption))|trivial) ?_ ?_
  ·rintro l' w r' ρ M2 acc e' ⟨⟨o0,U,Fn,rfl⟩,g2,rfl⟩;refine⟨_,rfl,fun N'' F=>?_⟩;have fv:l'.length<3:=ax e';have hw:w.2.2<=100000/\(∀t∈w.2.1.2,t<w.2.2)/\M2 w.2.1.1=Z (.lst (nsD w.2.1.2)):=by
    have hm:w∈[(u.1,(G,j),L0),(u.2.1,(J,z),L1),(u.2.2,(p2,B),L2)]:=by rw[e'];simp
    simp only[D1,Lb,or_false]at hm
    rcases hm with rfl|rfl|rfl
    ·exact⟨h0,b0,g2 _ _ e0⟩
    ·exact⟨h1,b1,g2 _ _ e1⟩
    ·exact⟨h2,b2,g2 _ _ e2⟩
   ac_nf;refine L hw.1 hw.2.1 hw.2.2 λM3 g3=>?_;exact⟨by rw[m1,A0];lia,F _ _ _ ⟨⟨_,_,_,rfl⟩,g2.trans g3,by simp⟩⟩
  ·rintro ρ M2 acc ⟨⟨o0,U,Fn,rfl⟩,g2,rfl⟩ pt hpt;refine⟨_,_,rfl,ai aa,?_⟩;exact⟨by rw[m1,m1,A0];lia,O _ _ _ ⟨⟨_,rfl⟩,g2.trans (Ge.new hpt),by simp[prD,mvP]⟩⟩
 ·rintro ρ M1 acc ⟨⟨o0,rfl⟩,g1,rfl⟩ p hp;refine q p _ (g1.trans (Ge.new hp)) ?_ aa
  cases hq:M p with
  |none=>rfl
  |some o=>rw[g1 _ _ hq]at hp;cases hp
end
section
open L2.Srt
variable{T:List FD}
structure Bd(p:Pr):Prop where
 l0:p.1.length<=100
 l1:p.2.1.length<=100
 l2:p.2.2.length<=100
 e0:Within 100 p.1
 e1:Within 100 p.2.1
 e2:Within 100 p.2.2
theorem Dr.bd{B:Int}(j:B<=100){L2:Nat}(h0:L0<=100)(h1:L1<=100)(h2:L2<=100){p:Pr}(h:Dr B L0 L1 L2 p):Bd p:=by
 have w:∀{l:List Int},Within B l->Within 100 l:=λh x hx=>by have:=h x hx;lia
 exact⟨by rw[h.l0];exact h0,by rw[h.l1];exact h1,by rw[h.l2];exact h2,w h.e0,w h.e1,w h.e2⟩
theorem Df{a b:List Int}{x:Int}:kr (a++[x]) b=kr a b++b.map (x * ·):=by simp[kr]
theorem Dh{Φ:Phi}{a b:List Int}(G:Within 100 a)(la:a.length<=100)(lb:b.length<=100){N:NC}(q:∀ρ,N ρ M ((kr a b).map .int)){o0 j:Option D}:
 cw (cr 0) (cX (qd (dD 2)) (cr 1) (dN (wOp fV (dD 0) (dD 1)))) (λM=>True) N (a.map .int) [o0,j,Z (.tup (b.map .int))] M []:=by
 refine av (f:=D.int) (ys:=a) (I:=λl ρ M' acc=>(∃o0 j,ρ=[o0,j,Z (.tup (b.map .int))])/\M'=M/\acc=(kr l b).map .int) rfl ⟨⟨_,_,rfl⟩,rfl,rfl⟩ (λ_ _ _ _ _=>trivial) ?_ ?_
 ·rintro l x r ρ M1 acc e ⟨⟨o0,j,rfl⟩,rfl,rfl⟩;refine⟨_,rfl,λN' B=>?_⟩;have J:=ax e;have hx:=G x (by rw[e];simp)
  ac_nf;refine av (f:=D.int) (ys:=b) (I:=λl' ρ M' acc=>(∃j,ρ=[Z (.int x),j,Z (.tup (b.map .int))])/\M'=M1/\acc=(kr l b++l'.map (x * ·)).map .int) rfl ⟨⟨_,rfl⟩,rfl,by simp⟩ (λ_ _ _ _ _=>by first|rfl|trivial) ?_ ?_
  ·rintro l' y r' ρ M2 acc e' ⟨⟨j,rfl⟩,rfl,rfl⟩;refine⟨_,rfl,λN'' z=>?_⟩;have F:=ax e';ac_nf;refine⟨aZ ∅,?_,z _ _ _ ⟨⟨_,rfl⟩,rfl,by simp⟩⟩
   rw[m1,B0,m1,dz,A0];have:l.length*b.length<=100*100:=LF ∅ lb
   lia
  ·rintro ρ M2 acc ⟨⟨j,rfl⟩,rfl,rfl⟩;exact B _ _ _ ⟨⟨_,_,rfl⟩,rfl,by rw[Df]⟩
 ·rintro ρ M1 acc ⟨⟨o0,j,rfl⟩,rfl,rfl⟩;exact q _
noncomputable def rn(s:Stmt):FD:=⟨"product_within",s,["outer","inner"],2,
 (.cons (.ret (.blt .tuple (.cons (.comp [Y,Y] ["block","part"] (.last (.zip (.var 0) (.var 1)) (.tup (.cons (.name 0) (.cons (.name 1) .nil))) .nil (.blt .tuple (.cons (.comp [Y,Y,(Z 1)] ["x","y","part"] (.more (.seq (.var 0)) (.name 0) .nil (.last (.seq (.var 2)) (.name 1) .nil (.bin .mul (.var 0) (.var 1))))) .nil)))) .nil)))
 .nil)⟩
theorem vp(hf:T[f]?=Z (rn s))(fv:1<=n){p u:Pr}(j:Bd p)(B:Bd u)(q:∀M',Ge M M'->Q (prD (krP p u)) M'):phi T n f [prD p,prD u] M Q:=by
 refine ar ∅ hf rfl (ρ:=[Z _,Z _]) rfl ?_
 unfold rn prD;nofun;have O:∀ab∈[(p.1,u.1),(p.2.1,u.2.1),(p.2.2,u.2.2)],Within 100 ab.1/\ab.1.length<=100/\ab.2.length<=100:=by
  intro ab z;simp only[D1,Lb,or_false]at z
  rcases z with rfl|rfl|rfl
  ·exact⟨j.e0,j.l0,B.l0⟩
  ·exact⟨j.e1,j.l1,B.l1⟩
  ·exact⟨j.e2,j.l2,B.l2⟩
 refine av (f:=λab:List Int×List Int=>D.tup [.tup (ab.1.map .int),.tup (ab.2.map .int)]) (ys:=[(p.1,u.1),(p.2.1,u.2.1),(p.2.2,u.2.2)]) (I:=λl ρ M' acc=>(∃o0 F,ρ=[o0,F])/\Ge M M'/\acc=l.map λab=>D.tup ((kr ab.1 ab.2).map .int)) rfl ⟨⟨_,_,rfl⟩,Ge.refl,rfl⟩ (λ_ _ _ _ _=>by first|rfl|trivial) ?_ ?_
 ·rintro l ab r ρ M1 acc e ⟨⟨o0,F,rfl⟩,g,rfl⟩;refine⟨_,rfl,λN' G=>?_⟩;have J:=ax e;obtain⟨h1,h2,U⟩:=O ab (by rw[e];simp)
  ac_nf;refine Dh (Φ:=phi T n) h1 h2 U λρ pq hpq=>⟨_,_,rfl,ai aa,?_⟩;have Fn:l.length<3:=J;refine⟨by rw[m1,A0];lia,G _ _ _ ⟨⟨_,_,rfl⟩,g.trans (Ge.new hpq),by simp⟩⟩
 ·rintro ρ M1 acc ⟨⟨o0,F,rfl⟩,g,rfl⟩ pp L;exact⟨_,_,rfl,ai aa,q _ (g.trans (Ge.new L))⟩
theorem ya{ps us:List Pr}{p:Pr}:aY (ps++[p]) us=aY ps us++us.map (krP p):=by simp[aY]
theorem eG{us:List Pr}:∀{ps:List Pr},(aY ps us).length=ps.length*us.length
 |[]=>by simp[aY]
 |p::ps=>by rw[show aY (p::ps) us=us.map (krP p)++aY ps us by simp[aY],B0,eG,m1,La,MU];lia
noncomputable def gI(s:Stmt)(fp:Nat):FD:=⟨"within",s,["outer","inner","products"],2,
 (.cons (.asg (.name 2) (.comp [Y,Y,(Z 1)] ["block","product","inner"] (.more (.seq (.ix (.var 0) (.int 3))) (.name 0) .nil (.last (.seq (.ix (.var 2) (.int 3))) (.name 1) .nil (.call fp (.cons (.var 0) (.cons (.var 1) .nil)))))))
 (.cons (.ret (.tup (.cons (.bin .mul (.ix (.var 0) (.int 0)) (.ix (.var 1) (.int 0))) (.cons (.bin .mul (.ix (.var 0) (.int 1)) (.ix (.var 1) (.int 1))) (.cons (.bin .mul (.ix (.var 0) (.int 2)) (.ix (.var 1) (.int 2))) (.cons (.var 2) .nil))))))
 .nil))⟩
theorem yb(hf:T[f]?=Z (gI s fp))(J:T[fp]?=Z (rn sp))(hn:2<=n){O U B F G:Nat}(hA:L<=1000/\O<=1000/\U<=1000){ps us:List Pr}(ha:∀p∈ps,Bd p)(hb:∀p∈us,Bd p)(JK:ps.length<=1000)(Fn:us.length<=1000){po pi:Wk}(ho:M po=Z (.lst (ps.map prD)))(hi:M pi=Z (.lst (us.map prD)))(q:∀p M',Ge M M'->M p=Y->M' p=Z (.lst ((aY ps us).map prD))->Q (.tup [.int (L*B:Nat),.int (O*F:Nat),.int (U*G:Nat),.ref p]) M'):
 phi T n f [.tup [.int L,.int O,.int U,.ref po],.tup [.int B,.int F,.int G,.ref pi]] M Q:=by
 refine ar ∅ hf rfl (ρ:=[Z _,Z _,Y]) rfl ?_
 unfold gI;nofun;refine⟨_,rfl,_,ai ho,?_⟩;refine av (f:=prD) (ys:=ps) (I:=λl ρ M' acc=>(∃o0 j,ρ=[o0,j,Z (.tup [.int B,.int F,.int G,.ref pi])])/\Ge M M'/\acc=(aY l us).map prD) rfl ⟨⟨_,_,rfl⟩,Ge.refl,rfl⟩ (λ_ _ _ _ h=>ai (h.2.1 _ _ ho)) ?_ ?_
 ·rintro l x r ρ M1 acc e ⟨⟨o0,j,rfl⟩,g,rfl⟩;refine⟨_,rfl,λN' fv=>?_⟩;have JL:=ax e;have hx:=ha x (by rw[e];simp)
  ac_nf;refine⟨_,rfl,_,ai (g _ _ hi),?_⟩;refine av (f:=prD) (ys:=us) (I:=λl' ρ M' acc=>(∃j,ρ=[Z (prD x),j,Z (.tup [.int B,.int F,.int G,.ref pi])])/\Ge M M'/\acc=(aY l us++l'.map (krP x)).map prD) rfl ⟨⟨_,rfl⟩,g,by simp⟩ (λ_ _ _ _ h=>ai (h.2.1 _ _ hi)) ?_ ?_
  ·rintro l' y r' ρ M2 acc e' ⟨⟨j,rfl⟩,g2,rfl⟩;refine⟨_,rfl,λN'' z=>?_⟩;have JJ:=ax e';have hy:=hb y (by rw[e'];simp)
   ac_nf;refine vp J ∅ hx hy λM3 g3=>⟨?_,z _ _ _ ⟨⟨_,rfl⟩,g2.trans g3,by simp⟩⟩
   rw[m1,B0,m1,eG,A0];have:l.length*us.length<=1000*1000:=LF ∅ Fn
   lia
  ·rintro ρ M2 acc ⟨⟨j,rfl⟩,g2,rfl⟩;exact fv _ _ _ ⟨⟨_,_,rfl⟩,g2,by rw[ya]⟩
 ·rintro ρ M1 acc ⟨⟨o0,j,rfl⟩,g,rfl⟩ p hp;nofun;refine⟨_,rfl,_,rfl,aZ ∅,?_⟩
  refine⟨_,rfl,_,rfl,aZ ∅,_,rfl,_,rfl,aZ ∅,by rw[A0];lia,?_⟩
  rw[<-Mp,<-Mp,<-Mp];refine q p _ (g.trans (Ge.new hp)) ?_ aa
  cases hz:M p with
  |none=>rfl
  |some o=>rw[g _ _ hz]at hp;cases hp
end
section
open L2.Srt
variable{T:List FD}
theorem vq{α β:Type}{f g:α->List β}{l:List α}(h:∀x∈l,f x=g x):l.flatMap f=l.flatMap g:=by rw[Vb,Vb,L8 h]
theorem im{i0:Nat}{f:Nat->Int}{p:Nat->Prop}[DecidablePred p]:∀{n:Nat},(∀i,i<n->(p i↔i=i0))->((q7 n).map λi=>if p i then f i else 0).sum=if i0<n then f i0 else 0
 |0,_=>by simp
 |n+1,h=>by
  rw[NP,L3,Oj,im (n:=n) λi hi=>h i ∅]
  have j:=h n ∅
  by_cases e:n=i0
  ·have B:=j.mpr e;subst e;rw[if_neg ∅,if_pos ∅];simp[B]
  ·have:¬p n:=λz=>e (j.mp z)
   by_cases g:i0<n
   ·rw[if_pos g,if_pos ∅];simp[this]
   ·rw[if_neg g,if_neg ∅];simp[this]
theorem yc{α β:Type}{f:Nat->α}{g:Nat->β}{l:List Nat}:(l.map f).zip (l.map g)=l.map λi=>(f i,g i):=by
 induction l with
 |nil=>rfl
 |cons x l ih=>simp[ih]
end
section
open L2.Srt
variable{T:List FD}
theorem iV(h:l.length=n):l=(q7 n).map λi=>gz l (i:Nat):=by
 refine F8 (by simp[h]) λi hi=>?_
 rw[cm ∅]
end
section
open L2.Srt
variable{T:List FD}
noncomputable def lwp(R c b:Nat):List Nat:=(q7 R).flatMap λq=>(q7 c).map λk=>q*b+k
theorem Di{R c b:Nat}:lwp R c b=(q7 (R*c)).map λt=>t / c*b+t%c:=by rw[xN];unfold lwp;refine vq λq _=>L8 λk j=>?_;rw[iM (L9.mp j),iN (L9.mp j)]
theorem Bc(h:l.length=L):mv l (q7 L) L=l:=by
 unfold mv mvl
 conv=>rhs;rw[iV h]
 refine L8 λt j=>?_;have j:=L9.mp j;have e:l.zip (q7 L)=(q7 L).map λi=>(gz l (i:Nat),i):=by have z:=yc (f:=λi=>gz l (i:Nat)) (g:=id) (l:=q7 L);rw[Vh,<-iV h]at z;exact z
 rw[e,LC];show((q7 L).map λi=>if i=t then gz l (i:Nat)else 0).sum=_
 rw[im (i0:=t) (f:=λi=>gz l (i:Nat)) (λi _=>Tt),if_pos j]
theorem GH{R c b k:Nat}(h:l.length=R*c)(j:k<L):gz (mv l (lwp R c b) L) (k:Nat)=((q7 (R*c)).map λt=>if t / c*b+t%c=k then gz l (t:Nat)else 0).sum:=by unfold mv mvl;rw[cm j,iV h,Di,yc,<-iV h,LC];rfl
theorem tJ{p:Nat->Prop}[DecidablePred p]{c:Int}{f g:Nat->Int}:∀l:List Nat,(l.map λt=>if p t then c*f t+g t else 0).sum=c*(l.map λt=>if p t then f t else 0).sum+(l.map λt=>if p t then g t else 0).sum
 |[]=>by simp
 |t::l=>by
  simp only[KI,OA,tJ l]
  by_cases h:p t
  ·rw[if_pos h,if_pos h,if_pos h,PZ];lia
  ·rw[if_neg h,if_neg h,if_neg h,PZ];lia
noncomputable def lwO(R c b L:Nat)(w:Pr):Pr:=(w.1,w.2.1,mv w.2.2 (lwp R c b) L)
theorem yd{R c b L k:Nat}(z:k<L){i j:Int}:∀{X:List Pr},(∀w∈X,w.2.2.length=R*c)->Tn (X.map (lwO R c b L)) (k:Nat) i j=((q7 (R*c)).map λt=>if t / c*b+t%c=k then Tn X (t:Nat) i j else 0).sum
 |[],_=>by
  simp only[Om,Tn,List.sum_nil,ite_self]
  induction q7 (R*c)with
  |nil=>rfl
  |cons _ _ ih=>rw[KI,OA,<-ih];rfl
 |w::X,h=>by rw[KI,bu,yd z λx hx=>h x (KP _ hx)];unfold lwO;dsimp only;rw[GH (h w KW) z,<-tJ];congr 1
theorem rp{f:Nat->Int}:∀{l:List Nat},(∀t∈l,f t=0)->(l.map f).sum=0
 |[],_=>rfl
 |t::l,h=>by rw[KI,OA,rp λx hx=>h x (KP _ hx),h t KW];rfl
theorem jx{ps us:List Pr}{w:Pr}(h:w∈aY ps us):∃u∈ps,∃v∈us,w=krP u v:=by unfold aY at h;obtain⟨u,j,h⟩:=MJ.mp h;obtain⟨v,z,rfl⟩:=D2.mp h;exact⟨u,j,v,z,rfl⟩
theorem GI{b:Nat}(hn:1<=n)(hm:1<=m)(hb:1<=b){ps us:List Pr}(lps:∀u∈ps,u.1.length=n/\u.2.1.length=m/\u.2.2.length=n+m-1)(lus:∀u∈us,u.1.length=b/\u.2.1.length=b/\u.2.2.length=2*b-1)(hp:∀k i j,Tn ps k i j=cf (aP n m) (k,i,j))(hu:∀k i j,Tn us k i j=cf (aP b b) (k,i,j))(k i j:Int):Tn ((aY ps us).map (lwO (n+m-1) (2*b-1) b ((n+m)*b-1))) k i j=cf (aP (n*b) (m*b)) (k,i,j):=by
 have lk:∀w∈aY ps us,w.1.length=n*b/\w.2.1.length=m*b/\w.2.2.length=(n+m-1)*(2*b-1):=λw hw=>by obtain⟨u,hu,v,hv,rfl⟩:=jx hw;obtain⟨a0,a1,a2⟩:=lps u hu;obtain⟨b0,b1,b2⟩:=lus v hv;unfold krP;simp only[dz,a0,a1,a2,b0,b1,b2,and_self]
 have JM:(n+m)*b=n*b+m*b:=NV _ _ _
 by_cases fv:(0<=k/\k<((n+m)*b-1:Nat))/\(0<=i/\i<(n*b:Nat))/\(0<=j/\j<(m*b:Nat))
 ·obtain⟨⟨k0,kl⟩,⟨i0,il⟩,⟨j0,jl⟩⟩:=fv;obtain⟨k,rfl⟩:=Lp k0;obtain⟨i,rfl⟩:=Lp i0;obtain⟨j,rfl⟩:=Lp j0;have il:=UN.mp il;have jl:=UN.mp jl;have kl:=UN.mp kl;obtain⟨B,G,JJ,U,rfl⟩:=B3 il;obtain⟨F,J,JK,Fn,rfl⟩:=B3 jl;rw[yd kl λw hw=>(lk w hw).2.2];have hc:G+J<2*b-1:=by lia
  have e1:∀t:Nat,Tn (aY ps us) (t:Nat) ((B*b+G:Nat):Int) ((F*b+J:Nat):Int)=if t / (2*b-1)=B+F/\t%(2*b-1)=G+J then 1 else 0:=λt=>by
   rw[AZ (L0:=b) (L1:=b) (L2:=2*b-1) ∅ ∅ ∅ lus,hp,hu,<-Qy,<-Qy,<-Qy,<-Se,<-Se,<-Se,iM U,iN U,iM Fn,iN Fn,bN,bN]
   have A:∀{x y n m:Nat} {z:Nat},x<n->y<m->(if(0<=(x:Int)/\(x:Int)<n)/\(0<=(y:Int)/\(y:Int)<m)/\(z:Int)=(x:Int)+y then(1:Int)else 0)=if z=x+y then 1 else 0:=λ{x y n m z} h1 h2=>by
    by_cases c:z=x+y
    ·rw[if_pos c,if_pos ∅]
    ·rw[if_neg c,if_neg ∅]
   rw[A JJ JK,A U Fn]
   by_cases L:t / (2*b-1)=B+F
   ·by_cases O:t%(2*b-1)=G+J
    ·rw[if_pos L,if_pos O,if_pos ⟨L,O⟩];rfl
    ·simp[L,O]
   ·simp[L]
  have e2:∀t:Nat,(if t / (2*b-1)*b+t%(2*b-1)=k then Tn (aY ps us) (t:Nat) ((B*b+G:Nat):Int) ((F*b+J:Nat):Int)else 0)=if k=(B+F)*b+(G+J)/\t=(B+F)*(2*b-1)+(G+J)then 1 else 0:=λt=>by
   rw[e1]
   by_cases L:t=(B+F)*(2*b-1)+(G+J)
   ·have d1:t / (2*b-1)=B+F:=by rw[L,iM hc]
    have d2:t%(2*b-1)=G+J:=by rw[L,iN hc]
    rw[d1,d2,if_pos (c:=B+F=B+F/\_) ⟨rfl,rfl⟩]
    by_cases O:(B+F)*b+(G+J)=k
    ·rw[if_pos O,if_pos ⟨O.symm,L⟩]
    ·rw[if_neg O,if_neg (λw=>O w.1.symm)]
   ·rw[if_neg (c:=k=_/\_) (λw=>L w.2),if_neg (c:=_/\t%(2*b-1)=G+J) (λw=>L (by rw[<-w.1,<-w.2,Nat.div_add_mod']))]
    simp
  rw[L8 λt _=>e2 t,bN];have JN:(B+F)*b=B*b+F*b:=NV _ _ _
  by_cases c:k=(B+F)*b+(G+J)
  ·rw[im (i0:=(B+F)*(2*b-1)+(G+J)) (f:=λ_=>1) (λt _=>⟨λw=>w.2,λw=>⟨c,w⟩⟩),if_pos (F5 ∅ hc),if_pos ∅]
  ·rw[rp (λt _=>if_neg λw=>c w.1),if_neg ∅]
 ·have hR:cf (aP (n*b) (m*b)) (k,i,j)=0:=by rw[bN,if_neg ∅]
  rw[hR];apply Rp;intro hz;refine fv (qR (λw0 JL=>?_) hz);obtain⟨w,hw,rfl⟩:=D2.mp JL;obtain⟨a,b,_⟩:=lk w hw;exact⟨a,b,dZ⟩
theorem GJ{b:Nat}{ps us:List Pr}(lps:∀u∈ps,u.1.length=n/\u.2.1.length=m/\u.2.2.length=n+m-1)(lus:∀u∈us,u.1.length=b/\u.2.1.length=b/\u.2.2.length=2*b-1):
 (aY ps us).map (mvP (q7 (n*b)) (q7 (m*b)) (lwp (n+m-1) (2*b-1) b) (n*b) (m*b) L)=(aY ps us).map (lwO (n+m-1) (2*b-1) b L):=by
 refine L8 λw hw=>?_;obtain⟨u,j,v,z,rfl⟩:=jx hw;obtain⟨B,a1,a2⟩:=lps u j;obtain⟨F,G,J⟩:=lus v z;unfold mvP lwO krP;dsimp only;rw[Bc (by rw[dz,B,F]),Bc (by rw[dz,a1,G])]
end
section
open L2.Srt
variable{T:List FD}
theorem Dj{a:List Nat}:(nsD a).length=a.length:=by simp[nsD]
noncomputable def lq(b q:Nat)(l:List Nat):List Nat:=l.map λk=>q*b+k
noncomputable def lqs(c b:Nat)(l:List Nat):List Nat:=l.flatMap λq=>lq b q (q7 c)
theorem tK{c b:Nat}:∀{l:List Nat},(lqs c b l).length=l.length*c
 |[]=>by simp[lqs]
 |x::l=>by have ih:=tK (c:=c) (b:=b) (l:=l);unfold lqs at ih⊢;rw[MN,B0,ih,La,MU];simp[lq];lia
theorem ye{B:Int}{t:Nat}(j:0<=B):∀{l:List (Int×Nat)},(∀q∈l,-B<=q.1/\q.1<=B)->-(B*l.length)<=(l.map λq=>if q.2=t then q.1 else 0).sum/\(l.map λq=>if q.2=t then q.1 else 0).sum<=B*l.length
 |[],_=>by simp
 |q::l,h=>by
  have ih:=ye (t:=t) j (l:=l) λx hx=>h x (KP _ hx);have z:=h q KW;rw[KI,OA,La,NO,PZ]
  by_cases c:q.2=t
  ·rw[if_pos c];lia
  ·rw[if_neg c];lia
theorem vt{A B:Int}(O:0<=A){x y:List Int}(hx:Within A x)(G:Within B y):Within (A*B) (kr x y):=by
 intro z F;unfold kr at F;simp only[MJ,D2]at F;obtain⟨a,J,b,L,rfl⟩:=F;have h1:=hx a J;have h2:=G b L;have j:0<=B:=∅
 constructor
 ·by_cases c:0<=a
  ·have:a*(b+B)≥0:=Nv c ∅
   have:(A-a)*B≥0:=Nv ∅ j
   rw[PZ]at *;rw[Int.sub_mul]at *;lia
  ·have:(-a)*(B-b)≥0:=Nv ∅ ∅
   have:(A+a)*B≥0:=Nv ∅ j
   rw[Int.mul_sub,To,To]at *;rw[Rz]at *;lia
 ·by_cases c:0<=a
  ·have:a*(B-b)≥0:=Nv c ∅
   have:(A-a)*B≥0:=Nv ∅ j
   rw[Int.mul_sub]at *;rw[Int.sub_mul]at *;lia
  ·have:(-a)*(B+b)≥0:=Nv ∅ ∅
   have:(A+a)*B≥0:=Nv ∅ j
   rw[PZ,To,To]at *;rw[Rz]at *;lia
noncomputable abbrev ds(n m b:Nat)(ps us:List Pr):List Pr:=(aY ps us).map (lwO (n+m-1) (2*b-1) b ((n+m)*b-1))
noncomputable def md(s:Stmt)(fpm fw:Nat):FD:=⟨"lines_within",s,["outer","n","m","inner","b","told","places","lengths"],5,
 (.cons (.asg (.name 5) (.comp [Y,Y,(Z 4)] ["block","k","b"] (.more (.rng1 (.bin .sub (.bin .add (.var 1) (.var 2)) (.int 1))) (.name 0) .nil (.last (.rng1 (.bin .sub (.bin .mul (.int 2) (.var 2)) (.int 1))) (.name 1) .nil (.bin .add (.bin .mul (.var 0) (.var 2)) (.var 1))))))
 (.cons (.asg (.name 6) (.lst (.cons (.lrng (.bin .mul (.var 1) (.var 4))) (.cons (.lrng (.bin .mul (.var 2) (.var 4))) (.cons (.var 5) .nil)))))
 (.cons (.asg (.name 7) (.tup (.cons (.bin .mul (.var 1) (.var 4)) (.cons (.bin .mul (.var 2) (.var 4)) (.cons (.bin .sub (.bin .mul (.bin .add (.var 1) (.var 2)) (.var 4)) (.int 1)) .nil)))))
 (.cons (.ret (.bin .add (.var 7) (.tup (.cons (.call fpm (.cons (.ix (.call fw (.cons (.var 0) (.cons (.var 3) .nil))) (.int 3)) (.cons (.var 6) (.cons (.var 7) .nil)))) .nil))))
 .nil))))⟩
theorem As{fpm fw fmv:Nat}{sw spm smv:Stmt}(hf:T[f]?=Z (md s fpm fw))(hw:T[fw]?=Z (gI sw fp))(Fn:T[fp]?=Z (rn sp))(fv:T[fpm]?=Z (vm spm fmv))(JJ:T[fmv]?=Z (iU smv)){k:Nat}(hk:3<=k){b:Nat}(hn:1<=n/\n<=10)(hm:1<=m/\m<=10)(hb:1<=b/\b<=20){ps us:List Pr}(lps:∀u∈ps,u.1.length=n/\u.2.1.length=m/\u.2.2.length=n+m-1)(lus:∀u∈us,u.1.length=b/\u.2.1.length=b/\u.2.2.length=2*b-1)(dps:∀u∈ps,Bd u)(dus:∀u∈us,Bd u)(JK:ps.length<=300)(JL:us.length<=300){po pi:Wk}(ho:M po=Z (.lst (ps.map prD)))(hi:M pi=Z (.lst (us.map prD)))(q:∀pf M',Ge M M'->M pf=Y->M' pf=Z (.lst (((aY ps us).map (lwO (n+m-1) (2*b-1) b ((n+m)*b-1))).map prD))->Q (.tup [.int (n*b:Nat),.int (m*b:Nat),.int ((n+m)*b-1:Nat),.ref pf]) M'):
 phi T k f [.tup [.int n,.int m,.int (n+m-1:Nat),.ref po],.int n,.int m,.tup [.int b,.int b,.int (2*b-1:Nat),.ref pi],.int b] M Q:=by
 refine ar ∅ hf rfl (ρ:=[Z _,Z _,Z _,Z _,Z _,Y,Y,Y]) rfl ?_
 unfold md;nofun;have c1:(n:Int)+m-1=(n+m-1:Nat):=∅
 have c2:(2:Int)*b-1=(2*b-1:Nat):=∅
 rw[c1];refine⟨∅,∅,?_⟩
 rw[J4];refine av (f:=λi=>D.int (i:Nat)) (ys:=q7 (n+m-1)) (I:=λl ρ M' acc=>(∃o0 F,ρ=[o0,F,Z (.int b)])/\M'=M/\acc=nsD (lqs (2*b-1) b l)) aS ⟨⟨_,_,rfl⟩,rfl,rfl⟩ (λ_ _ _ _ _=>trivial) ?_ ?_
 ·rintro l a r ρ G acc e ⟨⟨o0,F,rfl⟩,rfl,rfl⟩;refine⟨_,rfl,λN' JM=>?_⟩;have ha:=ax e;rw[Ld]at ha;have JP:a<n+m-1:=L9.mp (by rw[e];simp)
  ac_nf;rw[c2];refine⟨aZ ∅,∅,∅,?_⟩
  rw[J4];refine av (f:=λi=>D.int (i:Nat)) (ys:=q7 (2*b-1)) (I:=λl' ρ M' acc=>(∃F,ρ=[Z (.int (a:Nat)),F,Z (.int b)])/\M'=G/\acc=nsD (lqs (2*b-1) b l++lq b a l')) aS ⟨⟨_,rfl⟩,rfl,by simp[lq]⟩ (λ_ _ _ _ _=>trivial) ?_ ?_
  ·rintro l' t r' ρ M2 acc e' ⟨⟨F,rfl⟩,rfl,rfl⟩;refine⟨_,rfl,λN2 JN=>?_⟩;have j:=ax e';rw[Ld]at j;ac_nf;rw[<-Mp,<-NO];refine⟨aZ ∅,?_,JN _ _ _ ⟨⟨_,rfl⟩,rfl,?_⟩⟩
   ·rw[Dj,B0,tK,A0];have:l.length*(2*b-1)<=20*40:=LF ∅ ∅
    simp[lq];lia
   ·simp[nsD,lq]
  ·rintro ρ M2 acc ⟨⟨F,rfl⟩,rfl,rfl⟩;exact JM _ _ _ ⟨⟨_,_,rfl⟩,rfl,by simp[lqs,NQ]⟩
 rintro ρ G acc ⟨⟨o0,F,rfl⟩,rfl,rfl⟩ pt hpt;have g1:=Ge.new (o:=.lst (nsD (lwp (n+m-1) (2*b-1) b))) hpt;have et:ag G pt (.lst (nsD (lqs (2*b-1) b (q7 (n+m-1))))) pt=Z (.lst (nsD (lwp (n+m-1) (2*b-1) b))):=aa;change Ge G (ag G pt (.lst (nsD (lqs (2*b-1) b (q7 (n+m-1))))))at g1;generalize ag G pt (.lst (nsD (lqs (2*b-1) b (q7 (n+m-1)))))=M2 at g1 et⊢;have w1:n*b<=10*20:=LF hn.2 hb.2;have w2:m*b<=10*20:=LF hm.2 hb.2;have w3:(n+m)*b=n*b+m*b:=NV _ _ _;have w4:1<=n*b:=Nat.mul_pos hn.1 hb.1;have s3:0+1+1+1<=KG:=by rw[A0];lia
 nofun;refine⟨aZ ∅,n*b,(Mp _ _).symm,∅,λz h0=>?_⟩
 have g2:=Ge.new (o:=.lst (nsD (q7 (n*b)))) h0;have e0:=aa (M:=M2) (a:=z) (o:=.lst (nsD (q7 (n*b))));change Ge M2 (ag M2 z (.lst ((q7 (n*b)).map λi=>D.int (i:Nat))))at g2;change ag M2 z (.lst ((q7 (n*b)).map λi=>D.int (i:Nat))) z=_ at e0;generalize ag M2 z (.lst ((q7 (n*b)).map λi=>D.int (i:Nat)))=O at g2 e0⊢;refine⟨aZ ∅,m*b,(Mp _ _).symm,∅,λB h1=>?_⟩
 have g3:=Ge.new (o:=.lst (nsD (q7 (m*b)))) h1;have e1:=aa (M:=O) (a:=B) (o:=.lst (nsD (q7 (m*b))));change Ge O (ag O B (.lst ((q7 (m*b)).map λi=>D.int (i:Nat))))at g3;change ag O B (.lst ((q7 (m*b)).map λi=>D.int (i:Nat))) B=_ at e1;generalize ag O B (.lst ((q7 (m*b)).map λi=>D.int (i:Nat)))=M4 at g3 e1⊢;refine⟨s3,λpl JO=>?_⟩;have J:=Ge.new (o:=.lst [.ref z,.ref B,.ref pt]) JO;have el:=aa (M:=M4) (a:=pl) (o:=.lst [.ref z,.ref B,.ref pt]);generalize ag M4 pl (.lst [.ref z,.ref B,.ref pt])=M5 at J el⊢;have et:=(g2.trans (g3.trans J)) _ _ et;have e0:=(g3.trans J) _ _ e0;have e1:=J _ _ e1;have U:=g1.trans (g2.trans (g3.trans J));clear g1 g2 g3 J;nofun;rw[<-NO,<-Mp,<-Mp,<-Mp,show(((n+m)*b:Nat):Int)-1=((n+m)*b-1:Nat) by lia]
 refine⟨aZ ∅,aZ ∅,aZ ∅,s3,?_⟩
 nofun;refine yb hw Fn ∅ ∅ dps dus ∅ ∅ (U _ _ ho) (U _ _ hi) λpw M6 L _ ew=>?_
 ac_nf;refine⟨_,rfl,?_⟩;have hl:(aY ps us).length<=100000:=by rw[eG];exact LR (LF JK JL) (by decide)
 refine y9 fv (Ar JJ ∅) ∅ hl ∅ ∅ ∅ (λt j=>L9.mp j) (λt j=>L9.mp j) (λt j=>?_) ew (L _ _ el) (L _ _ e0) (L _ _ e1) (L _ _ et) λpf M7 g7 np e7=>?_
 ·unfold lwp at j;simp only[MJ,D2,L9]at j;obtain⟨q',hq,t',j,rfl⟩:=j;have:q'*b<=(n+m-2)*b:=Mm _ ∅
  have e2:(n+m)*b=(n+m-2)*b+2*b:=by rw[<-NV];congr 1;lia
  lia
 rw[GJ lps lus]at e7;exact⟨by rw[A0];lia,.inr trivial,by rw[A0];lia,q pf _ (U.trans (L.trans g7)) (CZ (U.trans L) np) e7⟩
theorem Au{B:Int}(j:0<=B){x:List Int}{P:List Nat}(h:Within B x)(G:B*x.length<=1000):cy (mv x P L):=λy z=>by
 unfold mv mvl at z;obtain⟨t,_,rfl⟩:=D2.mp z;have h1:=ye (t:=t) j (l:=x.zip P) λq F=>h _ (NH (a:=q.1) (b:=q.2) F).1;have h2:((x.zip P).length:Int)<=x.length:=by rw[SK];exact_mod_cast Nat.min_le_left ..
 have J:=QL h2 j;lia
theorem eI{B:Int}(j:B<=1000)(h:Within B l):cy l:=λx hx=>by have:=h x hx;lia
theorem Dl{ps us:List Pr}(F:LS 2 27 ps)(B:LS 2 27 us)(dp:∀p∈ps,Dr 1 2 2 3 p)(du:∀p∈us,Dr 1 2 2 3 p)(lp:ps.length<=4)(lu:us.length<=4):LS 4 29 ((aY ps us).map (lwO 3 3 2 7)):=by
 refine⟨λz=>?_,by rw[m1,eG];exact LR (LF lp lu) (by decide),λw hw=>?_,λk i j=>?_⟩
 ·have:=congrArg Nb z;rw[m1,eG,MV]at this
  rcases Nat.mul_eq_zero.mp this with h|h
  ·exact F.ne (OE h)
  ·exact B.ne (OE h)
 ·obtain⟨v,G,rfl⟩:=D2.mp hw;obtain⟨p,J,u,L,rfl⟩:=jx G;have a:=dp p J;have b:=du u L;have O:=vt (by decide) a.e0 b.e0
  have U:=vt (by decide) a.e1 b.e1
  have Fn:=vt (by decide) a.e2 b.e2
  refine⟨?_,?_,?_,eI (by decide) O,eI (by decide) U,?_⟩
  ·show(kr p.1 u.1).length=4;rw[dz,a.l0,b.l0]
  ·show(kr p.2.1 u.2.1).length=4;rw[dz,a.l1,b.l1]
  ·exact dZ
  ·refine Au (by decide) Fn ?_
   show 1*1*((kr p.2.2 u.2.2).length:Int)<=1000;rw[dz,a.l2,b.l2];decide
 ·exact GI (n:=2) (m:=2) (b:=2) (by decide) (by decide) (by decide) (λu B=>⟨(F.pr u B).l0,(F.pr u B).l1,(F.pr u B).l2⟩) (λv G=>⟨(B.pr v G).l0,(B.pr v G).l1,(B.pr v G).l2⟩) F.tn B.tn k i j
end
section
open L2.Srt
variable{T:List FD}
noncomputable def mf(s:Stmt):FD:=⟨"_law_figures",s,["_law_number_here","_law_base","_law_found"],2,
 (.cons (.asg (.name 2) (.lst .nil))
 (.cons (.while (.cmp .gt (.var 0) (.int 0)) (.cons (.drop (.meth .append (.var 2) (.bin .mod (.var 0) (.var 1))))
 (.cons (.asg (.name 0) (.bin .fdiv (.var 0) (.var 1)))
 .nil)))
 (.cons (.ret (.orL (.var 2) (.lst (.cons (.int 0) .nil))))
 .nil)))⟩
theorem Av(hf:T[f]?=Z (mf s)){k:Nat}(hk:1<=k){b:Int}(hb:2<=b/\b<=1000){F:List Int}(hF:Nm b F)(hl:F.length<=200)(q:∀p M',Ge M M'->M p=Y->M' p=Z (.lst (F.map .int))->Q (.ref p) M'):phi T k f [.int (ev b F),.int b] M Q:=by
 refine ar ∅ hf rfl (ρ:=[Z _,Z _,Y]) rfl ?_
 unfold mf;nofun;refine⟨by rw[A0];decide,λp Fn=>?_⟩
 nofun;have g:∀(R G:List Int) (M':Mem),Dg b R->Lz R->G.length+R.length<=200->Ge M M'->M' p=Z (.lst (G.map .int))->(∀M',Ge M M'->M' p=Z (.lst ((G++R).map .int))->wSs (phi T (k-1)) (.cons (.ret (.orL (.var 2) (.lst (.cons (.int 0) .nil)))) .nil) {nx:=λ_ M'=>Q .non M',rt:=Q} [Z (.int 0),Z (.int b),Z (.ref p)] M')->
  aH (fU (wOp wGt (dD 0) (wC (.int 0)))) (wSs (phi T (k-1)) (.cons (.drop (.meth .append (.var 2) (.bin .mod (.var 0) (.var 1)))) (.cons (.asg (.name 0) (.bin .fdiv (.var 0) (.var 1))) .nil)))
   {nx:=wSs (phi T (k-1)) (.cons (.ret (.orL (.var 2) (.lst (.cons (.int 0) .nil)))) .nil) {nx:=λ_ M'=>Q .non M',rt:=Q},rt:=Q} (R.length+1) [Z (.int (ev b R)),Z (.int b),Z (.ref p)] M':=by
  intro R
  induction R with
  |nil=>
   intro G M' _ _ _ g' e' q';rw[MV,aH];ac_nf;rw[if_neg (by simp[ev])]
   exact q' _ g' (by rw[Mz];exact e')
  |cons y R ih=>
   intro G M' J U hlen g' e' q';have j:=J y KW;rw[La,aH];have L:=r9 (b:=b) ∅ J U (by simp)
   ac_nf;rw[if_pos (by simpa using L)]
   nofun;refine⟨⟨_,e'⟩,∅,⟨p,_,_,rfl,rfl,e',by rw[m1,A0];rw[La]at hlen;lia,?_⟩⟩
   rw[rc j];nofun;rw[rf j];refine⟨∅,∅,?_⟩
   have B:Lz R:=by
    cases R with
    |nil=>intro z h;cases h
    |cons a R=>exact U.tail
   exact ih (G++[y]) _ (λz h=>J z (KP _ h)) B (by simp at hlen⊢;lia) (kR g' Fn) (by rw[aa,L3];rfl) λM2 g2 e2=>q' M2 g2 (by rw[e2,Lx];rfl)
 obtain⟨J,x,R,rfl,U⟩:=hF;have gp:=Ge.new (o:=.lst []) Fn
 by_cases h0:R=[]/\x=0
 ·obtain⟨rfl,rfl⟩:=h0;refine⟨1,?_⟩;rw[show ev b [0]=ev b []from by simp[ev]]
  refine g [] [] _ (λy j=>by cases j) (λy j=>by cases j) (by simp) gp aa λM2 g2 e2=>?_
  nofun;refine⟨_,e2,?_⟩;rw[if_pos (by rfl)]
  exact⟨by rw[A0];decide,λp2 O=>q p2 _ (g2.trans (.new O)) (kS g2 O) aa⟩
 ·have fv:Lz (x::R):=by
   cases R with
   |nil=>intro y j;simp at j;subst j;exactλz=>h0 ⟨rfl,z⟩
   |cons y R=>intro z B;rw[Q0]at B;exact U z B
  refine⟨_,g (x::R) [] _ J fv (by simpa using hl) gp aa λM2 g2 e2=>?_⟩
  nofun;refine⟨_,e2,?_⟩;rw[if_neg (by simp)]
  exact q p M2 g2 Fn e2
noncomputable def mj(s:Stmt)(fta:Nat):FD:=⟨"_law_great",s,["_law_box_here","_law_way","_law_number_here","_law_turn"],1,
 (.cons (.asg (.name 1) (.call fta (.cons (.var 0) (.cons (.int 5) .nil))))
 (.cons (.ite (.cmp .eq (.var 1) (.int 0)) (.cons (.ret (.bin .sub (.bin .pow (.int 10) (.int 40)) (.int 1)))
 .nil) .nil)
 (.cons (.ite (.cmp .eq (.var 1) (.int 1)) (.cons (.asg (.name 2) (.int 1))
 (.cons (.for (.name 3) (.rng1 (.call fta (.cons (.var 0) (.cons (.int 40) .nil)))) (.cons (.asg (.name 2) (.bin .mul (.var 2) (.int 10)))
 .nil))
 (.cons (.ret (.var 2))
 .nil))) .nil)
 (.cons (.ite (.cmp .eq (.var 1) (.int 2)) (.cons (.ret (.call fta (.cons (.var 0) (.cons (.int 100) .nil))))
 .nil) .nil)
 (.cons (.ret (.call fta (.cons (.var 0) (.cons (.bin .pow (.int 10) (.int 40)) .nil))))
 .nil)))))⟩
theorem Aw{fta:Nat}(hf:T[f]?=Z (mj s fta)){k:Nat}(Fn:1<=k)(j:kD T (k-1) fta){bx:Wk}(U:Box bx M)(q:∀N M',0<=N->N<10^40->Bx bx M M'->Q (.int N) M'):phi T k f [.ref bx] M Q:=by
 refine ar ∅ hf rfl (ρ:=[Z _,Y,Y,Y]) rfl ?_
 unfold mj;nofun;refine j U (by decide) (by decide) λv fv v0 v1 z=>?_
 nofun
 by_cases h0:v=0
 ·rw[if_pos (by simp[h0])]
  nofun;exact⟨by decide,by decide,by decide,q _ _ (by decide) (by decide) z⟩
 rw[if_neg (by simp[h0])]
 nofun
 by_cases h1:v=1
 ·rw[if_pos (by simp[h1])]
  nofun;nofun;refine j z.box (by decide) (by decide) λt M2 t0 t1 B=>?_
  obtain⟨t,rfl⟩:=Lp t0;refine⟨_,rfl,∅,∅,?_⟩
  rw[J4];refine bn (f:=λi:Nat=>.int (i:Nat)) (ys:=q7 t) (I:=λl ρ M'=>(∃F,ρ=[Z (.ref bx),Z (.int v),Z (.int (10^l.length)),F])/\M'=M2) aS ⟨⟨_,rfl⟩,rfl⟩ (λ_ _ _ _=>trivial) ?_ ?_
  ·rintro l i r ρ M' e ⟨⟨F,rfl⟩,rfl⟩;refine⟨_,rfl,λFn G=>?_⟩;rw[bj];ac_nf;refine⟨gw (by decide),?_⟩
   refine G _ _ ⟨⟨Z (.int (i:Nat)),?_⟩,rfl⟩;rw[B0,Mt,SF]
  ·rintro ρ M' ⟨⟨F,rfl⟩,rfl⟩;nofun;rw[Ld];have J:(10:Int)^t<10^40:=by exact_mod_cast Nat.pow_lt_pow_right (show 1<10 by decide) (show t<40 by lia)
   exact q _ _ (Int.le_of_lt (Int.pow_pos (by decide))) J (z.trans B)
 rw[if_neg (by simp[h1])]
 nofun
 by_cases h2:v=2
 ·rw[if_pos (by simp[h2])]
  nofun;exact j z.box (by decide) (by decide) λN M2 L O B=>q _ _ L ∅ (z.trans B)
 rw[if_neg (by simp[h2])]
 nofun;refine⟨by decide,by decide,by decide,?_⟩
 exact j z.box (by decide) (by decide) λN M2 L O B=>q _ _ L O (z.trans B)
structure Nst(ps:List Pr):Prop where
 ls:LS 2 27 ps
 dr:∀p∈ps,Dr 1 2 2 3 p
 le:ps.length<=4
theorem rq:Nst (bp 2):=⟨B9 (by decide) (by decide),λp j=>fE p (bp_pp.mem_iff.mp j),by have:=qU (n:=2);lia⟩
theorem Fo{rs:List Tm}(B:IsTask (aP 2 2) rs):Nst (pl 2 2 3 rs (q7 2)):=by
 have G:InB rs 2 2 3:=lY B (by decide)
 have hlen:rs.length<=4:=by have:=B.len;rw[gD]at this;exact this
 have J:∀k,-1<=cf rs k/\cf rs k<=1:=λk=>by
  rw[B.cf,show k=(k.1,k.2.1,k.2.2)from rfl,bN]
  split<;>lia
 have hd:∀p∈pl 2 2 3 rs (q7 2),Dr 1 2 2 3 p:=λp F=>by
  rw[iP]at F;obtain⟨k,_,rfl⟩:=D2.mp F;have O:∀{L:Nat} {i:Int},Within 1 (one L i):=λx hx=>by
   obtain⟨m,_,rfl⟩:=D2.mp hx
   split<;>lia
  refine⟨de,de,by simp[pq],O,O,λx hx=>?_⟩
  obtain⟨m,_,rfl⟩:=D2.mp hx;exact J _
 have U:=B6 G;refine⟨⟨?_,∅,λp F=>?_,λk i j=>by rw[oQ G,B.cf]⟩,hd,∅⟩
 ·intro z;have h:cf (aP 2 2) (0,0,0)=0:=by rw[<-B.cf,<-oQ G,z];rfl
  rw[bN,if_pos ∅]at h
  cases h
 ·have:=hd p F;exact⟨this.l0,this.l1,this.l2,eI (by decide) this.e0,eI (by decide) this.e1,eI (by decide) this.e2⟩
end
section
namespace K66
noncomputable def af(i:Nat):Stmt:=PySem.Challenge.pw_fewtimes_k66_whole_long_numbers_by_any_s.main.body.getD i (.Pass ⟨0,0,0,0⟩)
noncomputable def d0:FD:=i8 (af 1)
noncomputable def d1:FD:=kF (af 2) 0
noncomputable def d2:FD:=df (af 4)
noncomputable def d3:FD:=dR (af 5)
noncomputable def d4:FD:=rn (af 7)
noncomputable def d5:FD:=gI (af 8) 4
noncomputable def d6:FD:=iU (af 9)
noncomputable def d7:FD:=vm (af 10) 6
noncomputable def d8:FD:=md (af 11) 7 5
noncomputable def d9:FD:=ij (af 13)
noncomputable def d10:FD:=ig (af 14) 2
noncomputable def d11:FD:=kQ (af 15) 10 2
noncomputable def d12:FD:=oS (af 16)
noncomputable def b13:MSs:=
 (.cons (.ite (.cmp .eq (.blt .len (.cons (.var 2) .nil)) (.int 1)) (.cons (.ret (.tup (.cons (.lst (.cons (.bin .mul (.ix (.var 2) (.int 0)) (.ix (.var 3) (.int 0))) .nil)) (.cons (.int 1) .nil))))
 .nil) .nil)
 (.cons (.asg (.name 4) (.call 9 (.cons (.blt .len (.cons (.var 2) .nil)) (.cons (.var 1) .nil))))
 (.cons (.asg (.name 5) (.comp [Y,(Z 4)] ["k","wide"] (.last (.rng1 (.bin .sub (.bin .mul (.int 2) (.var 1)) (.int 1))) (.name 0) .nil (.lrng2 (.bin .mul (.var 0) (.var 1)) (.bin .sub (.bin .mul (.bin .add (.var 0) (.int 2)) (.var 1)) (.int 1))))))
 (.cons (.asg (.tup (.cons (.name 6) (.cons (.name 7) .nil))) (.callL 11 (.cons (.var 0) (.cons (.call 12 (.cons (.var 2) (.cons (.var 1) (.cons (.var 4) .nil)))) (.cons (.call 12 (.cons (.var 3) (.cons (.var 1) (.cons (.var 4) .nil)))) (.cons (.var 5) .nil)))) 13 [0,1] [0,1,2,3] 89 ⟨60,98,60,137⟩ (Lf "row_times.<locals>.<lambda>")))
 (.cons (.ret (.tup (.cons (.sl (.var 6) .none (.some (.bin .sub (.bin .mul (.int 2) (.blt .len (.cons (.var 2) .nil))) (.int 1)))) (.cons (.var 7) .nil))))
 .nil)))))
noncomputable def d13:FD:=⟨"row_times",af 17,["scheme","n","one","other","wide","places","told","times"],4,b13⟩
noncomputable def d14:FD:=rj (af 18) 9
noncomputable def d15:FD:=kU (af 19)
noncomputable def d16:FD:=rh (af 20) 15 13
noncomputable def d17:FD:=iQ (af 22) 3
noncomputable def d18:FD:=kL (af 23) 3
noncomputable def d19:FD:=kM (af 24) 3
noncomputable def d20:FD:=vg (af 25) 18 19
noncomputable def d21:FD:=vj (af 27)
noncomputable def d22:FD:=kC (af 29)
noncomputable def d23:FD:=lW (af 30)
noncomputable def d24:FD:=v6 (af 31) 22 23
noncomputable def d25:FD:=qK (af 32) 23
noncomputable def d26:FD:=jr (af 33) 25
noncomputable def d27:FD:=qM (af 34) 26
noncomputable def d28:FD:=r8 (af 35) 20 17 1 25 27
noncomputable def d29:FD:=mj (af 36) 25
noncomputable def d30:FD:=mf (af 37)
noncomputable def b31:MSs:=
 (.cons (.ite (.cmp .eq (.call 25 (.cons (.var 0) (.cons (.int 4) .nil))) (.int 0)) (.cons (.asg (.name 1) (.ix (.lst (.cons (.call 20 (.cons (.int 2) .nil)) (.cons (.call 17 (.cons (.call 1 (.cons (.int 2) (.cons (.int 2) .nil))) .nil)) .nil))) (.call 25 (.cons (.var 0) (.cons (.int 2) .nil)))))
 (.cons (.ret (.tup (.cons (.int 4) (.cons (.call 8 (.cons (.call 20 (.cons (.int 2) .nil)) (.cons (.int 2) (.cons (.int 2) (.cons (.var 1) (.cons (.int 2) .nil)))))) .nil))))
 .nil)) .nil)
 (.cons (.asg (.name 2) (.bin .add (.int 2) (.call 25 (.cons (.var 0) (.cons (.int 4) .nil)))))
 (.cons (.ret (.tup (.cons (.var 2) (.cons (.call 28 (.cons (.var 0) (.cons (.var 2) .nil))) .nil))))
 .nil)))
noncomputable def d31:FD:=⟨"_law_some_scheme",af 38,["_law_box_here","_law_inner","_law_n"],1,b31⟩
noncomputable def b32:MSs:=
 (.cons (.par 5 6 (.call 30 (.cons (.var 3) (.cons (.var 2) .nil))) (.call 30 (.cons (.var 4) (.cons (.var 2) .nil))))
 (.cons (.asg (.name 7) (.blt .max2 (.cons (.blt .len (.cons (.var 5) .nil)) (.cons (.blt .len (.cons (.var 6) .nil)) .nil))))
 (.cons (.asg (.name 8) (.call 14 (.cons (.blt .len (.cons (.ix (.var 0) (.int 3)) .nil)) (.cons (.var 1) (.cons (.var 7) .nil)))))
 (.cons (.ite (.or (.cons (.cmp .gt (.var 7) (.int 60)) (.cons (.cmp .gt (.var 8) (.int 700)) .nil))) (.cons (.ret (.bl F2))
 .nil) .nil)
 (.cons (.ite (.cmp .ne (.call 16 (.cons (.var 0) (.cons (.var 1) (.cons (.var 3) (.cons (.var 4) (.cons (.var 2) .nil)))))) (.tup (.cons (.bin .mul (.var 3) (.var 4)) (.cons (.var 8) .nil)))) (.cons (.ret (.bl Wj))
 .nil) .nil)
 (.cons (.asg (.tup (.cons (.name 9) (.cons (.name 10) .nil))) (.call 13 (.cons (.var 0) (.cons (.var 1) (.cons (.bin .add (.var 5) (.bin .mul (.lst (.cons (.int 0) .nil)) (.bin .sub (.var 7) (.blt .len (.cons (.var 5) .nil))))) (.cons (.bin .add (.var 6) (.bin .mul (.lst (.cons (.int 0) .nil)) (.bin .sub (.var 7) (.blt .len (.cons (.var 6) .nil))))) .nil))))))
 (.cons (.asg (.name 11) (.int 0))
 (.cons (.for (.name 12) (.seq (.revS (.var 9) (.neg (.int 1)))) (.cons (.asg (.name 11) (.bin .add (.bin .mul (.var 11) (.var 2)) (.var 12)))
 .nil))
 (.cons (.ite (.or (.cons (.cmp .ne (.var 11) (.bin .mul (.var 3) (.var 4))) (.cons (.cmp .ne (.var 10) (.var 8)) .nil))) (.cons (.ret (.bl Wj))
 .nil) .nil)
 (.cons (.ret (.cmp .eq (.call 16 (.cons (.call 21 (.cons (.var 0) .nil)) (.cons (.var 1) (.cons (.var 4) (.cons (.var 3) (.cons (.var 2) .nil)))))) (.tup (.cons (.bin .mul (.var 3) (.var 4)) (.cons (.var 8) .nil)))))
 .nil))))))))))
noncomputable def d32:FD:=⟨"_law_right",af 39,["_law_scheme","_law_n","_law_base","_law_one","_law_other","_law_lefts","_law_rights","_law_length","_law_times","_law_row","_law_count","_law_total","_law_number_here"],5,b32⟩
noncomputable def b33:MSs:=
 (.cons (.asg (.name 1) (.call 24 (.cons (.var 0) (.cons (.int 0) .nil))))
 (.cons (.par 2 3 (.call 29 (.cons (.var 1) .nil)) (.call 29 (.cons (.var 1) .nil)))
 (.cons (.for (.name 4) (.rng1 (.int 3)) (.cons (.asg (.tup (.cons (.name 5) (.cons (.name 6) .nil))) (.call 31 (.cons (.var 1) .nil)))
 (.cons (.asg (.name 7) (.ix (.lst (.cons (.int 1000) (.cons (.int 1000) (.cons (.int 10) (.cons (.bin .add (.int 2) (.call 25 (.cons (.var 1) (.cons (.int 999) .nil)))) .nil))))) (.call 25 (.cons (.var 1) (.cons (.int 4) .nil)))))
 (.cons (.ite (.or (.cons (.not (.tru (.call 32 (.cons (.var 6) (.cons (.var 5) (.cons (.var 7) (.cons (.var 2) (.cons (.var 3) .nil)))))))) (.cons (.not (.tru (.call 32 (.cons (.var 6) (.cons (.var 5) (.cons (.var 7) (.cons (.bin .mod (.var 2) (.int 1000)) (.cons (.bin .mod (.var 3) (.int 997)) .nil)))))))) .nil))) (.cons (.ret (.bl Wj))
 .nil) .nil)
 .nil))))
 (.cons (.ret (.bl F2))
 .nil))))
noncomputable def d33:FD:=⟨"law",af 40,["_law_script","_law_box_here","_law_one","_law_other","_law_turn","_law_n","_law_scheme","_law_base"],1,b33⟩
noncomputable def tab:List FD:=[d0,d1,d2,d3,d4,d5,d6,d7,d8,d9,d10,d11,d12,d13,d14,d15,d16,d17,d18,d19,d20,d21,d22,d23,d24,d25,d26,d27,d28,d29,d30,d31,d32,d33]
noncomputable def rA:List (Str×D):=[]
noncomputable def lms:List (Str×Wk):=[("row_times",89)]
noncomputable def lmM:List (Wk×Pos×Str):=[(89,⟨60,98,60,137⟩,Lf "row_times.<locals>.<lambda>")]
theorem oU(us:List h8)(h:us.length=5):∃a b c d e,us=[a,b,c,d,e]:=by
 cases us with
 |nil=>cases h
 |cons a us=>obtain⟨b,c,d,e,rfl⟩:=uZ us (VP.inj h);exact⟨a,b,c,d,e,rfl⟩
end K66
end
section
namespace K66
theorem Fp:∀d∈tab,uW (tab.map (·.name)) rA lms d=F2:=by decide +kernel
noncomputable abbrev PA(K:Frag)(x:Str)(f:Wk):Prop:=R1 K Mf x=Z (Z (.ref f))
noncomputable abbrev PL(K:Frag)(f:Wk)(x:Str)(s:Stmt)(oc:h8)(od:Option Wk)(kV dc pm:h8)(an:Option Wk)(cd ct:h8)(sl:Array (Option h8)):Prop:=K.lookup f=Z ⟨oc,od,.func (Nj x x (cW s) (br s) (ao s) .none kV dc pm an cd ct),sl⟩
noncomputable abbrev PC(K:Frag)(c:h8)(x:Str):Prop:=Pb K c x=F2
noncomputable abbrev PK(K:Frag)(f:Wk):Prop:=NZ K (.ref f)=F2
theorem all_mk{l:SJ}{w:Lq}{K:Frag}{h:Heap}{mg:Str->Option h8}{fa:Wk}(X:K.In h)(G:h.Ns Mf mg)(hfa:mg "law"=Z (.ref fa))(z:∀x∈bltNames,R1 K Mf x=Z Y)(a0:PA K "task_of" f0)(l0:PL K f0 "task_of" (af 1) oc0 od0 kV0 dc0 pm0 an0 cd0 ct0 sl0)(c0:PC K cd0 "task_of")(k0:PK K f0)(a1:PA K "line_task" f1)(l1:PL K f1 "line_task" (af 2) oc1 od1 kV1 dc1 pm1 an1 cd1 ct1 sl1)(c1:PC K cd1 "line_task")(k1:PK K f1)(a2:PA K "filled" f2)(l2:PL K f2 "filled" (af 4) oc2 od2 kV2 dc2 pm2 an2 cd2 ct2 sl2)(c2:PC K cd2 "filled")(k2:PK K f2)(a3:PA K "single_one" f3)(l3:PL K f3 "single_one" (af 5) oc3 od3 kV3 dc3 pm3 an3 cd3 ct3 sl3)(c3:PC K cd3 "single_one")(k3:PK K f3)(a4:PA K "product_within" f4)(l4:PL K f4 "product_within" (af 7) oc4 od4 kV4 dc4 pm4 an4 cd4 ct4 sl4)(c4:PC K cd4 "product_within")(k4:PK K f4)(a5:PA K "within" f5)(l5:PL K f5 "within" (af 8) oc5 od5 kV5 dc5 pm5 an5 cd5 ct5 sl5)(c5:PC K cd5 "within")(k5:PK K f5)(a6:PA K "moved" f6)(l6:PL K f6 "moved" (af 9) oc6 od6 kV6 dc6 pm6 an6 cd6 ct6 sl6)(c6:PC K cd6 "moved")(k6:PK K f6)(a7:PA K "products_moved" f7)(l7:PL K f7 "products_moved" (af 10) oc7 od7 kV7 dc7 pm7 an7 cd7 ct7 sl7)(c7:PC K cd7 "products_moved")(k7:PK K f7)(a8:PA K "lines_within" f8)(l8:PL K f8 "lines_within" (af 11) oc8 od8 kV8 dc8 pm8 an8 cd8 ct8 sl8)(c8:PC K cd8 "lines_within")(k8:PK K f8)(a9:PA K "block_length" f9)(l9:PL K f9 "block_length" (af 13) oc9 od9 kV9 dc9 pm9 an9 cd9 ct9 sl9)(c9:PC K cd9 "block_length")(k9:PK K f9)(a10:PA K "block_sum" f10)(l10:PL K f10 "block_sum" (af 14) oc10 od10 kV10 dc10 pm10 an10 cd10 ct10 sl10)(c10:PC K cd10 "block_sum")(k10:PK K f10)(a11:PA K "by_blocks" f11)(l11:PL K f11 "by_blocks" (af 15) oc11 od11 kV11 dc11 pm11 an11 cd11 ct11 sl11)(c11:PC K cd11 "by_blocks")(k11:PK K f11)(a12:PA K "row_blocks" f12)(l12:PL K f12 "row_blocks" (af 16) oc12 od12 kV12 dc12 pm12 an12 cd12 ct12 sl12)(c12:PC K cd12 "row_blocks")(k12:PK K f12)(a13:PA K "row_times" f13)(l13:PL K f13 "row_times" (af 17) oc13 od13 kV13 dc13 pm13 an13 (.ref cl13) ct13 sl13)(c13:PC K (.ref cl13) "row_times")(k13:PK K f13)(a14:PA K "times_for" f14)(l14:PL K f14 "times_for" (af 18) oc14 od14 kV14 dc14 pm14 an14 cd14 ct14 sl14)(c14:PC K cd14 "times_for")(k14:PK K f14)(a15:PA K "figures_of" f15)(l15:PL K f15 "figures_of" (af 19) oc15 od15 kV15 dc15 pm15 an15 cd15 ct15 sl15)(c15:PC K cd15 "figures_of")(k15:PK K f15)(a16:PA K "long_product" f16)(l16:PL K f16 "long_product" (af 20) oc16 od16 kV16 dc16 pm16 an16 cd16 ct16 sl16)(c16:PC K cd16 "long_product")(k16:PK K f16)(a17:PA K "plain" f17)(l17:PL K f17 "plain" (af 22) oc17 od17 kV17 dc17 pm17 an17 cd17 ct17 sl17)(c17:PC K cd17 "plain")(k17:PK K f17)(a18:PA K "own_product" f18)(l18:PL K f18 "own_product" (af 23) oc18 od18 kV18 dc18 pm18 an18 cd18 ct18 sl18)(c18:PC K cd18 "own_product")(k18:PK K f18)(a19:PA K "pair_product" f19)(l19:PL K f19 "pair_product" (af 24) oc19 od19 kV19 dc19 pm19 an19 cd19 ct19 sl19)(c19:PC K cd19 "pair_product")(k19:PK K f19)(a20:PA K "by_pairs" f20)(l20:PL K f20 "by_pairs" (af 25) oc20 od20 kV20 dc20 pm20 an20 cd20 ct20 sl20)(c20:PC K cd20 "by_pairs")(k20:PK K f20)(a21:PA K "mirrored" f21)(l21:PL K f21 "mirrored" (af 27) oc21 od21 kV21 dc21 pm21 an21 cd21 ct21 sl21)(c21:PC K cd21 "mirrored")(k21:PK K f21)(a22:PA K "_law_cell_at" f22)(l22:PL K f22 "_law_cell_at" (af 29) oc22 od22 kV22 dc22 pm22 an22 cd22 ct22 sl22)(c22:PC K cd22 "_law_cell_at")(k22:PK K f22)(a23:PA K "_law_mixed" f23)(l23:PL K f23 "_law_mixed" (af 30) oc23 od23 kV23 dc23 pm23 an23 cd23 ct23 sl23)(c23:PC K cd23 "_law_mixed")(k23:PK K f23)(a24:PA K "_law_box" f24)(l24:PL K f24 "_law_box" (af 31) oc24 od24 kV24 dc24 pm24 an24 cd24 ct24 sl24)(c24:PC K cd24 "_law_box")(k24:PK K f24)(a25:PA K "_law_take" f25)(l25:PL K f25 "_law_take" (af 32) oc25 od25 kV25 dc25 pm25 an25 cd25 ct25 sl25)(c25:PC K cd25 "_law_take")(k25:PK K f25)(a26:PA K "_law_number" f26)(l26:PL K f26 "_law_number" (af 33) oc26 od26 kV26 dc26 pm26 an26 cd26 ct26 sl26)(c26:PC K cd26 "_law_number")(k26:PK K f26)(a27:PA K "_law_part" f27)(l27:PL K f27 "_law_part" (af 34) oc27 od27 kV27 dc27 pm27 an27 cd27 ct27 sl27)(c27:PC K cd27 "_law_part")(k27:PK K f27)(a28:PA K "_law_line_scheme" f28)(l28:PL K f28 "_law_line_scheme" (af 35) oc28 od28 kV28 dc28 pm28 an28 cd28 ct28 sl28)(c28:PC K cd28 "_law_line_scheme")(k28:PK K f28)(a29:PA K "_law_great" f29)(l29:PL K f29 "_law_great" (af 36) oc29 od29 kV29 dc29 pm29 an29 cd29 ct29 sl29)(c29:PC K cd29 "_law_great")(k29:PK K f29)(a30:PA K "_law_figures" f30)(l30:PL K f30 "_law_figures" (af 37) oc30 od30 kV30 dc30 pm30 an30 cd30 ct30 sl30)(c30:PC K cd30 "_law_figures")(k30:PK K f30)(a31:PA K "_law_some_scheme" f31)(l31:PL K f31 "_law_some_scheme" (af 38) oc31 od31 kV31 dc31 pm31 an31 cd31 ct31 sl31)(c31:PC K cd31 "_law_some_scheme")(k31:PK K f31)(a32:PA K "_law_right" f32)(l32:PL K f32 "_law_right" (af 39) oc32 od32 kV32 dc32 pm32 an32 cd32 ct32 sl32)(c32:PC K cd32 "_law_right")(k32:PK K f32)(a33:PA K "law" f33)(l33:PL K f33 "law" (af 40) oc33 od33 kV33 dc33 pm33 an33 cd33 ct33 sl33)(c33:PC K cd33 "law")(k33:PK K f33)(hd13:MD K cl13 89=F2)
 : ∃fd:N5,(∀(s:r0) (v:h8),Tq s fd ⟨[v],[]⟩ [("_law_script",v)])/\∀base:Heap,K.In base->base.Ns Mf mg->eX mg base->FnOk l.prog w K mg base CX0 40 fa fd ["_law_script"] (lSp K (phi tab 40 33)):=by
 have e:=hfa.symm.trans (KY X G a33)
 cases e
 have O:uX K mg tab rA lms:=by
  refine⟨λx hx=>PySem.W.mg_none_of X G (z x hx),?_,Fp,?_,by decide,?_⟩
  ·intro i d hd
   match i,hd with
   |0,hd=>cases hd;exact⟨_,_,ah l0 c0 k0,KY X G a0,a0,(ah l0 c0 k0).binds λ_ _ _ _ _ _ us hl=>by obtain⟨u0,u1,u2,u3,rfl⟩:=uZ us hl;rfl⟩
   |1,hd=>cases hd;exact⟨_,_,ah l1 c1 k1,KY X G a1,a1,(ah l1 c1 k1).binds λ_ _ _ _ _ _ us hl=>by obtain⟨u0,u1,rfl⟩:=bI us hl;rfl⟩
   |2,hd=>cases hd;exact⟨_,_,ah l2 c2 k2,KY X G a2,a2,(ah l2 c2 k2).binds λ_ _ _ _ _ _ us hl=>by obtain⟨u0,rfl⟩:=dQ us hl;rfl⟩
   |3,hd=>cases hd;exact⟨_,_,ah l3 c3 k3,KY X G a3,a3,(ah l3 c3 k3).binds λ_ _ _ _ _ _ us hl=>by obtain⟨u0,u1,rfl⟩:=bI us hl;rfl⟩
   |4,hd=>cases hd;exact⟨_,_,ah l4 c4 k4,KY X G a4,a4,(ah l4 c4 k4).binds λ_ _ _ _ _ _ us hl=>by obtain⟨u0,u1,rfl⟩:=bI us hl;rfl⟩
   |5,hd=>cases hd;exact⟨_,_,ah l5 c5 k5,KY X G a5,a5,(ah l5 c5 k5).binds λ_ _ _ _ _ _ us hl=>by obtain⟨u0,u1,rfl⟩:=bI us hl;rfl⟩
   |6,hd=>cases hd;exact⟨_,_,ah l6 c6 k6,KY X G a6,a6,(ah l6 c6 k6).binds λ_ _ _ _ _ _ us hl=>by obtain⟨u0,u1,u2,rfl⟩:=iK us hl;rfl⟩
   |7,hd=>cases hd;exact⟨_,_,ah l7 c7 k7,KY X G a7,a7,(ah l7 c7 k7).binds λ_ _ _ _ _ _ us hl=>by obtain⟨u0,u1,u2,rfl⟩:=iK us hl;rfl⟩
   |8,hd=>cases hd;exact⟨_,_,ah l8 c8 k8,KY X G a8,a8,(ah l8 c8 k8).binds λ_ _ _ _ _ _ us hl=>by obtain⟨u0,u1,u2,u3,u4,rfl⟩:=oU us hl;rfl⟩
   |9,hd=>cases hd;exact⟨_,_,ah l9 c9 k9,KY X G a9,a9,(ah l9 c9 k9).binds λ_ _ _ _ _ _ us hl=>by obtain⟨u0,u1,rfl⟩:=bI us hl;rfl⟩
   |10,hd=>cases hd;exact⟨_,_,ah l10 c10 k10,KY X G a10,a10,(ah l10 c10 k10).binds λ_ _ _ _ _ _ us hl=>by obtain⟨u0,u1,rfl⟩:=bI us hl;rfl⟩
   |11,hd=>cases hd;exact⟨_,_,ah l11 c11 k11,KY X G a11,a11,(ah l11 c11 k11).binds λ_ _ _ _ _ _ us hl=>by obtain⟨u0,u1,u2,u3,u4,rfl⟩:=oU us hl;rfl⟩
   |12,hd=>cases hd;exact⟨_,_,ah l12 c12 k12,KY X G a12,a12,(ah l12 c12 k12).binds λ_ _ _ _ _ _ us hl=>by obtain⟨u0,u1,u2,rfl⟩:=iK us hl;rfl⟩
   |13,hd=>cases hd;exact⟨_,_,ah l13 c13 k13,KY X G a13,a13,(ah l13 c13 k13).binds λ_ _ _ _ _ _ us hl=>by obtain⟨u0,u1,u2,u3,rfl⟩:=uZ us hl;rfl⟩
   |14,hd=>cases hd;exact⟨_,_,ah l14 c14 k14,KY X G a14,a14,(ah l14 c14 k14).binds λ_ _ _ _ _ _ us hl=>by obtain⟨u0,u1,u2,rfl⟩:=iK us hl;rfl⟩
   |15,hd=>cases hd;exact⟨_,_,ah l15 c15 k15,KY X G a15,a15,(ah l15 c15 k15).binds λ_ _ _ _ _ _ us hl=>by obtain⟨u0,u1,rfl⟩:=bI us hl;rfl⟩
   |16,hd=>cases hd;exact⟨_,_,ah l16 c16 k16,KY X G a16,a16,(ah l16 c16 k16).binds λ_ _ _ _ _ _ us hl=>by obtain⟨u0,u1,u2,u3,u4,rfl⟩:=oU us hl;rfl⟩
   |17,hd=>cases hd;exact⟨_,_,ah l17 c17 k17,KY X G a17,a17,(ah l17 c17 k17).binds λ_ _ _ _ _ _ us hl=>by obtain⟨u0,rfl⟩:=dQ us hl;rfl⟩
   |18,hd=>cases hd;exact⟨_,_,ah l18 c18 k18,KY X G a18,a18,(ah l18 c18 k18).binds λ_ _ _ _ _ _ us hl=>by obtain⟨u0,u1,rfl⟩:=bI us hl;rfl⟩
   |19,hd=>cases hd;exact⟨_,_,ah l19 c19 k19,KY X G a19,a19,(ah l19 c19 k19).binds λ_ _ _ _ _ _ us hl=>by obtain⟨u0,u1,u2,rfl⟩:=iK us hl;rfl⟩
   |20,hd=>cases hd;exact⟨_,_,ah l20 c20 k20,KY X G a20,a20,(ah l20 c20 k20).binds λ_ _ _ _ _ _ us hl=>by obtain⟨u0,rfl⟩:=dQ us hl;rfl⟩
   |21,hd=>cases hd;exact⟨_,_,ah l21 c21 k21,KY X G a21,a21,(ah l21 c21 k21).binds λ_ _ _ _ _ _ us hl=>by obtain⟨u0,rfl⟩:=dQ us hl;rfl⟩
   |22,hd=>cases hd;exact⟨_,_,ah l22 c22 k22,KY X G a22,a22,(ah l22 c22 k22).binds λ_ _ _ _ _ _ us hl=>by obtain⟨u0,u1,rfl⟩:=bI us hl;rfl⟩
   |23,hd=>cases hd;exact⟨_,_,ah l23 c23 k23,KY X G a23,a23,(ah l23 c23 k23).binds λ_ _ _ _ _ _ us hl=>by obtain⟨u0,u1,rfl⟩:=bI us hl;rfl⟩
   |24,hd=>cases hd;exact⟨_,_,ah l24 c24 k24,KY X G a24,a24,(ah l24 c24 k24).binds λ_ _ _ _ _ _ us hl=>by obtain⟨u0,u1,rfl⟩:=bI us hl;rfl⟩
   |25,hd=>cases hd;exact⟨_,_,ah l25 c25 k25,KY X G a25,a25,(ah l25 c25 k25).binds λ_ _ _ _ _ _ us hl=>by obtain⟨u0,u1,rfl⟩:=bI us hl;rfl⟩
   |26,hd=>cases hd;exact⟨_,_,ah l26 c26 k26,KY X G a26,a26,(ah l26 c26 k26).binds λ_ _ _ _ _ _ us hl=>by obtain⟨u0,rfl⟩:=dQ us hl;rfl⟩
   |27,hd=>cases hd;exact⟨_,_,ah l27 c27 k27,KY X G a27,a27,(ah l27 c27 k27).binds λ_ _ _ _ _ _ us hl=>by obtain⟨u0,u1,rfl⟩:=bI us hl;rfl⟩
   |28,hd=>cases hd;exact⟨_,_,ah l28 c28 k28,KY X G a28,a28,(ah l28 c28 k28).binds λ_ _ _ _ _ _ us hl=>by obtain⟨u0,u1,rfl⟩:=bI us hl;rfl⟩
   |29,hd=>cases hd;exact⟨_,_,ah l29 c29 k29,KY X G a29,a29,(ah l29 c29 k29).binds λ_ _ _ _ _ _ us hl=>by obtain⟨u0,rfl⟩:=dQ us hl;rfl⟩
   |30,hd=>cases hd;exact⟨_,_,ah l30 c30 k30,KY X G a30,a30,(ah l30 c30 k30).binds λ_ _ _ _ _ _ us hl=>by obtain⟨u0,u1,rfl⟩:=bI us hl;rfl⟩
   |31,hd=>cases hd;exact⟨_,_,ah l31 c31 k31,KY X G a31,a31,(ah l31 c31 k31).binds λ_ _ _ _ _ _ us hl=>by obtain⟨u0,rfl⟩:=dQ us hl;rfl⟩
   |32,hd=>cases hd;exact⟨_,_,ah l32 c32 k32,KY X G a32,a32,(ah l32 c32 k32).binds λ_ _ _ _ _ _ us hl=>by obtain⟨u0,u1,u2,u3,u4,rfl⟩:=oU us hl;rfl⟩
   |33,hd=>cases hd;exact⟨_,_,ah l33 c33 k33,KY X G a33,a33,(ah l33 c33 k33).binds λ_ _ _ _ _ _ us hl=>by obtain⟨u0,rfl⟩:=dQ us hl;rfl⟩
   |i+34,hd=>simp[tab]at hd
  ·intro x i hx;simp only[rA,D1,Lb,or_false,QC]at hx
  ·intro i d T0 hd hl f hm;have hi:=EU (Ls:=[13]) (by decide +kernel) hd hl
   simp only[D1,Lb,or_false]at hi
   rcases hi with rfl
   ·cases hd;cases hm.symm.trans (KY X G a13);obtain rfl:89=T0:=by(have z9:lms.lookup d13.name=Z 89:=by decide +kernel);rw[z9]at hl;cases hl;rfl
    exact⟨_,⟨_,_,_,_,_,_,_,_,_,rfl,l13,c13,hd13⟩⟩
 refine⟨Nj "law" "law" (cW (af 40)) (br (af 40)) (ao (af 40)) .none kV33 dc33 pm33 an33 cd33 ct33,λs v=>.of_eq rfl,λbase hI _ hB=>?_⟩;exact(ET O hI hB 40).fn 33 d33 _ _ rfl (ah l33 c33 k33) (KY X G a33)
noncomputable def lmT:List (Wk×Wk):=[(91,89)]
theorem walk {l:SJ}{q:L4}{loose:List Str}{XP:(Str->Option h8)->Heap->Prop}{YP:Lq->Heap->Prop}{d:DefRec}{K:Params->Frag}(hn:l.most=Z 63)(hdf:d.params.defaults=[])(hlaw:∀ns:List Int,ns.length<=63->phi tab 40 33 [.con (ns.map D.int)] (dE lmM) fun d _=>d=.bl F2)(hY:∀(w:Lq) (h:Heap),YP w h->(K w.params).In h/\∀p∈lmT.map (·.2),h.get? p=Z (PySem.W.tabObj #[]))(hts:∀(w:Lq),∀q∈lmT,MD (K w.params) q.1 q.2=F2/\(K w.params).lookup q.2=Y)(F:∀(w:Lq) (mg:Str->Option h8) (fa:Wk) (h:Heap),(K w.params).In h->h.Ns Mf mg->mg d.name=Z (.ref fa)->
   ∃fd:N5,(∀(s:r0) (u:h8),Tq s fd ⟨[u],[]⟩ [("_law_script",u)])/\∀base:Heap,(K w.params).In base->base.Ns Mf mg->eX mg base->FnOk l.prog w (K w.params) mg base CX0 40 fa fd ["_law_script"] (lSp (K w.params) (phi tab 40 33))):
 PySem.W.WalkO q loose XP YP l.row.toRowW d [] (λf vs=>VE f vs):=
 L2.walk_ofT (n:=63) (k:=40) (x:="_law_script") (ts:=lmT) (sp:=λw=>lSp (K w.params) (phi tab 40 33)) hn (by decide) hdf ⟨rfl,by decide,by decide⟩ hY hts F (λw H a ns hl hO hS=>Cy lmM (by decide) hO hS (hlaw ns hl))
end K66
end
section
namespace K66
open L2.Srt
variable{n:Nat}
theorem tL(j:1<=n):v7 tab n 23:=xL (x:="_law_number_here") (s:=af 30) rfl j
theorem cn(j:2<=n):kD tab n 25:=λz h1 h2 q=>CD (s:=af 32) (fm:=23) rfl (tL ∅) j z h1 h2 q
theorem vw(z:3<=n):qL tab n 26:=λj q=>xI (s:=af 33) (ft:=25) rfl (cn ∅) ∅ j q
theorem Ax(B:4<=n):xK tab n 27:=λj z q=>CF (s:=af 34) (fn:=26) rfl (vw ∅) ∅ j z q
variable{M:Mem}{Q:QD}
theorem Ay{k:Nat}(j:6<=k)(z:2<=n/\n<=5){b:Wk}(B:Box b M)(q:∀ps p M',LS n 29 ps->Bx b M M'->M p=Y->M' p=Z (.lst (ps.map prD))->Q (.tup [.int n,.int n,.int (2*n-1:Nat),.ref p]) M'):phi tab k 28 [.ref b,.int n] M Q:=Da (s:=af 35) (fbp:=20) (fpl:=17) (flt:=1) (fta:=25) (fpa:=27) (ft:=0) (f1:=3) (fo:=18) (fp:=19) (s1:=af 22) (s2:=af 5) (s3:=af 2) (s4:=af 1) (s5:=af 25) (s6:=af 23) (s7:=af 24) rfl rfl rfl rfl rfl rfl rfl rfl j (cn ∅) (Ax ∅) z B q
theorem yf{k:Nat}(j:3<=k)(q:∀p M',Ge M M'->M p=Y->M' p=Z (.lst ((bp 2).map prD))->Q (.tup [.int (2:Nat),.int (2:Nat),.int (3:Nat),.ref p]) M'):phi tab k 20 [.int (2:Nat)] M Q:=B5 (n:=2) (fo:=18) (fp:=19) (f1:=3) (s:=af 25) (so:=af 23) (sp:=af 24) (s1:=af 5) rfl rfl rfl rfl j (by decide) (by decide) q
theorem nN{k:Nat}(z:3<=k){bx:Wk}(j:Box bx M)(q:∀N M',0<=N->N<10^40->Bx bx M M'->Q (.int N) M'):phi tab k 29 [.ref bx] M Q:=Aw (s:=af 36) (fta:=25) rfl ∅ (cn ∅) j q
variable{b:Int}
theorem nO{k:Nat}(j:1<=k)(z:2<=b/\b<=1000){F:List Int}(B:Nm b F)(G:F.length<=200)(q:∀p M',Ge M M'->M p=Y->M' p=Z (.lst (F.map .int))->Q (.ref p) M'):phi tab k 30 [.int (ev b F),.int b] M Q:=Av (s:=af 37) rfl j z B G q
theorem Az{k:Nat}(z:2<=k){many sz:Nat}(hm:many<=1000)(j:2<=n/\n<=1000)(h1:1<=sz)(h2:sz<=256)(q:Q (.int (tms many n 8 sz:Nat)) M):phi tab k 14 [.int many,.int n,.int sz] M Q:=Dc (s:=af 18) (fbl:=9) (sb:=af 13) (d:=8) rfl rfl z hm j.1 j.2 h1 h2 ∅ q
theorem tM{A:List Int}(h:Big A):Lim 41 A:=λx hx=>by have:=h x hx;have e:(2:Nat)^41=2199023255552:=rfl;lia
variable{ps:List Pr}{a1 a2:D}
theorem yg{k:Nat}(G:31<=k){sz:Nat}(J:2<=n/\n<=5)(h1:1<=sz)(h2:sz<=60)(j:LS n 29 ps){A B:List Int}{pA pB pp:Wk}{z:D}(F:M 89=Z (.tab ⟨60,98,60,137⟩ (Lf "row_times.<locals>.<lambda>")))(ep:M pp=Z (.lst (ps.map prD)))(lA:A.length=sz)(lB:B.length=sz)(bA:Big A)(bB:Big B)(eA:M pA=Z (.lst (A.map .int)))(eB:M pB=Z (.lst (B.map .int)))(q:∀p M',Ge M M'->M p=Y->M' p=Z (.lst ((cv sz A B).map .int))->Q (.tup [.ref p,.int (tms ps.length n 8 sz:Nat)]) M'):
 phi tab k 13 [.tup [z,a1,a2,.ref pp],.int n,.ref pA,.ref pB] M Q:=
 y6 (f:=13) (fbl:=9) (fby:=11) (frb:=12) (fs:=10) (ff:=2) (sbl:=af 13) (sby:=af 15) (srb:=af 16) (ss:=af 14) (sf:=af 4) (s:=af 17) (P:=89) rfl rfl rfl rfl rfl rfl (by decide) (by decide) ∅ (by have:=j.len;lia) j.tn j.pr (d:=8) (m:=41) h1 ∅ ∅ ∅ (by decide) lA lB (tM bA) (tM bB) F ep eA eB q
theorem rB{k:Nat}(fv:33<=k)(j:2<=n/\n<=5)(z:LS n 29 ps)(B:1<=b/\b<=1000){F G:List Int}(J:Nm b F)(L:Nm b G)(lF:F.length<=60)(lG:G.length<=60){pp:Wk}{O:D}(U:M 89=Z (.tab ⟨60,98,60,137⟩ (Lf "row_times.<locals>.<lambda>")))(ep:M pp=Z (.lst (ps.map prD)))(q:∀M',Ge M M'->Q (.tup [.int (ev b F*ev b G),.int (tms ps.length n 8 (max F.length G.length):Nat)]) M'):phi tab k 16 [.tup [O,a1,a2,.ref pp],.int n,.int (ev b F),.int (ev b G),.int b] M Q:=Db (s:=af 20) (sf:=af 19) (ff:=15) (fr:=13) (tm:=λsz=>tms ps.length n 8 sz) rfl rfl ∅ B J L lF lG (λh1 h2 lA lB bA bB g eA eB Fn=>yg ∅ j h1 h2 z (g _ _ U) (g _ _ ep) lA lB bA bB eA eB Fn) q
theorem kW{b p:Wk}(j:Box b M)(h:M p=Y):p≠b:=λz=>by obtain⟨_,_,_,e⟩:=j;rw[<-z,h]at e;cases e
theorem Fq{k:Nat}(B:3<=k){us:List Pr}(z:Nst ps)(j:Nst us){po pi:Wk}(ho:M po=Z (.lst (ps.map prD)))(hi:M pi=Z (.lst (us.map prD)))(q:∀qs pf M',LS 4 29 qs->Ge M M'->M pf=Y->M' pf=Z (.lst (qs.map prD))->Q (.tup [.int (4:Nat),.int (4:Nat),.int (7:Nat),.ref pf]) M'):
 phi tab k 8 [.tup [.int (2:Nat),.int (2:Nat),.int (3:Nat),.ref po],.int (2:Nat),.int (2:Nat),.tup [.int (2:Nat),.int (2:Nat),.int (3:Nat),.ref pi],.int (2:Nat)] M Q:=by
 have l:∀{ps:List Pr},Nst ps->∀u∈ps,u.1.length=2/\u.2.1.length=2/\u.2.2.length=3:=λh u j=>⟨(h.dr u j).l0,(h.dr u j).l1,(h.dr u j).l2⟩;have d:∀{ps:List Pr},Nst ps->∀u∈ps,Bd u:=λh u j=>(h.dr u j).bd (by decide) (by decide) (by decide) (by decide)
 exact As (n:=2) (m:=2) (b:=2) (s:=af 11) (fpm:=7) (fw:=5) (fp:=4) (fmv:=6) (sw:=af 8) (sp:=af 7) (spm:=af 10) (smv:=af 9) rfl rfl rfl rfl rfl B (by decide) (by decide) (by decide) (l z) (l j) (d z) (d j) (by have:=z.le;lia) (by have:=j.le;lia) ho hi λpf M' g n e=>q _ pf M' (Dl z.ls j.ls z.dr j.dr z.le j.le) g n e
theorem AA{k:Nat}(hk:8<=k){bx:Wk}(hb:Box bx M)(q:∀(n:Nat) ps a0 a1 a2 p M',(2<=n/\n<=5)->LS n 29 ps->Bx bx M M'->M p=Y->M' p=Z (.lst (ps.map prD))->Q (.tup [.int n,.tup [a0,a1,a2,.ref p]]) M'):phi tab k 31 [.ref bx] M Q:=by
 refine ar ∅ rfl rfl (ρ:=[Z _,Y,Y]) rfl ?_
 unfold d31 L2.Mi.K66.b31;nofun;refine cn ∅ hb (by decide) (by decide) λv M1 v0 v1 Fn=>?_
 ac_nf
 by_cases hv:v=0
 ·rw[if_pos (by simp[hv])]
  nofun;refine yf ∅ λpa Ma ga na ea=>?_
  ac_nf;refine sZ (n:=2) (m:=2) (s:=af 2) (s':=af 1) (ft:=0) rfl rfl ∅ (by decide) (by decide) (by decide) λrs a M2 L g1 n1 e1=>?_
  have hN:=Fo L;have hI:InB rs 2 2 3:=lY L (by decide)
  have hlen:rs.length<=4:=by have:=L.len;rw[gD]at this;exact this
  refine qV (L0:=2) (L1:=2) (N:=3) (s:=af 22) (s1:=af 5) (f1:=3) rfl rfl ∅ (by decide) (by decide) (by decide) e1 L.nodup hI ∅ λp U g2 n2 e2=>?_
  ac_nf;refine⟨by rw[A0];decide,λpz fv=>?_⟩
  have gz':=Ge.new (o:=.lst [.tup [.int (2:Nat),.int (2:Nat),.int (3:Nat),.ref pa],.tup [.int (2:Nat),.int (2:Nat),.int (3:Nat),.ref p]]) fv;have B:=Fn.ge (((ga.trans g1).trans g2).trans gz');have ez:=aa (M:=U) (a:=pz) (o:=.lst [.tup [.int (2:Nat),.int (2:Nat),.int (3:Nat),.ref pa],.tup [.int (2:Nat),.int (2:Nat),.int (3:Nat),.ref p]]);have ea:=gz' _ _ (g2 _ _ (g1 _ _ ea));have e2:=gz' _ _ e2;generalize ag U pz _=M4 at B ez ea e2⊢;have fin:∀(E:bX) (us:List Pr) (pi:Wk) (F:Mem),E.rt=Q->Nst us->Bx bx M F->F pi=Z (.lst (us.map prD))->wSs (phi tab (k-1)) (.cons (.ret (.tup (.cons (.int 4) (.cons (.call 8 (.cons (.call 20 (.cons (.int 2) .nil)) (.cons (.int 2) (.cons (.int 2) (.cons (.var 1) (.cons (.int 2) .nil)))))) .nil)))) .nil) E [Z (.ref bx),Z (.tup [.int (2:Nat),.int (2:Nat),.int (3:Nat),.ref pi]),Y] F:=by
   rintro E us pi F rfl hU j e5;nofun;refine yf ∅ λpo M6 g6 n6 e6=>?_
   ac_nf;refine Fq ∅ rq hU e6 (g6 _ _ e5) λqs pf M7 G g7 n7 e7=>?_
   have x7:=j.ge (g6.trans g7);have x6:=j.ge g6;exact⟨by rw[A0];decide,q 4 qs _ _ _ pf M7 (by decide) G x7 (x6.none n7 (kW x6.box n7)) e7⟩
  have nb:∀{a:Wk} {o:O},M4 a=Z o->(∀x y z:Int,o≠.lst [.int x,.int y,.int z])->a≠bx:=λ{a o} h1 h2 z=>by obtain⟨x,y,z',e⟩:=B.box;rw[<-z,h1]at e;exact h2 _ _ _ (Ml.inj e)
  have nbp:∀{a:Wk} {ps:List Pr},M4 a=Z (.lst (ps.map prD))->Nst ps->a≠bx:=λ{a ps} h1 G=>nb h1 λx y z e=>by
   cases h:ps with
   |nil=>exact G.ls.ne h
   |cons u r=>rw[h]at e;cases e
  refine cn ∅ B.box (by decide) (by decide) λw F w0 w1 j=>?_
  have ez':=j.keep _ _ (nb ez λx y z e=>by cases e) ez
  have hw:w=0∨w=1:=∅
  rcases hw with rfl|rfl
  ·exact aN ez' (d:=.tup [.int (2:Nat),.int (2:Nat),.int (3:Nat),.ref pa]) rfl (fin _ _ _ _ rfl rq (B.trans j) (j.keep _ _ (nbp ea rq) ea))
  ·exact aN ez' (d:=.tup [.int (2:Nat),.int (2:Nat),.int (3:Nat),.ref p]) rfl (fin _ _ _ _ rfl hN (B.trans j) (j.keep _ _ (nbp e2 hN) e2))
 rw[if_neg (by simp[hv])]
 nofun;refine cn ∅ Fn.box (by decide) (by decide) λu M2 u0 u1 x2=>?_
 obtain⟨n,hn,en⟩:∃n:Nat,(2<=n/\n<=5)/\(2:Int)+u=n:=⟨(2+u).toNat,∅,∅⟩
 ac_nf;rw[en];nofun;refine Ay ∅ hn x2.box λps p U G B n3 e3=>?_
 have J:=Fn.trans x2;exact⟨by rw[A0];decide,q n ps _ _ _ p U hn G (J.trans B) (J.none n3 (kW x2.box n3)) e3⟩
theorem GK{a:Int}(q:Q (.bl Wj) M):wNe (.tup [.int a,.int b]) (.tup [.int a,.int b]) M Q:=by
 refine⟨.tuple [.int a,.int b],.tuple [.int a,.int b],rfl,rfl,?_⟩;rw[show Mu (.tuple [.int a,.int b]) (.tuple [.int a,.int b])=F2 by simp[Mu,QB]]
 exact q
theorem GM{a:Int}(q:Q (.bl F2) M):wEq (.tup [.int a,.int b]) (.tup [.int a,.int b]) M Q:=by
 refine⟨.tuple [.int a,.int b],.tuple [.int a,.int b],rfl,rfl,?_⟩;rw[show Mu (.tuple [.int a,.int b]) (.tuple [.int a,.int b])=F2 by simp[Mu,QB]]
 exact q
theorem nP{k:Nat}(hk:34<=k)(hn:2<=n/\n<=5)(hS:LS n 29 ps)(hb:2<=b/\b<=1000){pp:Wk}{a0:D}{N1 N2:Int}(h1:0<=N1/\N1<2^140)(h2:0<=N2/\N2<2^140)(hP:M 89=Z (.tab ⟨60,98,60,137⟩ (Lf "row_times.<locals>.<lambda>")))(ep:M pp=Z (.lst (ps.map prD)))(q:∀M',Ge M M'->Q (.bl F2) M'):phi tab k 32 [.tup [a0,a1,a2,.ref pp],.int n,.int b,.int N1,.int N2] M Q:=by
 obtain⟨F,j,rfl,lF⟩:=vk hb.1 140 N1 h1.1 h1.2;obtain⟨G,z,rfl,lG⟩:=vk hb.1 140 N2 h2.1 h2.2;have JS:=hS.len;refine ar ∅ rfl rfl (ρ:=[Z _,Z _,Z _,Z _,Z _,Y,Y,Y,Y,Y,Y,Y,Y]) rfl ?_
 unfold d32 L2.Mi.K66.b32;nofun;refine nO ∅ hb j ∅ λp1 M1 g1 n1 e1=>?_
 ac_nf;refine nO ∅ hb z ∅ λp2 M2 g2 n2 e2=>?_
 ac_nf;nofun;have e1:=g2 _ _ e1;refine be e1 ?_;refine be e2 ?_;ac_nf;rw[m1,m1];have JL:(if(F.length:Int)<G.length then(G.length:Int)else F.length)=((max F.length G.length:Nat):Int):=by split<;>lia
 rw[JL];have JM:F.length<=max F.length G.length:=Vu ..;have JN:G.length<=max F.length G.length:=V9 ..;have JT:1<=F.length:=by obtain⟨x,R,e,_⟩:=j.ex;rw[e];simp
 have gM:=g1.trans g2;have JU:max F.length G.length<=141:=Nat.max_le.mpr ⟨∅,∅⟩
 have JO:max G.length F.length=max F.length G.length:=Nat.max_comm ..;nofun;refine⟨_,rfl,be (gM _ _ ep) ?_⟩;rw[m1];refine Az ∅ ∅ ∅ ∅ ∅ ?_
 nofun
 by_cases Fn:(60:Int)<(max F.length G.length:Nat)
 ·rw[if_pos (by simpa using Fn)]
  nofun;exact q _ gM
 rw[if_neg (by simpa using Fn)]
 by_cases B:(700:Int)<(tms ps.length n 8 (max F.length G.length):Nat)
 ·rw[if_pos (by simpa using B)]
  nofun;exact q _ gM
 rw[if_neg (by simpa using B)]
 have mok:∀{F G:List Int},Nm b F->Nm b G->F.length<=60->G.length<=60->MulOk (ev b F) (ev b G):=λj z lF lG=>.inr (.inr ⟨tG ∅ j.dg ∅,tG ∅ z.dg ∅⟩)
 nofun;refine rB ∅ hn hS ∅ j z ∅ ∅ (gM _ _ hP) (gM _ _ ep) λM3 g3=>?_
 have JP:=gM.trans g3;refine⟨mok j z ∅ ∅,by rw[A0];decide,GK ⟨_,rfl,?_⟩⟩
 rw[if_neg (by decide)]
 refine oR ?_;show wAr (phi tab (k-1) 13) (wA (phi tab (k-1)) _) _ _ _;unfold wAr;dsimp only[wA,au,aW];refine⟨_,rfl,?_⟩;dsimp only;refine⟨_,rfl,?_⟩;dsimp only;refine oT rfl rfl (g3 _ _ e1) JM ∅ λq1 M4 g4 e4=>?_
 refine oT rfl rfl (g4 _ _ (g3 _ _ e2)) JN ∅ λq2 M5 g5 e5=>?_
 have J:=(JP.trans g4).trans g5;refine yg ∅ hn (sz:=max F.length G.length) ∅ ∅ hS (J _ _ hP) (J _ _ ep) (by rw[B0,Ly];lia) (by rw[B0,Ly];lia) (iT ∅ j.dg) (iT ∅ z.dg) (g5 _ _ e4) e5 λpr M6 g6 n6 e6=>?_
 have JQ:=J.trans g6;refine⟨_,rfl,?_⟩;nofun;nofun;refine⟨_,e6,λpv fv=>⟨_,ai aa,?_⟩⟩;have gv:=Ge.new (o:=.lst ((cv (max F.length G.length) (F++z4 (max F.length G.length-F.length) 0) (G++z4 (max F.length G.length-G.length) 0)).map D.int).reverse) fv;have L:=JQ.trans gv;have O:=aa (M:=M6) (a:=pv) (o:=.lst ((cv (max F.length G.length) (F++z4 (max F.length G.length-F.length) 0) (G++z4 (max F.length G.length-G.length) 0)).map D.int).reverse);have lA:(F++z4 (max F.length G.length-F.length) 0).length=max F.length G.length:=by rw[B0,Ly];lia
 have lB:(G++z4 (max F.length G.length-G.length) 0).length=max F.length G.length:=by rw[B0,Ly];lia
 have JJ:ev b (cv (max F.length G.length) (F++z4 (max F.length G.length-F.length) 0) (G++z4 (max F.length G.length-G.length) 0))=ev b F*ev b G:=by rw[Bb lA lB ∅,ik,ik]
 generalize ag M6 pv _=M7 at L O⊢;clear gv fv;generalize cv (max F.length G.length) (F++z4 (max F.length G.length-F.length) 0) (G++z4 (max F.length G.length-G.length) 0)=C at O JJ⊢;refine bn (f:=.int) (ys:=C.reverse) (I:=λl ρ M'=>(∃U,ρ=[Z (.tup [a0,a1,a2,.ref pp]),Z (.int n),Z (.int b),Z (.int (ev b F)),Z (.int (ev b G)),Z (.ref p1),Z (.ref p2),Z (.int (max F.length G.length:Nat)),Z (.int (tms ps.length n 8 (max F.length G.length):Nat)),Z (.ref pr),Z (.int (tms ps.length n 8 (max F.length G.length):Nat)),Z (.int (ev b l.reverse)),U])/\M'=M7) (by rw[Va]) ⟨⟨_,rfl⟩,rfl⟩ (λl ρ M' h=>by rw[h.2];exact ai O) ?_ ?_
 ·rintro l x r ρ M' e ⟨⟨U,rfl⟩,rfl⟩;refine⟨_,rfl,λFn JR=>?_⟩;rw[bj];ac_nf;refine⟨gw ⟨∅,∅⟩,?_⟩
  refine JR _ _ ⟨⟨Z (.int x),?_⟩,rfl⟩;rw[TF,show[x].reverse++l.reverse=x::l.reverse from rfl,show ev b (x::l.reverse)=x+b*ev b l.reverse from rfl,Pu b,Int.add_comm x]
 ·rintro ρ M' ⟨⟨U,rfl⟩,rfl⟩;rw[QK,JJ];nofun;refine⟨mok j z ∅ ∅,?_⟩
  rw[if_neg (by simp),if_neg (by simp)]
  nofun;refine Fm (s:=af 27) rfl ∅ ∅ (L _ _ ep) λpm M8 g8 n8 e8=>?_
  have JK:=L.trans g8;ac_nf;refine rB ∅ hn hS.mir ∅ z j ∅ ∅ (JK _ _ hP) e8 λM9 g9=>?_
  rw[m1,JO,Pu (ev b G)];exact⟨mok j z ∅ ∅,by rw[A0];decide,GM (q _ (JK.trans g9))⟩
theorem law_holds(ns:List Int)(hl:ns.length<=63):phi tab 40 33 [.con (ns.map D.int)] (dE lmM) λd _=>d=.bl F2:=by
 refine ar ∅ rfl rfl (ρ:=[Z _,Y,Y,Y,Y,Y,Y,Y]) rfl ?_
 unfold d33 L2.Mi.K66.b33;have j:dE lmM 89=Z (.tab ⟨60,98,60,137⟩ (Lf "row_times.<locals>.<lambda>")):=rfl;generalize dE lmM=M0 at j⊢;nofun;refine EZ (s:=af 31) (fc:=22) (fm:=23) (sc:=af 29) rfl rfl (tL ∅) ∅ (by decide) λb x y B=>?_
 have JJ:(89:Wk)≠b:=λz=>by rw[z,B]at j;cases j
 have G:=(Ge.new (o:=.lst [.int x,.int y,.int 0]) B) _ _ j;have hb:Box b (ag M0 b (.lst [.int x,.int y,.int 0])):=⟨_,_,_,aa⟩;generalize ag M0 b (.lst [.int x,.int y,.int 0])=M1 at G hb⊢;nofun;refine nN ∅ hb λN1 M2 a0 a1 x2=>?_
 ac_nf;refine nN ∅ x2.box λN2 M3 b0 b1 x3=>?_
 have JK:=x2.trans x3;have JM:(10:Int)^40<2^140:=by decide +kernel
 ac_nf;nofun;refine⟨by decide,by decide,?_⟩
 refine bn (f:=λi:Nat=>.int (i:Nat)) (ys:=q7 (Int.toNat 3)) (I:=λl ρ M'=>(∃o4 o5 o6 o7,ρ=[Z (.con (ns.map D.int)),Z (.ref b),Z (.int N1),Z (.int N2),o4,o5,o6,o7])/\Bx b M1 M') aS ⟨⟨_,_,_,_,rfl⟩,JK⟩ (λ_ _ _ _=>trivial) ?_ ?_
 ·rintro l i r ρ M4 e ⟨⟨o4,o5,o6,o7,rfl⟩,Fn⟩;refine⟨_,rfl,λF hF=>?_⟩;nofun;refine AA ∅ Fn.box λn ps c0 c1 c2 pp M5 hn hS fv n5 e5=>?_
  refine⟨_,rfl,?_⟩;have JL:=kW Fn.box n5;have fv:=Fn.trans fv;refine gB (λρ M'=>∃bs:Int,ρ=[Z (.con (ns.map D.int)),Z (.ref b),Z (.int N1),Z (.int N2),Z (.int (i:Nat)),Z (.int n),Z (.tup [c0,c1,c2,.ref pp]),Z (.int bs)]/\2<=bs/\bs<=1000/\Bx b M5 M') (λR hR=>?_) ?_
  ·ac_nf;refine cn ∅ fv.box (by decide) (by decide) λu Ma u0 u1 xa=>?_
   ac_nf;refine⟨by rw[A0];decide,λp hp=>?_⟩
   have J:=kW xa.box hp;have xa':=xa.ge (.new (o:=.lst [.int 1000,.int 1000,.int 10,.int (2+u)]) hp);have ea:=aa (M:=Ma) (a:=p) (o:=.lst [.int 1000,.int 1000,.int 10,.int (2+u)]);generalize ag Ma p (.lst [.int 1000,.int 1000,.int 10,.int (2+u)])=Mb at xa' ea⊢;refine cn ∅ xa'.box (by decide) (by decide) λw Mc w0 w1 xc=>?_
   have ec:=xc.keep _ _ J ea;have xc:=xa'.trans xc;have hj:w=0∨w=1∨w=2∨w=3:=∅
   rcases hj with rfl|rfl|rfl|rfl
   ·exact aN ec (d:=.int 1000) rfl (hR _ _ ⟨_,rfl,∅,∅,xc⟩)
   ·exact aN ec (d:=.int 1000) rfl (hR _ _ ⟨_,rfl,∅,∅,xc⟩)
   ·exact aN ec (d:=.int 10) rfl (hR _ _ ⟨_,rfl,∅,∅,xc⟩)
   ·exact aN ec (d:=.int (2+u)) rfl (hR _ _ ⟨_,rfl,∅,∅,xc⟩)
  rintro ρ M6 ⟨bs,rfl,L,O,U⟩;have e6:=U.keep _ _ JL e5;have U:=fv.trans U;have G:=U.keep _ _ JJ G;nofun;refine nP ∅ hn hS ⟨L,O⟩ ⟨a0,∅⟩ ⟨b0,∅⟩ G e6 λM7 g7=>?_
  refine⟨F2,rfl,?_⟩;rw[if_neg (by decide)]
  ac_nf;refine⟨by decide,by decide,?_⟩
  refine nP ∅ hn hS ⟨L,O⟩ ⟨∅,∅⟩ ⟨∅,∅⟩ (g7 _ _ G) (g7 _ _ e6) λM8 g8=>?_
  refine⟨F2,rfl,?_⟩;rw[if_neg (by decide)]
  exact hF _ _ ⟨⟨_,_,_,_,rfl⟩,U.ge (g7.trans g8)⟩
 ·rintro ρ M4 ⟨⟨o4,o5,o6,o7,rfl⟩,Fn⟩;dsimp only;nofun
end K66
end
end
end Mi
end L2
end
namespace PySem.W.Fast
theorem tw14308747125702971617:True:=trivial
theorem tw214823652041476671:True:=trivial
theorem tw2088529769269221673:True:=trivial
theorem tw7481533224051919522:True:=trivial
theorem tw6248604070064678298:True:=trivial
theorem tw6817018669842614143:True:=trivial
theorem tw7303560206534178564:True:=trivial
theorem tw8847569732720381802:True:=trivial
theorem tw4132331572071401139:True:=trivial
theorem tw15214361632045234377:True:=trivial
theorem tw16138693163747200744:True:=trivial
theorem tw4559311603400887705:True:=trivial
theorem tw11549622255813623160:True:=trivial
theorem tw10049774412634408004:True:=trivial
theorem tw7682720990223286278:True:=trivial
theorem tw15981941592975537044:True:=trivial
theorem tw3673080668425343186:True:=trivial
theorem tw18022764193706282591:True:=trivial
theorem tw14509356754321131735:True:=trivial
theorem tw2186618007048369901:True:=trivial
theorem tw11915771001896369864:True:=trivial
theorem tw11287113968169844997:True:=trivial
theorem tw16935068470301804082:True:=trivial
theorem tw8570599358690431732:True:=trivial
theorem tw9425934226406423292:True:=trivial
theorem tw4677227319646430539:True:=trivial
theorem tw18438798195078023659:True:=trivial
theorem tw15284524623891943084:True:=trivial
theorem tw15469216709345973477:True:=trivial
theorem tw2552623417599637423:True:=trivial
theorem tw9760446204037246472:True:=trivial
theorem tw5262735568005337770:True:=trivial
theorem tw2445256230454121785:True:=trivial
theorem tw17722189235872663659:True:=trivial
theorem tw15017024329383943703:True:=trivial
theorem tw12003585541719265244:True:=trivial
theorem tw5005807175030856332:True:=trivial
theorem tw12257475784275778563:True:=trivial
theorem tw3640078324043226325:True:=trivial
theorem tw9458585835257596008:True:=trivial
theorem tw15343726654290890649:True:=trivial
theorem tw13021755310979894631:True:=trivial
theorem tw6958896254499717825:True:=trivial
theorem tw6690936878908111672:True:=trivial
theorem tw17279451957431436614:True:=trivial
theorem tw9937050975370356115:True:=trivial
theorem tw17035458282795303452:True:=trivial
theorem tw10015958682640734132:True:=trivial
theorem tw15209909758192227675:True:=trivial
theorem tw6041690457156160781:True:=trivial
theorem tw17546066896994943930:True:=trivial
theorem tw14212158019803715131:True:=trivial
theorem tw2450850358511832682:True:=trivial
theorem tw15619424024401285423:True:=trivial
theorem tw17527501420995654202:True:=trivial
theorem tw10159541714086735530:True:=trivial
theorem tw2395765721315019556:True:=trivial
theorem tw16220823660834362050:True:=trivial
theorem tw5644825450110955602:True:=trivial
theorem tw8336603809592573682:True:=trivial
theorem tw6993885315958493887:True:=trivial
theorem tw16279545971847892190:True:=trivial
theorem tw15328430013843192932:True:=trivial
theorem tw5553989505987158039:True:=trivial
theorem tw7419528825900424781:True:=trivial
theorem tw15961251672792263792:True:=trivial
theorem tw14577739968515474019:True:=trivial
theorem tw15359179230517474986:True:=trivial
theorem tw14998872662966918247:True:=trivial
theorem tw2426379897676855773:True:=trivial
theorem tw17377471421681587893:True:=trivial
theorem tw9601794179665527879:True:=trivial
theorem tw12906967447622496537:True:=trivial
theorem tw17774376525240684917:True:=trivial
theorem tw8674037827421311419:True:=trivial
theorem tw5582529674240227054:True:=trivial
theorem tw8749109305559099038:True:=trivial
theorem tw8278871883044433783:True:=trivial
theorem tw12403897783087872281:True:=trivial
theorem tw12812363961881889790:True:=trivial
theorem tw5020920338001258475:True:=trivial
theorem tw2370196072992169218:True:=trivial
theorem tw2726109306106946739:True:=trivial
theorem tw15139404232333596537:True:=trivial
end PySem.W.Fast
open PySem.W in
set_option maxRecDepth 100000 in
set_option maxHeartbeats 0 in
theorem PySem.Challenge.cw_fewtimes_k66_whole_long_numbers_by_any_s_holds : PySem.Challenge.rw_fewtimes_k66_whole_long_numbers_by_any_s.Holds := by
 w_on;o_law;k_head;(case hw=>w_witness2)
 k_fill
 refine L2.Mi.K66.walk (l:=PySem.Challenge.rw_fewtimes_k66_whole_long_numbers_by_any_s) rfl rfl L2.Mi.K66.law_holds (fun w h Y=>⟨PySem.W.km_in_of Y,PySem.W.km_tabs_of Y⟩) ?T ?F
 case T =>
  intro w q hq;simp only [L2.Mi.K66.lmT,List.mem_cons,List.not_mem_nil,or_false] at hq
  rcases hq with rfl <;> (refine ⟨L2.Mi.hd_in (by (show _=_;k_is)) rfl,?_⟩;rfl)
 case F =>
  intro w mg fa h KX G hmg;refine' L2.Mi.K66.all_mk KX G hmg ?z ?_ ?_ ?_ ?_ ?_ ?_ ?_ ?_ ?_ ?_ ?_ ?_ ?_ ?_ ?_ ?_ ?_ ?_ ?_ ?_ ?_ ?_ ?_ ?_ ?_ ?_ ?_ ?_ ?_ ?_ ?_ ?_ ?_ ?_ ?_ ?_ ?_ ?_ ?_ ?_ ?_ ?_ ?_ ?_ ?_ ?_ ?_ ?_ ?_ ?_ ?_ ?_ ?_ ?_ ?_ ?_ ?_ ?_ ?_ ?_ ?_ ?_ ?_ ?_ ?_ ?_ ?_ ?_ ?_ ?_ ?_ ?_ ?_ ?_ ?_ ?_ ?_ ?_ ?_ ?_ ?_ ?_ ?_ ?_ ?_ ?_ ?_ ?_ ?_ ?_ ?_ ?_ ?_ ?_ ?_ ?_ ?_ ?_ ?_ ?_ ?_ ?_ ?_ ?_ ?_ ?_ ?_ ?_ ?_ ?_ ?_ ?_ ?_ ?_ ?_ ?_ ?_ ?_ ?_ ?_ ?_ ?_ ?_ ?_ ?_ ?_ ?_ ?_ ?_ ?_ ?_ ?_ ?_ ?_ ?_ ?_ ?_
  case z =>
   intro x hx;simp only [L2.Mi.bltNames,List.mem_cons,List.not_mem_nil,or_false] at hx
   rcases hx with rfl | rfl | rfl | rfl | rfl | rfl | rfl | rfl | rfl | rfl | rfl | rfl | rfl | rfl | rfl | rfl | rfl | rfl | rfl | rfl <;> k_is
  all_goals try (show _=_;first | k_is | exact L2.Mi.hd_in (by (show _=_;k_is)) rfl)
