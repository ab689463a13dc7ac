import PyProof.Rows.All
import Wide.All
import OpenK.AllK
import Wide.FinOn
import Lean
import PyProof.EqAt
import PyProof.EqKinds
import PyProof.TupleCall
import PyProof.ZipIter
import PyProof.EnumMake
import PyProof.EnumFor
import PyProof.CollectIter
import PyProof.TupleKey
import PyProof.DictRoadsH
import PyProof.P3Eq
import PyProof.Rows.SeqMore
import PyProof.ConsumeWalk
import PyProof.Rows.SortShellK
import PyProof.DictItems
import PyProof.DictWalks
import PyProof.AttrMissHeap
import PyProof.DictIter
import PyProof.MaxThree
import PyProof.SeqI3
import PyProof.DictTruth
import PyProof.Rows.TupDisplay
import PyProof.ListCopy
import PyProof.NeKinds
import PyProof.RaisesDict
import KE.KDictOf
import PyProof.Rows.CallKwBuiltin
import PyProof.DelItemList
import PySem.Challenge.RW_fewtimes_k47_long_rows
set_option Elab.async false
set_option linter.all false
set_option compiler.extract_closed false
set_option genSizeOf false
set_option bootstrap.genMatcherCode false
set_option maxRecDepth 100000
set_option maxHeartbeats 4000000
open PySem.W (Frag)
open PySem renaming wpAny_bind->g8,Value->gV,Shared->q7,wpAny_pure->z0,sizeLine_eq->D2,sizeLine->L3,wpAny->La,model->Lk,starEach->Ll,Program->Ln,wpAny_setField_rec->Lv,wpAny_callSpecial?_slot->LG,World->LL,Around->LQ,wpAny_call_entry->LR,wpAny_field->LV,mem_of_lookup->Me,wpAny_holding->Mj,Comprehension->Ms,DictEntry->Mt,wpAny_mono->Mz,mainGlobals->MB,Paired->MK,assignEach->MM,PyData->MP,wpAny_newObj_type->MQ,wpAny_Call_Name_kw->N1,sysModules->N9,binaryOp->Nc,wpAny_pyIter_tuple->Nj,FuncData->Nk,Builtin->Nq,wpAny_rule->Nt,compareOp->NB,rawInt->NH,cellsFrom->NI,foldedSetIterable->NP,wpAny_pyIter_list->NQ,wpAny_attempt->NZ,inplaceOp->O1,pyNext->O9,NameKind->Ob,wpAny_seqItems->Od,wpAny_passesOwn->Oh,wpAny_truthy_bool->Ol,cLine->Om,codeAny_mono->Oo,wpAny_of_eq->Oq,wpAny_standAt->Ov,swappedStores->Ow,IsPair->OA,wpAny_isInstance->OE,bootBuiltins->OJ,backTo->OL,codeAny->ON,wpAny_typeOf->OP,wpAny_loadPart'->P0,wpAny_ite_false->P1,codeAny_builtin->P6,Arguments->P9,Operator->Ph,firstArgMember->Pn,swapsWith->Pp,swapsWithSole->PD,behindInMarks->PF,Reads->PJ,tupleKind_room_in1->PU,sliceBounds->Q4,Model->Q9,wpAny_newTuple->Qf,isSubtype_type->Qj,wpAny_ite_true->Ql,call_meets->Qv,wpAny_newList->QB,wpAny_updateSeq_pair->QH,letOwnedTupleGo->QL,Keyword->QX,tupleKind->R8,wpAny_newFunctionEnv_cells->Rc,isSubtype_stop->Rj,wpAny_binaryOp_repeat_ref->Rr,standAt->Rz,getItem->RA,IsZip->RC,wpAny_letGo->RE,assignInOrder->RG,attributeBase->RH,wpAny_comprehension_free->RJ,wpAny_onRaise->RN,noFill_tuple_add->RY,builtinsNs->Sg,wpAny_pyNext_list_item->Sj,IsPart->Sk,seqIndex_neg->Sl,wpAny_getItem_list_neg->Sn,typeIs_int->Sr,IsEnum->Sv,wpAny_execs_nil->SA,pushCells_keeps->SE,wpAny_specialOf->SH,wpAny_pyNext_list_end->SJ,codeAny_call_function->SK,builtinLookup_eq_fast->SO,wpAny_loadName_local->SS,pyIter->SU,bindArgs->SW,seqIndex_of->SY,keywordEach->T2,newFunctionEnv->T3,ZipApart->T5,ReadsAll->T8,setItem->Th,BindsTo->Ti,callerA->Tj,valueAt->To,wpAny_loadName_cell->Tp,seq_tuple_add->Tv,wpAny_handled->Tw,plainId_quiet->Tz,mroOf_keyiter->TB,foldedForSure->TK,wpAny_call->TU,concat_meets->Ub,wpAny_sequenceKey->Ud,wpAny_pyIter_enum->Uk,wpAny_pyIter_slot->Uu,wpAny_Dict_empty->UC,pushCells->UE,wpAny_pyIter_zip->UI,IsEnumOut->UJ,entryFor_of_tree->UQ,notIterableAtAll->US,fillsInplaceSlot->UU,unpackItems->V1,atKey->V3,wpAny_throw->V5,richCompare->V7,wpAny_Name->Vl,bindName->Vm,wpAny_load->Vn,Result->Vp,bindL->Vq,bindC->Vr,typeLookup->Vs,backToKw->Vt,call->Vu,newExc->Vw,newTuple->Vx
open PySem.Heap renaming get?_push_of_some->i0,lt_size->KR,get?_push_size->KY,get?_update_ne->Ml,SameBut->MY,size_push->Nf,IsTuple->R0,get?_update_other->So,get?_update_self->SM,IsList->T6,get?_push_cases->T7,ExtBut->V4
open Bool renaming and_eq_true->p0,false_ne_true->KW,not_eq_true'->Mh,false_eq_true->N3,not_eq_true->Qw,false_or->QA,and_eq_true_iff->QI,or_eq_true->QR
open List renaming length_map->r0,getElem?_eq_getElem->tv,range->z4,getElem?_append_right->D0,replicate->D1,length_append->I7,pairwise_append->KS,getD_eq_getElem?_getD->KU,mem_cons->KZ,size_toArray->L5,getElem?_eq_some_iff->L7,getElem?_map->L8,mem_map->L9,getElem?_append_left->Lb,map_cons->Lc,mem_append->Ld,append_assoc->Lh,mem_of_getElem?->Lj,mem_map_of_mem->Lm,mem_append_right->Lo,mem_cons_of_mem->Lq,length_take->Lu,map_append->LA,getElem?_range->LC,mem_append_left->LD,mem_cons_self->LH,toList_toArray->LI,length_range->LJ,not_mem_nil->LK,map_congr_left->LM,mem_range->LP,length_eq_zero_iff->LU,length_cons->Mf,length_pos_iff->Mk,nodup_iff_pairwise_ne->Mo,length_singleton->Mp,getElem?_eq_none->Mq,replicate_succ->Mr,flatten_cons->Mv,pairwise_map->Mx,append_nil->MJ,any_eq_true->MN,drop_eq_getElem_cons->MR,map_map->MU,nodup_cons->MV,take_append_drop->MX,find?_cons->N6,length->Nb,dropLast_concat_getLast->Ng,length_drop->Nl,mem_iff_getElem->Nm,any_cons->Nr,take_of_length_le->Nw,ext_getElem?->Ny,flatMap_cons->NA,length_nil->ND,getElem?_take_of_lt->NJ,all_cons->NM,mem_filter->NR,flatten_append->NV,getElem?_set_self->NW,drop_eq_nil_of_le->NX,lookup_cons->O6,Perm->O7,mem_flatMap->O8,perm_append_comm->Of,mem_of_mem_drop->Ot,mem_of_mem_take->Ou,getElem?_cons_succ->OG,all_eq_true->OH,map_nil->OR,find?_cons_of_neg->OU,getElem?_drop->OV,filter_append->OW,of_mem_zip->OX,forIn_cons->OZ,range_succ->P7,length_filter_le->Pc,nodup_append->Pf,getElem?_set_ne->Pg,lookup->Pm,getElem_mem->Pq,mem_reverse->Pt,cons_append->Pu,getLast?_eq_getElem?->Px,flatMap_append->Py,nil_append->PN,sum_append->PR,zip_cons_cons->PV,pairwise_cons->PX,mem_singleton->PZ,filter_cons_of_pos->Q5,filter_cons_of_neg->Q7,zipWith->Qg,extract->Qh,reverse_perm->Qi,length_eq_one_iff->Qm,find?_cons_of_pos->Qn,foldl_append->Qo,length_replicate->Qq,foldl->Qu,getElem?_mapIdx->QJ,length_set->QM,filterMap_cons->QU,map_set->R7,forIn_nil->Ri,drop_drop->Rl,mapM_cons->Ro,find?_eq_none->Rq,mem_of_find?_eq_some->Ru,getLast?_map->RF,sum_cons->RV,getElem?_replicate->RX,zipIdx_cons->S2,getElem?_cons_zero->Sb,zipWith_cons_cons->Sy,foldl_cons->SD,pairwise_reverse->SN,pairwise_flatMap->SR,reverse_reverse->T9,drop_zero->Tb,length_reverse->Tt,map_take->TL,mem_filterMap->TR,set_cons_zero->U5,set_cons_succ->U6,take_add_one->Up,drop_length->UK,ext_getElem->UM,perm_middle->UN,map_snd_zip->UP,map_flatMap->UY,nodup_range->UZ,zipIdx_nil->Ve,find?_some->Vh
open PyProof.Rows renaming wpS_bind->J4,Keyed->L4,pendingOf->Lf,arrOf->LF,wpS_forRange->Mg,SortSt->Mn,callWith_type1->MA,kindOf->Na,failedOf->Nv,wpS_modify->Nx,slot_tuple_getitem->NG,get?_update_seq->NU,listUpdate_at->OB,wpS_get->OD,setPending->Po,SortKind->PM,envOfC->Qs,callWith_builtin1->Qt,mem_zip_self->R6,assignInOrder_cons->Rb,AllBare->Ry,seqSlot_of->S8,subscriptTail_builtinR->Sm,entry_tuple_getitem->Tq,args_tuple_getitem->TY,seqObj->U2,assignInOrder_nil->U8,listItems_at->Ur,entry_list_iadd'->UR,keyKind'_eq->V8,seqEpoch_at->V9,IntsAre->Vk,boot_range->Vo,mergeAt'->Vy
open Int renaming toNat_natCast->L6,eq_ofNat_of_zero_le->LX,toNat_of_nonneg->OC,natCast_add->PQ,emod_lt_of_pos->PY,emod_nonneg->QT,natCast_mul->SG
open Nat renaming le_refl->Le,ne_of_lt->Lr,lt_of_lt_of_le->Lz,le_trans->Mu,lt_irrefl->My,ne_of_gt->MD,mul_le_mul->N4,min_eq_left->N7,mul_le_mul_right->Np,zero_le->NF,le_of_lt->OK,succ_mul->OQ,add_mul->Q8,add_assoc->QC,div_lt_of_lt_mul->QK,mul_comm->QY,sub_self->R4,zero_add->R5,mul_assoc->RW,succ_le_succ->S9,div_add_mod->SI,mul_add->Tf,mul_one->Tg,lt_of_le_of_lt->U7,lt_succ_self->UL,div_eq_of_lt->V0,two_pow_pos->Vi,mul_add_div->Vj,not_lt->Vv,succ->VF,mod_lt->VG
open Array renaming toList_append->Lg,toList_push->Li,getElem?_toList->Lp,length_toList->Ly,getElem?_eq_getElem->LO,toList_reverse->LW,toList_extract->NO,getElem?_eq_none->OT,size_append->Pe,toList_inj->Qy,map->Qz,size_push->QS,toList_setIfInBounds->Rm,toList->Si,all_eq_true->Us,filterMap->Vg
open PySem.Str renaming ofString->Lw
open PySem.W renaming mg_of->Lx,kia_one->N5,codeHdIn->N8,fnOf->NL,keepIn->Oa,cellsFrom_some->OO,codeIn->Pk,nsIn->R3,methodObj->Rx,instObj->Sz,OpenLaw->SF,lookIn->SV,codeHd_of_K->Tr,callWith_K->TV,codeRec_of->TX,kitx_list->U9,kitx_dict->Ua,FnAt->Uh,plainGet->UA
open PySem.Value renaming ref->LB,type->LZ,none->Ni,bool->TQ,int->Uy,str->Uz
open PySem.NameKind renaming free->LN,cell->NN
open List.Perm renaming append_left->LY,append_right->Mw,of_eq->P2,refl->Ta
open PySem.PyData renaming eqv->Mm,canLayAll0->MZ,depthAll->NS,depth->OS,canLay0->Qk,eqvAll->QE,tuple->Um,list->V6
open Option renaming some->MW,map_some->Oj,isSome_iff_exists->Ox,bind_some->OF,getD_none->RZ,join_some->Sd,map_eq_some_iff->Ss,isSome_some->TZ,isSome_map->Ug,bind_none->UW,join_none->UX
open PySem.SeqAt renaming readOf->Nh,readOf_eq->NT,eqAt_reads->UO
open PySem.Obj renaming mapSeq->Nu,data_mapFields->U0
open PySem.Builtin.Dict_items renaming pairFromOwner->Nz,ownedTupleIsFree->O0,isOneOf->Oe
open PySem.Builtin.List renaming listLengthHint->NY,listTooLong->Oz,listFitsIndex->Rp
open PySem.F renaming slot_tuple_iterator_next->Oc,slot_enumerate_next->Pb,args_tuple_add_2->PH,entry_tuple_add->Q3,slot_tuple_add->Qc,slot_dict_get->Qr,slot_int_rmul->QN,args_tuple_iterator_next_1->QO,slot_zip_next->QP,plain_extend_loop->QW,entry_tuple_iterator_next->QZ,slot_list_insert->RQ,args_dict_get_3->S0,args_enumerate_next_1->S4,plainAttrs_list->Sa,entry_dict_get->Su,entry_enumerate_next->Sw,slot_dict_items_iter->Sx,entry_proto_collect->SQ,entry_extend_loop->Tu,args_int_rmul_2->Ue,args_zip_next_1->Ui,slot_dict_items->Uv,entry_int_rmul->UB,entry_zip_next->UG,slot_dict_iter->UT,fills_int_mul->Vd,slot_tuple_lt->Vf
open PySem.Builtin.Slice renaming slicePlaces->Og,sliceAdjust->Pw,sliceApplied->Rf
open LawfulBEq renaming eq_of_beq->Oi
open PySem.Builtin.Tuple renaming tupleExact->Oy,tupleCompareSizes->Qp,tupleItemsOf->Rg,tupleIsExact->Rh,tupleTooMany->Rk,tupleHashOf->Rt
open PySem.Shared renaming heap->OI,TypeIs->Tx
open PySem.Calls renaming spliced_cons->OM,spliced_nil->Qb,callWith_builtin->Qe,evalArgs_plain->QG,Name_function_global->Ra
open ForInStep renaming yield->OY
open List.cons renaming injEq->P4
open PySem.Data renaming seq->P5,fields->V2
open And renaming intro->Pa
open True renaming intro->Pj
open PySem.Paired renaming length->Pz
open PySem.Builtin.Range renaming rangeSize->Q0
open PyProof.Rows.SortSt renaming mk'->Qx
open Prod.mk renaming injEq->QF
open PySem.Builtin.Int renaming intBits->QV
open PyProof.Rows.IsTup renaming new->R9
open List.Pairwise renaming nil->RB
open PySem.Env renaming blockKind->RT,kindOf->U4
open Function renaming comp->RU
open Sum renaming inl->Se,inr->Sf
open PySem.Around renaming frames_deeper->SX,in1_handled->U1
open PySem.Expr renaming Subscript->Tc,Attribute->Td,Constant->TF,ListComp->TH,UnaryOp->Uw,Compare->Ux,BoolOp->Va,BinOp->Vz,IfExp->VA,Tuple->VB,Slice->VC,Name->VH,List->VI,Call->VJ,Dict->VL
open PySem.Stmt renaming AugAssign->Te,Continue->TJ,Assign->Vb,Return->Vc,While->VD,Break->VE,Expr->VM,Pass->VN
open PySem.Heap.SameBut renaming update->Ts
open PySem.SeqAt.EqAt renaming int_str->TM,str_int->TN
open PySem.Code renaming quiet_builtin->U3,builtin->Ut
open Prod renaming ext->Uc
open PySem.Heap.IsTuple renaming push->Uj
open Iff renaming rfl->Ul
open Option.some renaming injEq->Uo
open Exists renaming intro->Uq
open LawfulMonad renaming pure_bind->UD
open PySem.Heap.IsList renaming push->UH
open Option renaming some->Z,none->Y
open Bool renaming true->F2,false->Md
open PySem renaming Addr->N2
section
theorem Wa{a b c:Nat}(h:b<=c)(k:a<=b):a<=c:=Nat.le_trans k h
theorem Wb{a b c:Nat}(h:b<=c)(k:a+1<=b):a<=c-1:=Nat.le_sub_of_add_le (Nat.le_trans k h)
theorem Wc{a b:Nat}(h:Nat.ble (a+1) b=true):a<b:=Nat.le_of_ble_eq_true h
local macro_rules|`(∅)=>`(by first|with_reducible assumption|with_reducible exact Nat.le_of_ble_eq_true rfl|with_reducible exact Wc rfl|exact Wa (by with_reducible assumption) (by with_reducible exact Nat.le_of_ble_eq_true rfl)|exact Wb (by with_reducible assumption) (by with_reducible exact Nat.le_of_ble_eq_true rfl)|lia)
namespace L2
open PySem PySem.Spec PyProof.Rows
section
noncomputable abbrev Key:=Sum Int Str
noncomputable def ic:Key->gV->Bool
 |.inl k,v=>Value.isInt k v
 |.inr x,v=>Value.isStrOf x v
noncomputable def FW(w:LL):Key->Int
 |.inl k=>hashInt k
 |.inr x=>hashStr w x
theorem aX:∀{k:Key} {v:gV},ic k v=F2->(∃i t,k=Se i/\v=Uy i t)∨(∃x t,k=Sf x/\v=Uz x t)
 |.inl i,v,h=>by obtain⟨t,e⟩:=Value.isInt_shape (k:=i) (v:=v) h;exact .inl ⟨i,t,rfl,e⟩
 |.inr x,v,h=>by obtain⟨t,e⟩:=Value.isStrOf_shape (x:=x) (v:=v) h;exact .inr ⟨x,t,rfl,e⟩
theorem uU(i:Int)(t:Tok):ic (.inl i) (.int i t)=F2:=by simp[ic,Value.isInt]
theorem uV(x:Str)(t:Tok):ic (.inr x) (.str x t)=F2:=by simp[ic,Value.isStrOf]
theorem Cl(a b:Int):decide ((Se a:Key)=Se b)=(a==b):=by
 by_cases e:a=b
 ·subst e;simp
 ·have h:¬(Se a:Key)=Se b:=λq=>e (Se.inj q);rw[decide_eq_false h];exact(beq_eq_false_iff_ne.mpr e).symm
theorem Cn(a b:Str):decide ((Sf a:Key)=Sf b)=decide (a=b):=by
 by_cases e:a=b
 ·subst e;simp
 ·have h:¬(Sf a:Key)=Sf b:=λq=>e (Sf.inj q);rw[decide_eq_false h,decide_eq_false e]
theorem Co(a:Int)(b:Str):decide ((Se a:Key)=Sf b)=Md:=decide_eq_false (λq=>nomatch q)
theorem Cp(a:Str)(b:Int):decide ((Sf a:Key)=Se b)=Md:=decide_eq_false (λq=>nomatch q)
noncomputable def aU(prog:Ln)(w:LL):PySem.KeyKind prog w Key where
 is:=ic
 hash:=FW w
 inj:=λv a b ha hb=>by
  rcases aX ha with⟨i,t,rfl,rfl⟩|⟨x,t,rfl,rfl⟩
  ·rcases aX hb with⟨j,u,rfl,e⟩|⟨y,u,rfl,e⟩
   ·injection e with e1 _;rw[e1]
   ·exact nomatch e
  ·rcases aX hb with⟨j,u,rfl,e⟩|⟨y,u,rfl,e⟩
   ·exact nomatch e
   ·injection e with e1 _;rw[e1]
 byValue:=λk v h=>by rcases aX h with⟨i,t,rfl,rfl⟩|⟨x,t,rfl,rfl⟩<;>rfl
 pyHash:=λhv h=>by
  rcases aX hv with⟨i,t,rfl,rfl⟩|⟨x,t,rfl,rfl⟩
  ·exact wpAny_pyHash_int h
  ·exact wpAny_pyHash_str h
 eqBool:=λhu hv h=>by
  rcases aX hu with⟨i,t,rfl,rfl⟩|⟨x,t,rfl,rfl⟩
  ·rcases aX hv with⟨j,u,rfl,rfl⟩|⟨y,u,rfl,rfl⟩
   ·rw[Cl]at h;exact wpAny_eqBool_int h
   ·rw[Co]at h;exact TM i t y u _ _ _ _ h
  ·rcases aX hv with⟨j,u,rfl,rfl⟩|⟨y,u,rfl,rfl⟩
   ·rw[Cp]at h;exact TN x t j u _ _ _ _ h
   ·rw[Cn]at h;exact wpAny_eqBool_str h
 «strs»:=λk x t v h=>by
  rcases aX h with⟨i,u,rfl,e⟩|⟨y,u,rfl,e⟩
  ·exact nomatch e
  ·injection e with e1 _
   subst e1
   cases v<;>rfl
theorem qU(prog:Ln)(w:LL)(i:Int)(t:Tok):(aU prog w).is (.inl i) (.int i t)=F2:=uU i t
theorem qV(prog:Ln)(w:LL)(x:Str)(t:Tok):(aU prog w).is (.inr x) (.str x t)=F2:=uV x t
end
variable{us:List gV}{a b:N2}{P:Ln}{w:LL}{h:Heap}
section
inductive V where
 |non|bl (b:Bool)|int (i:Int)|str (x:Str)|byt (b:Array UInt8)|flt (b:UInt64)|ref (a:N2)|ty (n:String)
 deriving DecidableEq
noncomputable def RelV:V->gV->Prop
 |.non,u=>u=Ni
 |.bl b,u=>u=TQ b
 |.int i,u=>∃t,u=Uy i t
 |.str x,u=>∃t,u=Uz x t
 |.byt b,u=>∃t,u=Value.bytes b t
 |.flt b,u=>∃t,u=Value.float b t
 |.ref a,u=>u=LB a
 |.ty n,u=>u=LZ n
noncomputable abbrev Vals:List V->List gV->Prop:=MK RelV
theorem Vals.length{xs:List V}(r:Vals xs us):xs.length=us.length:=Pz r
theorem Vals.get:∀{xs:List V} {us:List gV} {i:Nat} {x:V},Vals xs us->xs[i]?=Z x->∃u,us[i]?=Z u/\RelV x u
 |_,_,_,_,.nil,e=>by simp at e
 |_,_,0,_,.cons r _,e=>by simp at e;subst e;exact⟨_,rfl,r⟩
 |_,_,i+1,x,.cons _ t,e=>by
  obtain⟨u,h1,h2⟩:=Vals.get (i:=i) (x:=x) t (by simpa using e)
  exact⟨u,by simpa using h1,h2⟩
theorem Vals.set{x:V}{u:gV}(r:RelV x u):∀{xs:List V} {us:List gV} (i:Nat),Vals xs us->Vals (xs.set i x) (us.set i u)
 |_,_,_,.nil=>.nil
 |_,_,0,.cons _ t=>.cons r t
 |_,_,i+1,.cons q t=>.cons q (Vals.set r i t)
theorem Vals.append:∀{xs ys:List V} {us ws:List gV},Vals xs us->Vals ys ws->Vals (xs++ys) (us++ws)
 |_,_,_,_,.nil,s=>s
 |_,_,_,_,.cons r t,s=>.cons r (Vals.append t s)
theorem Vals.take:∀{xs:List V} {us:List gV} (n:Nat),Vals xs us->Vals (xs.take n) (us.take n)
 |_,_,0,_=>.nil
 |_,_,_+1,.nil=>.nil
 |_,_,n+1,.cons r t=>.cons r (Vals.take n t)
theorem Vals.drop:∀{xs:List V} {us:List gV} (n:Nat),Vals xs us->Vals (xs.drop n) (us.drop n)
 |_,_,0,r=>r
 |_,_,_+1,.nil=>.nil
 |_,_,n+1,.cons _ t=>Vals.drop n t
noncomputable def RelO:Option V->Option gV->Prop
 |some v,Z u=>RelV v u
 |none,Y=>True
 |_,_=>False
noncomputable def KV{κ:Type}:List (κ×V)->List (κ×gV)->Prop:=MK λ(p:κ×V) (q:κ×gV)=>p.1=q.1/\RelV p.2 q.2
noncomputable def kV:Key->V
 |.inl i=>.int i
 |.inr x=>.str x
inductive HO where
 |lst (xs:List V)
 |tup (xs:List V)
 |dK (kvs:List (Key×V))|dT (kvs:List (List Key×V))
 |set (S:Int->Bool) (n:Nat)
 |ins (C dx:N2) (fs:List (Str×V))
 |own (x:N2)
 |xd (fs:List (Str×V))
 |met (f x:N2)
 |rng (lo hi:Int)
 |frz (o:Obj) (u:HO)
 |tbl (ps:Array gV)
 |ext (φ:Heap->Prop)
noncomputable abbrev Hp:=N2->Option HO
noncomputable def upd(H:Hp)(a:N2)(o:HO):Hp:=λb=>if b=a then Z o else H b
theorem aC{H:Hp}{o:HO}:upd H a o a=Z o:=by unfold upd;rw[if_pos rfl]
theorem am{H:Hp}{o:HO}(h:b≠a):upd H a o b=H b:=by unfold upd;rw[if_neg h]
theorem Ey{H:Hp}{o u:HO}(h:H a=Z o)(h':H b=Z u)(d:o≠u):a≠b:=by intro e;subst e;rw[h]at h';exact d (MW.inj h')
theorem ba{H:Hp}{o:HO}(h:H a=Z o)(h':H b=Y):a≠b:=by intro e;subst e;rw[h]at h';cases h'
section
variable(P:Ln)(w:LL)
noncomputable def ObjOk(H:Hp)(h:Heap)(a:N2):HO->Prop
 |.lst xs=>xs.length<=L3/\∃(its:List gV) (n:Nat),Vals xs its/\h.get? a=Z {cls:=.type "list",data:=.seq its.toArray n}
 |.tup xs=>xs.length<=L3/\∃its:List gV,Vals xs its/\IsTup h a its.toArray
 |.dK kvs=>kvs.length<=L3/\(a==N9)=Md/\∃vs,KV kvs vs/\h.DictOf (aU P w) a vs
 |.dT kvs=>kvs.length<=L3/\(a==N9)=Md/\∃xs:List (List Key×N2×gV),
  MK (λ(p:List Key×V) (q:List Key×N2×gV)=>p.1=q.1/\H q.2.1=Z (.tup (p.1.map kV))/\RelV p.2 q.2.2) kvs xs /\
  ∃o es ep,h.get? a=Z o/\o.ExactDict/\o.data=.dict es ep/\es.toList=xs.map (entryOfKey (R8 (aU P w)))/\(xs.map (·.1)).Nodup
 |.set S n=>h.SetOf (intKind P w) a S n
 |.ins C dx fs=>H dx=Z (.own a)/\fs.length<=1000/\dx≠a/\h.get? a=Z (Sz C dx) /\
  ∃mA,h.Ns1 dx mA/\(∀f,RelO (fs.lookup f) (mA f))/\PySem.Within mA (fs.map (·.1))
 |.own _=>∃o,h.get? a=Z o
 |.xd fs=>∃mA,h.Ns1 a mA/\∀f,RelO (fs.lookup f) (mA f)
 |.rng lo hi=>∃t u v,h.get? a=Z {cls:=.type "range",data:=.fields #[.int lo t,.int hi u,.int 1 v]}
 |.frz o u=>h.get? a=Z o/\ObjOk H h a u
 |.tbl ps=>h.get? a=Z {cls:=.none,data:=.fields ps}
 |.met f x=>h.get? a=Z (Rx (.ref f) (.ref x))
 |.ext φ=>φ h/\(∃o,h.get? a=Z o)/\∀h1 h2:Heap,φ h1->(∀o,h1.get? a=Z o->h2.get? a=Z o)->φ h2
def HOk(H:Hp)(h:Heap):Prop:=∀a o,H a=Z o->ObjOk P w H h a o
end
section
variable{P:Ln}{w:LL}{H H':Hp}{h h':Heap}{a:N2}{o:HO}
theorem ObjOk.lt(x:ObjOk P w H h a o):a<h.objs.size:=by
 cases o with
 |lst xs=>obtain⟨_,_,_,_,e⟩:=x;exact KR e
 |tup xs=>obtain⟨_,_,_,p⟩:=x;exact p.lt
 |dK kvs=>obtain⟨_,_,_,_,o,_,_,e,_⟩:=x;exact KR e
 |dT kvs=>obtain⟨_,_,_,_,o,_,_,e,_⟩:=x;exact KR e
 |set S n=>obtain⟨o,_,_,_,e,_⟩:=x;exact KR e
 |ins C dx fs=>obtain⟨_,_,_,e,_⟩:=x;exact KR e
 |own y=>obtain⟨_,e⟩:=x;exact KR e
 |xd fs=>obtain⟨_,⟨_,_,_,e,_⟩,_⟩:=x;exact KR e
 |rng lo hi=>obtain⟨_,_,_,e⟩:=x;exact KR e
 |frz ob u=>obtain⟨e,_⟩:=x;exact KR e
 |tbl ps=>exact KR (show h.get? a=Z _ from x)
 |met f y=>exact KR (show h.get? a=Z _ from x)
 |ext φ=>obtain⟨_,⟨_,e⟩,_⟩:=x;exact KR e
theorem VS{α β:Type}{F G:α->β->Prop}:∀{l₁:List α} {l₂:List β},MK F l₁ l₂->(∀a b,F a b->G a b)->MK G l₁ l₂
 |_,_,.nil,_=>.nil
 |_,_,.cons r t,f=>.cons (f _ _ r) (VS t f)
theorem ObjOk.stay(x:ObjOk P w H h a o)(k:∀b u,(b=a∨H b=Z (.own a))->h.get? b=Z u->h'.get? b=Z u)(ho:∀b,H b=Z (.own a)->H' b=Z (.own a))(j:∀b xs,H b=Z (.tup xs)->H' b=Z (.tup xs)):ObjOk P w H' h' a o:=by
 induction o with
 |lst xs=>obtain⟨z,its,n,r,e⟩:=x;exact⟨z,its,n,r,k _ _ (.inl rfl) e⟩
 |tup xs=>obtain⟨z,its,r,ob,e,c⟩:=x;exact⟨z,its,r,ob,k _ _ (.inl rfl) e,c⟩
 |dK kvs=>obtain⟨z,y,vs,r,ob,es,ep,e,c⟩:=x;exact⟨z,y,vs,r,ob,es,ep,k _ _ (.inl rfl) e,c⟩
 |dT kvs=>obtain⟨z,y,xs,r,ob,es,ep,e,c⟩:=x;exact⟨z,y,xs,VS r λp q z=>⟨z.1,j _ _ z.2.1,z.2.2⟩,ob,es,ep,k _ _ (.inl rfl) e,c⟩
 |set S n=>obtain⟨ob,es,ep,t,e,c⟩:=x;exact⟨ob,es,ep,t,k _ _ (.inl rfl) e,c⟩
 |ins C dx fs=>obtain⟨d,z,ne,e,mA,⟨od,es,ep,e2,c⟩,r⟩:=x;exact⟨ho _ d,z,ne,k _ _ (.inl rfl) e,mA,⟨od,es,ep,k _ _ (.inr d) e2,c⟩,r⟩
 |own y=>obtain⟨ob,e⟩:=x;exact⟨ob,k _ _ (.inl rfl) e⟩
 |xd fs=>obtain⟨mA,⟨od,es,ep,e,c⟩,r⟩:=x;exact⟨mA,⟨od,es,ep,k _ _ (.inl rfl) e,c⟩,r⟩
 |rng lo hi=>obtain⟨t,u,v,e⟩:=x;exact⟨t,u,v,k _ _ (.inl rfl) e⟩
 |frz ob u ih=>obtain⟨e,q⟩:=x;exact⟨k _ _ (.inl rfl) e,ih q⟩
 |tbl ps=>have e:h.get? a=Z {cls:=.none,data:=.fields ps}:=x;show h'.get? a=Z {cls:=.none,data:=.fields ps};exact k a _ (.inl rfl) e
 |met f y=>have e:h.get? a=Z (Rx (.ref f) (.ref y)):=x;show h'.get? a=Z (Rx (.ref f) (.ref y));exact k a _ (.inl rfl) e
 |ext φ=>obtain⟨p,⟨o,e⟩,st⟩:=x;exact⟨st _ _ p λo q=>k _ _ (.inl rfl) q,⟨o,k _ _ (.inl rfl) e⟩,st⟩
theorem HOk.lt(x:HOk P w H h)(e:H a=Z o):a<h.objs.size:=(x a o e).lt
theorem HOk.fresh(x:HOk P w H h)(e:h.objs.size<=a):H a=Y:=by
 cases q:H a with
 |none=>rfl
 |some u=>exact absurd (Lz (x.lt q) e) (My _)
theorem HOk.kept(x:HOk P w H h)(k:∀b u,h.get? b=Z u->h'.get? b=Z u):HOk P w H h':=λa o e=>(x a o e).stay (λb u _ q=>k b u q) (λ_ q=>q) λ_ _ q=>q
theorem HOk.laid(x:HOk P w H h)(k:∀b u,h.get? b=Z u->h'.get? b=Z u)(z:h.objs.size<=a)(new:ObjOk P w (upd H a o) h' a o):HOk P w (upd H a o) h':=λb u e=>by
 have j:=x.fresh z
 by_cases hb:b=a
 ·subst hb;rw[aC]at e;cases e;exact new
 ·rw[am hb]at e;exact(x b u e).stay (λc v _ q=>k c v q) (λc q=>by rw[am (ba q j)];exact q) λc xs q=>by rw[am (ba q j)];exact q
end
def Rd(H:Hp)(a:N2)(u:HO):Prop:=H a=Z u∨∃o,H a=Z (.frz o u)
theorem Rd.of{H:Hp}{u:HO}(h:H a=Z u):Rd H a u:=.inl h
theorem Rd.ok{H:Hp}{u:HO}(r:Rd H a u)(x:HOk P w H h):ObjOk P w H h a u:=by
 rcases r with r|⟨o,r⟩
 ·exact x a u r
 ·obtain⟨_,q⟩:=x a _ r;exact q
noncomputable def Mut:Option HO->Prop
 |some (.lst _)=>True
 |some (.dK _)=>True
 |some (.dT _)=>True
 |some (.set _ _)=>True
 |some (.ins _ _ _)=>True
 |some (.ext _)=>True
 |_=>False
section
variable{P:Ln}{w:LL}{H:Hp}{h h':Heap}{x e:N2}{o':HO}
theorem HOk.write(ok:HOk P w H h)(mu:Mut (H x))(he:e=x∨H e=Z (.own x))(k:∀b u,b≠e->h.get? b=Z u->h'.get? b=Z u)(F:∃u,h'.get? e=Z u)(new:ObjOk P w (upd H x o') h' x o'):HOk P w (upd H x o') h':=λb u q=>by
 have nown:∀c y,H c=Z (.own y)->c≠x:=λc y r z=>by subst z;rw[r]at mu;exact mu
 have ntup:∀c xs,H c=Z (.tup xs)->c≠x:=λc xs r z=>by subst z;rw[r]at mu;exact mu
 by_cases hb:b=x
 ·subst hb;rw[aC]at q;cases q;exact new
 ·rw[am hb]at q
  by_cases j:b=e
  ·have q':H b=Z (.own x):=by
    rcases he with z|z
    ·exact absurd (j.trans z) hb
    ·rw[j];exact z
   rw[q]at q';cases q';obtain⟨v,G⟩:=F;exact⟨v,by rw[j];exact G⟩
  ·refine(ok b u q).stay (λc v B r=>k c v ?_ r) (λc r=>by rw[am (nown c b r)];exact r) λc xs r=>by rw[am (ntup c xs r)];exact r
   rcases B with rfl|B
   ·exact j
   ·rintro rfl
    rcases he with z|z
    ·exact nown c b B z
    ·rw[B]at z;cases z;exact hb rfl
end
structure Un(fs ex:List N2)(H H':Hp)(h h':Heap):Prop where
 keep:∀b o,h.get? b=Z o->H b=Y->b∉fs->b∉ex->h'.get? b=Z o
 slot:∀b o,h.get? b=Z o->H b=Y->b∈fs->b∉ex->∃sl,h'.get? b=Z {o with slots:=sl}
 free:∀b o,h.get? b=Z o->H b=Y->b∉ex->H' b=Y
 there:∀b o,h.get? b=Z o->b∉ex->∃o',h'.get? b=Z o'
 tups:∀b xs,H b=Z (.tup xs)->H' b=Z (.tup xs)
 frzs:∀b o u,H b=Z (.frz o u)->H' b=Z (.frz o u)
 tbls:∀b ps,H b=Z (.tbl ps)->∃more,H' b=Z (.tbl (ps++more))
section
variable{fs fs' ex ex':List N2}{H H1 H2:Hp}{h h1 h2 h':Heap}{a x e:N2}{o:HO}
theorem Un.any(u:Un fs ex H H1 h h1){ob:Obj}(q:h.get? b=Z ob)(n:H b=Y)(hx:b∉ex):∃sl,h1.get? b=Z {ob with slots:=sl}:=by
 by_cases j:b∈fs
 ·exact u.slot b ob q n j hx
 ·exact⟨ob.slots,u.keep b ob q n j hx⟩
theorem Un.kept(k:∀b u,h.get? b=Z u->h'.get? b=Z u):Un fs ex H H h h':=⟨λb ob q _ _ _=>k b ob q,λb ob q _ _ _=>⟨ob.slots,k b ob q⟩,λ_ _ _ n _=>n,λb ob q _=>⟨ob,k b ob q⟩,λ_ _ q=>q,λ_ _ _ q=>q,λ_ ps q=>⟨#[],by rw[q];simp⟩⟩
theorem Un.refl:Un fs ex H H h h:=Un.kept λ_ _ q=>q
theorem Un.laid(k:∀b u,h.get? b=Z u->h'.get? b=Z u)(z:h.objs.size<=a)(j:H a=Y):Un fs ex H (upd H a o) h h' where
 keep:=λb u q _ _ _=>k b u q
 slot:=λb u q _ _ _=>⟨u.slots,k b u q⟩
 free:=λb u q n _=>by rw[am (Lr (Lz (KR q) z))];exact n
 there:=λb u q _=>⟨u,k b u q⟩
 tups:=λb xs q=>by rw[am (ba q j)];exact q
 frzs:=λb u xs q=>by rw[am (ba q j)];exact q
 tbls:=λb ps q=>⟨#[],by rw[am (ba q j),q];simp⟩
theorem Un.write(mu:Mut (H x))(he:e=x∨H e=Z (.own x))(k:∀b u,b≠e->h.get? b=Z u->h'.get? b=Z u)(B:∃u,h'.get? e=Z u):Un fs ex H (upd H x o) h h':=by
 have hx:∀b,H b=Y->b≠x:=λb n z=>by subst z;rw[n]at mu;exact mu
 have F:∀b,H b=Y->b≠e:=λb n z=>by
  subst z
  rcases he with r|r
  ·exact hx b n r
  ·rw[n]at r;cases r
 have hm:∀b u,H b=Z u->¬Mut (Z u)->b≠x:=λb u q nm z=>by subst z;rw[q]at mu;exact nm mu
 refine⟨λb u q n _ _=>k b u (F b n) q,λb u q n _ _=>⟨u.slots,k b u (F b n) q⟩,λb u q n _=>by rw[am (hx b n)];exact n,λb u q _=>?_,
  λb xs q=>by rw[am (hm b _ q λz=>z)];exact q,λb u xs q=>by rw[am (hm b _ q λz=>z)];exact q,λb ps q=>⟨#[],by rw[am (hm b _ q λz=>z),q];simp⟩⟩
 by_cases j:b=e
 ·subst j;exact B
 ·exact⟨u,k b u j q⟩
end
noncomputable def trk(h:Heap)(H:Hp):List N2:=(z4 h.objs.size).filter λa=>(H a).isSome
noncomputable def fQ(h:Heap)(H:Hp):Heap:=PySem.W.hideAll h (trk h H)
theorem uW(h:Heap)(H:Hp):(fQ h H).objs.size=h.objs.size:=PySem.W.hideAll_size _ _
theorem iW{H:Hp}{o:Obj}(e:h.get? b=Z o)(n:H b=Y):(fQ h H).get? b=Z o:=
 PySem.W.hideAll_get _ e λhm=>by have q:(H b).isSome=F2:=(NR.mp hm).2;rw[n]at q;simp at q
theorem Au{H:Hp}{o:Obj}(e:(fQ h H).get? b=Z o):h.get? b=Z o/\H b=Y:=by
 have e':h.get? b=Z o:=PySem.W.of_hideAll (trk h H) e;refine⟨e',?_⟩
 cases q:H b with
 |none=>rfl
 |some x=>
  have hm:b∈trk h H:=NR.mpr ⟨LP.mpr (KR e'),by simp[q]⟩
  have z:(fQ h H).get? b=Y:=PySem.W.hideAll_none (trk h H) hm;rw[z]at e;cases e
noncomputable def Av(g h:Heap)(L:N2):List (N2×Obj):=(z4 h.objs.size).filterMap λa=>if a=L∨(g.get? a).isSome=F2 then Y else(h.get? a).map λo=>(a,o)
noncomputable def rest(g h:Heap)(L d:N2):List (N2×Obj):=(Av g h L).filter λp=>decide (p.1≠d)
end
variable{H:Hp}{o:HO}{u:gV}{t' i:Nat}{ch:List N2}{x:Str}{e:Expr}{N:List Str}{M:Q9}{A:LQ}{v:V}{s:q7}
section
structure Mod(K:Frag)(mg:Str->Option gV)(base:Heap):Prop where
 kin:K.In base
 glob:base.Ns MB mg
 blt:∃mb,base.Ns Sg mb/\∀x:Str,x≠"__name__"->mb x=OJ x
 nolimit:base.NoLimit
structure Cx where
 prog:Ln
 w:LL
 K:Frag
 mg:Str->Option gV
 base:Heap
 A:LQ
 N:List Str
 s₀:q7
 H₀:Hp
 env:Env
 outer:List Env
 stack:List Env
 ex:List N2
 fn:Str->Bool
 calm:Bool
 pn:List (N2×Obj)
 xe:gV->q7->Prop
noncomputable def frs(l:List Env):List N2:=l.filterMap (·.frame)
noncomputable abbrev Cx.fs(X:Cx):List N2:=frs X.outer
def Vis(sc:Scope)(x:Str):Prop:=sc.names.lookup x=Z .local∨sc.names.lookup x=Z .cell∨sc.names.lookup x=Z .free
def Loc(sc:Scope)(x:Str):Prop:=sc.names.lookup x=Z .local∨sc.names.lookup x=Z .cell
def FX(env:Env)(h:Heap)(m:Str->Option gV)(x:Str)(u:gV):Prop:=(env.kindOf x=Z .local/\m x=Z u)∨((env.kindOf x=Z .cell∨env.kindOf x=Z .free)/\∃c,env.cells.lookup x=Z c/\h.IsCell c (Z u))
structure Cx.Ok(X:Cx):Prop where
 mod:Mod X.K X.mg X.base
 kind:X.env.scope.kind=.function
 glob:X.env.globals=MB
 blt:X.env.builtins=Sg
 above:X.s₀.heap.objs.size<=X.env.locals
 inj:∀x y c,X.env.cells.lookup x=Z c->X.env.cells.lookup y=Z c->x=y
 has:∀x,(X.env.kindOf x=Z .cell∨X.env.kindOf x=Z .free)->∃c,X.env.cells.lookup x=Z c
 cab:∀x c,X.fn x=F2->X.env.cells.lookup x=Z c->X.s₀.heap.objs.size<=c
 hd:X.calm=F2->X.A.handled=Y
 frames:X.A.frames=Z X.stack
 stk:X.stack=X.outer∨(X.stack=X.env::X.outer/\X.env.frame=Z X.env.locals)
 exf:∀b∈X.ex,b≠X.env.locals/\∀x c,X.env.cells.lookup x=Z c->c≠b
 bs:∀b o,X.base.get? b=Z o->X.s₀.heap.get? b=Z o/\X.H₀ b=Y
 bsz:X.base.objs.size<=X.s₀.heap.objs.size
 noex:∀b o,X.base.get? b=Z o->b∉X.ex
 exfs:∀b∈X.ex,b∉X.fs
 funs:X.s₀.heap.FunFrames X.base X.outer
 frf:∀b∈X.fs,X.H₀ b=Y
structure Inv(X:Cx)(pins:List (N2×Obj))(σ:List (Option V))(H:Hp)(s:q7):Prop where
 ok:X.Ok
 os:s.os=X.s₀.os
 bare:Ry s.gens
 base:Un X.fs X.ex X.H₀ H X.s₀.heap s.heap
 loc:∃m,s.heap.Ns X.env.locals m/\∀(i:Nat) (x:Str) (v:V),X.N[i]?=Z x->σ[i]?=Z (Z v)->Vis X.env.scope x->∃u,RelV v u/\FX X.env s.heap m x u
 cell:∀x c,X.env.cells.lookup x=Z c->∃v,s.heap.IsCell c v
 free:H X.env.locals=Y
 freeC:∀x c,X.env.cells.lookup x=Z c->H c=Y
 pin:∀p∈X.pn++pins,s.heap.get? p.1=Z p.2/\H p.1=Y/\p.1≠X.env.locals/\p.1∉X.fs/\∀v,p.2.data≠.cell v
 hok:HOk X.prog X.w H s.heap
 len:σ.length=X.N.length
section
variable{X:Cx}{pins:List (N2×Obj)}{σ:List (Option V)}{H H':Hp}{s:q7}{h':Heap}
theorem Cx.Ok.nofr(ok:X.Ok){o:Obj}(e:X.base.get? b=Z o):b∉X.fs:=λj=>by have:=(ok.funs.mem j).1;rw[e]at this;cases this
theorem Inv.bs(I:Inv X pins σ H s):∀b o,X.base.get? b=Z o->s.heap.get? b=Z o/\H b=Y:=λb o e=>⟨I.base.keep b o (I.ok.bs b o e).1 (I.ok.bs b o e).2 (I.ok.nofr e) (I.ok.noex b o e),I.base.free b o (I.ok.bs b o e).1 (I.ok.bs b o e).2 (I.ok.noex b o e)⟩
theorem Inv.bk(I:Inv X pins σ H s):∀b o,X.base.get? b=Z o->s.heap.get? b=Z o:=λb o e=>(I.bs b o e).1
theorem Inv.mod(I:Inv X pins σ H s):Mod X.K X.mg X.base:=I.ok.mod
theorem Inv.kIn(I:Inv X pins σ H s):X.K.In s.heap:=I.ok.mod.kin.keeps I.bk
theorem Inv.fr(I:Inv X pins σ H s):∃m,Fr X.base X.env.locals s.heap m:=
 let⟨m,j,_⟩:=I.loc
 ⟨m,j,I.bk,Mu I.ok.bsz I.ok.above⟩
theorem Inv.lt(I:Inv X pins σ H s):X.env.locals<s.heap.objs.size:=let⟨_,j,_⟩:=I.loc;j.lt
theorem Inv.sz(I:Inv X pins σ H s):X.s₀.heap.objs.size<=s.heap.objs.size:=Mu I.ok.above (OK I.lt)
theorem Inv.nofs(I:Inv X pins σ H s)(h:s.heap.objs.size<=a):a∉X.fs:=λj=>by obtain⟨_,o,ho,_⟩:=I.ok.funs.mem j;exact absurd (Lz (KR ho) (Mu I.sz h)) (My _)
theorem Inv.cne(I:Inv X pins σ H s):∀x c,X.env.cells.lookup x=Z c->c≠X.env.locals:=λx c e z=>by obtain⟨v,o,ho,hd⟩:=I.cell x c e;obtain⟨m,⟨o',es,ep,j,B,_⟩,_⟩:=I.loc;rw[z,j]at ho;cases ho;rw[B]at hd;cases hd
theorem Inv.funs(I:Inv X pins σ H s):s.heap.FunFrames X.base X.outer:=by
 have all:∀(l:List Env),(∀b∈frs l,b∈X.fs)->X.s₀.heap.FunFrames X.base l->s.heap.FunFrames X.base l:=by
  intro l
  induction l with
  |nil=>intro _ _;trivial
  |cons env r ih=>
   intro hs F;obtain⟨G,⟨L,o,hf,J,ho,hd⟩,O⟩:=F;have j:L∈X.fs:=hs L (by unfold frs;rw[QU,hf];exact LH)
   obtain⟨sl,e⟩:=I.base.slot L o ho (I.ok.frf L j) j λz=>I.ok.exfs L z j;exact⟨G,⟨L,_,hf,J,e,hd⟩,ih (λb B=>hs b (by unfold frs;rw[QU,hf];exact Lq _ B)) O⟩
 exact all X.outer (λ_ B=>B) I.ok.funs
theorem Inv.stack(I:Inv X pins σ H s):s.heap.FunFrames X.base X.stack:=by
 rcases I.ok.stk with e|⟨e,hf⟩
 ·rw[e];exact I.funs
 ·rw[e];obtain⟨m,j,_⟩:=I.loc;refine .cons (by rw[I.ok.kind];decide) hf j ?_ I.funs
  exact Heap.get?_none_of_le (Mu I.ok.bsz I.ok.above)
theorem Inv.stkSub(I:Inv X pins σ H s):∀b∈frs X.stack,b∈X.env.locals::X.fs:=λb j=>by
 rcases I.ok.stk with e|⟨e,hf⟩
 ·rw[e]at j;exact Lq _ j
 ·rw[e]at j;unfold frs at j;rw[QU,hf]at j;exact j
theorem Inv.stkFree(I:Inv X pins σ H s):∀b∈frs X.stack,H b=Y:=λb j=>by
 rcases KZ.mp (I.stkSub b j)with e|j
 ·rw[e];exact I.free
 ·obtain⟨_,o,ho,_⟩:=I.ok.funs.mem j;exact I.base.free b o ho (I.ok.frf b j) λz=>I.ok.exfs b z j
theorem Inv.step{g':Array GenState}{d':Drawn}(I:Inv X pins σ H s)(j:∀b∈ch,(b∈X.ex∨X.s₀.heap.objs.size<=b)/\b≠X.env.locals/\(∀x c,X.env.cells.lookup x=Z c->c≠b)/\∀p∈X.pn++pins,p.1≠b)(keep:∀b o,b≠X.env.locals->b∉X.fs->b∉ch->s.heap.get? b=Z o->H b=Y->h'.get? b=Z o)(slot:∀b o,b≠X.env.locals->b∈X.fs->b∉ch->s.heap.get? b=Z o->H b=Y->∃sl,h'.get? b=Z {o with slots:=sl})(free:∀b o,b∉ch->s.heap.get? b=Z o->H b=Y->H' b=Y)(there:∀b o,b∉ch->s.heap.get? b=Z o->∃o',h'.get? b=Z o')(tups:∀b xs,H b=Z (.tup xs)->H' b=Z (.tup xs))(frzs:∀b o u,H b=Z (.frz o u)->H' b=Z (.frz o u))(tbls:∀b ps,H b=Z (.tbl ps)->∃more,H' b=Z (.tbl (ps++more)))(ns:∀m,s.heap.Ns X.env.locals m->h'.Ns X.env.locals m)(hok:HOk X.prog X.w H' h')(J:Ry g'):
 Inv X pins σ H' {s with heap:=h',gens:=g',drawn:=d',toks:=t'}:=by
 have neL:∀b o,X.s₀.heap.get? b=Z o->b≠X.env.locals:=λb o e=>Lr (Lz (KR e) I.ok.above);have neC:∀b o,X.s₀.heap.get? b=Z o->b∉X.ex->b∉ch:=λb o e hx B=>by
  rcases(j b B).1 with z|z
  ·exact hx z
  ·exact absurd (Lz (KR e) z) (My _)
 have cellK:∀x c,X.env.cells.lookup x=Z c->∀v,s.heap.IsCell c v->h'.IsCell c v:=λx c e v ⟨o,ho,hd⟩=>by
  have nch:c∉ch:=λz=>(j c z).2.2.1 x c e rfl
  by_cases F:c∈X.fs
  ·obtain⟨sl,q⟩:=slot c o (I.cne x c e) F nch ho (I.freeC x c e);exact⟨_,q,hd⟩
  ·exact⟨o,keep c o (I.cne x c e) F nch ho (I.freeC x c e),hd⟩
 refine⟨I.ok,I.os,J,⟨λb o e n B hx=>?_,λb o e n B hx=>?_,λb o e n hx=>?_,λb o e hx=>?_,λb xs e=>tups b xs (I.base.tups b xs e),λb o xs e=>frzs b o xs (I.base.frzs b o xs e),λb ps e=>?_⟩,?_,λx c e=>?_,?_,λx c e=>?_,λp G=>?_,hok,I.len⟩
 ·exact keep b o (neL b o e) B (neC b o e hx) (I.base.keep b o e n B hx) (I.base.free b o e n hx)
 ·obtain⟨sl,e1⟩:=I.base.slot b o e n B hx;obtain⟨sl',e2⟩:=slot b _ (neL b o e) B (neC b o e hx) e1 (I.base.free b o e n hx);exact⟨sl',e2⟩
 ·obtain⟨o',e1⟩:=I.base.there b o e hx;exact free b o' (neC b o e hx) e1 (I.base.free b o e n hx)
 ·obtain⟨o',e1⟩:=I.base.there b o e hx;exact there b o' (neC b o e hx) e1
 ·obtain⟨L,e1⟩:=I.base.tbls b ps e;obtain⟨O,e2⟩:=tbls b _ e1;exact⟨L++O,by rw[e2,Array.append_assoc]⟩
 ·obtain⟨m,U,Fn⟩:=I.loc;refine⟨m,ns m U,λi x v e1 e2 fv=>?_⟩;obtain⟨u,r,l⟩:=Fn i x v e1 e2 fv;refine⟨u,r,?_⟩
  rcases l with l|⟨k,c,e,z⟩
  ·exact .inl l
  ·exact .inr ⟨k,c,e,cellK x c e _ z⟩
 ·obtain⟨v,z⟩:=I.cell x c e;exact⟨v,cellK x c e v z⟩
 ·obtain⟨m,⟨o,_,_,ho,_⟩,_⟩:=I.loc;exact free _ o (λz=>(j _ z).2.1 rfl) ho I.free
 ·obtain⟨v,o,ho,hd⟩:=I.cell x c e;exact free c o (λz=>(j c z).2.2.1 x c e rfl) ho (I.freeC x c e)
 ·obtain⟨e,n,ne,nf,d⟩:=I.pin p G;have nch:p.1∉ch:=λz=>(j p.1 z).2.2.2 p G rfl;exact⟨keep p.1 p.2 ne nf nch e n,free p.1 p.2 nch e n,ne,nf,d⟩
theorem Inv.un(I:Inv X pins σ H s)(u:Un X.fs [] H H' s.heap h')(hok:HOk X.prog X.w H' h'):Inv X pins σ H' {s with heap:=h',toks:=t'}:=by
 obtain⟨m,⟨o,es,ep,ho,r⟩,_⟩:=id I.loc;obtain⟨sl,F⟩:=u.any ho I.free (by simp)
 exact I.step (g':=s.gens) (d':=s.drawn) (ch:=[]) (λ_ z=>nomatch z) (λb o _ B _ e n=>u.keep b o e n B (by simp)) (λb o _ B _ e n=>u.slot b o e n B (by simp)) (λb o _ e n=>u.free b o e n (by simp)) (λb o _ e=>u.there b o e (by simp)) u.tups u.frzs u.tbls (λm' hm=>by obtain⟨o',es',ep',j,r'⟩:=hm;rw[ho]at j;cases j;exact⟨_,es',ep',F,r'⟩) hok I.bare
theorem Inv.call{g':Array GenState}{d':Drawn}(I:Inv X pins σ H s)(u:Un (frs X.stack) ch H H' s.heap h')(hok:HOk X.prog X.w H' h')(J:Ry g')(B:∀b∈ch,(b∈X.ex∨X.s₀.heap.objs.size<=b)/\b≠X.env.locals/\(∀x c,X.env.cells.lookup x=Z c->c≠b)/\∀p∈X.pn++pins,p.1≠b):
 Inv X pins σ H' {s with heap:=h',gens:=g',drawn:=d',toks:=t'}:=by
 obtain⟨m,⟨o,es,ep,ho,r⟩,_⟩:=id I.loc;obtain⟨sl,G⟩:=u.any ho I.free λz=>(B _ z).2.1 rfl;exact I.step (ch:=ch) B (λb o G L j e n=>u.keep b o e n (λz=>(KZ.mp (I.stkSub b z)).elim G L) j) (λb o _ _ j e n=>u.any e n j) (λb o j e n=>u.free b o e n j) (λb o j e=>u.there b o e j) u.tups u.frzs u.tbls (λm' hm=>by obtain⟨o',es',ep',F,r'⟩:=hm;rw[ho]at F;cases F;exact⟨_,es',ep',G,r'⟩) hok J
theorem Inv.turned{it:N2}(I:Inv X pins σ H s)(k:∀b o,b≠it->s.heap.get? b=Z o->h'.get? b=Z o)(F:H it=Y)(B:it≠X.env.locals)(h1:it∈X.ex∨X.s₀.heap.objs.size<=it)(h2:∀x c,X.env.cells.lookup x=Z c->c≠it)(G:∀p∈X.pn++pins,p.1≠it):Inv X pins σ H {s with heap:=h',toks:=t'}:=by
 have nit:∀b u,H b=Z u->b≠it:=λb u e z=>by rw[z,F]at e;cases e
 refine I.step (g':=s.gens) (d':=s.drawn) (ch:=[it]) (λb J=>?_) (λb o _ _ j e _=>k b o (λz=>j (by simp[z])) e) (λb o _ _ j e _=>⟨o.slots,k b o (λz=>j (by simp[z])) e⟩) (λ_ _ _ _ n=>n)
  (λb o j e=>⟨o,k b o (λz=>j (by simp[z])) e⟩) (λ_ _ e=>e) (λ_ _ _ e=>e) (λb ps e=>⟨#[],by rw[e];simp⟩) (λm hm=>?_) (λb u e=>?_) I.bare
 ·have e:b=it:=by simpa using J
  subst e;exact⟨h1,B,h2,G⟩
 ·obtain⟨o,es,ep,ho,r⟩:=hm;exact⟨o,es,ep,k _ o (Ne.symm B) ho,r⟩
 ·refine(I.hok b u e).stay (λc v j q=>k c v ?_ q) (λ_ q=>q) λ_ _ q=>q
  rcases j with z|z
  ·rw[z];exact nit b u e
  ·exact nit c _ z
theorem Inv.tok(I:Inv X pins σ H s)(t:Nat):Inv X pins σ H {s with toks:=t}:=I.un (h':=s.heap) (t':=t) Un.refl I.hok
theorem Inv.kept(I:Inv X pins σ H s)(k:∀b u,s.heap.get? b=Z u->h'.get? b=Z u):Inv X pins σ H {s with heap:=h',toks:=t'}:=I.un (Un.kept k) (I.hok.kept k)
theorem Inv.laid(I:Inv X pins σ H s)(k:∀b u,s.heap.get? b=Z u->h'.get? b=Z u)(j:s.heap.objs.size<=a)(new:ObjOk X.prog X.w (upd H a o) h' a o):Inv X pins σ (upd H a o) {s with heap:=h',toks:=t'}:=I.un (Un.laid k j (I.hok.fresh j)) (I.hok.laid k j new)
theorem Inv.write{x e:N2}(I:Inv X pins σ H s)(mu:Mut (H x))(he:e=x∨H e=Z (.own x))(k:∀b u,b≠e->s.heap.get? b=Z u->h'.get? b=Z u)(j:∃u,h'.get? e=Z u)(new:ObjOk X.prog X.w (upd H x o) h' x o):Inv X pins σ (upd H x o) {s with heap:=h',toks:=t'}:=I.un (Un.write mu he k j) (I.hok.write mu he k j new)
theorem Inv.pins_of{pins':List (N2×Obj)}(I:Inv X pins σ H s)(h:∀p∈pins',s.heap.get? p.1=Z p.2/\H p.1=Y/\p.1≠X.env.locals/\p.1∉X.fs/\∀v,p.2.data≠.cell v):Inv X pins' σ H s:=⟨I.ok,I.os,I.bare,I.base,I.loc,I.cell,I.free,I.freeC,λp j=>(Ld.mp j).elim (λz=>I.pin p (LD _ z)) (h p),I.hok,I.len⟩
theorem oC(z:N.Nodup){j:Nat}(a:N[i]?=Z x)(b:N[j]?=Z x):i=j:=by obtain⟨h1,e1⟩:=L7.mp a;obtain⟨h2,e2⟩:=L7.mp b;exact(List.getElem_inj z).mp (e1.trans e2.symm)
theorem uX{E:gV->q7->Prop}{Q:Unit->q7->Prop}(I:Inv X pins σ H s)(hN:X.N.Nodup)(hi:X.N[i]?=Z x)(hx:Loc X.env.scope x)(r:RelV v u)(h:∀s',Inv X pins (σ.set i (Z v)) H s'->(∃a,MY a s.heap s'.heap/\(a=X.env.locals∨X.env.cells.lookup x=Z a))->Q () s')(hf:X.fn x=F2∨X.env.scope.names.lookup x=Z .local:=by first|exact .inl rfl|exact .inr rfl|assumption):La M A (storeName X.env x u) Q E s:=by
 obtain⟨m,hn,hl⟩:=id I.loc;have U:(X.env.scope.kind==.class || (X.env.scope.kind==.module&&X.env.locals != X.env.globals))=Md:=by rw[I.ok.kind];rfl
 have Fn:i<σ.length:=by rw[I.len];exact(L7.mp hi).1
 have cne:=I.cne;have tracked:∀{a:N2} {h':Heap},(∃o,s.heap.get? a=Z o/\H a=Y)->MY a s.heap h'->HOk X.prog X.w H h':=λ{a h'} ha hs b ob e=>by
  obtain⟨_,_,F⟩:=ha;refine(I.hok b ob e).stay (λc w' B q=>(hs.2 c ?_).trans q) (λ_ q=>q) λ_ _ q=>q;rintro rfl
  rcases B with rfl|B
  ·rw[F]at e;cases e
  ·rw[F]at B;cases B
 rcases hx with G|G
 ·refine wpAny_storeName_local G hn (λh' IJ hs=>?_) U;obtain⟨oL,_,_,IK,_⟩:=id hn;refine h _ ⟨I.ok,I.os,I.bare,⟨λb o e n J hx=>?_,λb o e n J hx=>?_,I.base.free,λb o e hx=>?_,I.base.tups,I.base.frzs,I.base.tbls⟩,⟨_,IJ,λj y v' e1 e2 e3=>?_⟩,λy c e=>?_,I.free,I.freeC,λp hp=>?_,tracked ⟨oL,IK,I.free⟩ hs,by simpa using I.len⟩ ⟨_,hs,.inl rfl⟩
  ·exact(hs.2 b (Lr (Lz (KR e) I.ok.above))).trans (I.base.keep b o e n J hx)
  ·obtain⟨sl,e1⟩:=I.base.slot b o e n J hx;exact⟨sl,(hs.2 b (Lr (Lz (KR e) I.ok.above))).trans e1⟩
  ·obtain⟨o',e1⟩:=I.base.there b o e hx;exact⟨o',(hs.2 b (Lr (Lz (KR e) I.ok.above))).trans e1⟩
  ·by_cases L:j=i
   ·subst L;rw[hi]at e1;cases e1;rw[NW Fn]at e2
    cases e2
    exact⟨u,r,.inl ⟨G,by simp⟩⟩
   ·rw[Pg (Ne.symm L)]at e2;obtain⟨u',r',q⟩:=hl j y v' e1 e2 e3;refine⟨u',r',?_⟩
    rcases q with⟨k,e⟩|⟨k,c,e,z⟩
    ·refine .inl ⟨k,?_⟩;have:y≠x:=λe=>L (oC hN e1 (e▸hi));simp[this,e]
    ·exact .inr ⟨k,c,e,z.sameBut hs (cne y c e)⟩
  ·obtain⟨w',z⟩:=I.cell y c e;exact⟨w',z.sameBut hs (cne y c e)⟩
  ·obtain⟨e,n,ne,nf,d⟩:=I.pin p hp;exact⟨(hs.2 p.1 ne).trans e,n,ne,nf,d⟩
 ·have O:X.fn x=F2:=by
   rcases hf with z|z
   ·exact z
   ·rw[z]at G;cases G
  obtain⟨c,B⟩:=I.ok.has x (.inl G);obtain⟨w',z⟩:=I.cell x c B;refine wpAny_storeName_cell I.ok.kind G B z (λh' fv hs=>?_);obtain⟨oc,IG,IH⟩:=id z;refine h {s with heap:=h'} ⟨I.ok,I.os,I.bare,⟨λb o e n J hx=>?_,λb o e n J hx=>?_,I.base.free,λb o e hx=>?_,I.base.tups,I.base.frzs,I.base.tbls⟩,⟨m,hn.sameBut hs (Ne.symm (cne x c B)),λj y v' e1 e2 e3=>?_⟩,λy c' e=>?_,I.free,I.freeC,λp hp=>?_,tracked ⟨oc,IG,I.freeC x c B⟩ hs,by simpa using I.len⟩ ⟨c,hs,.inr B⟩
  ·exact(hs.2 b (Lr (Lz (KR e) (I.ok.cab x c O B)))).trans (I.base.keep b o e n J hx)
  ·obtain⟨sl,e1⟩:=I.base.slot b o e n J hx;exact⟨sl,(hs.2 b (Lr (Lz (KR e) (I.ok.cab x c O B)))).trans e1⟩
  ·obtain⟨o',e1⟩:=I.base.there b o e hx;exact⟨o',(hs.2 b (Lr (Lz (KR e) (I.ok.cab x c O B)))).trans e1⟩
  ·by_cases L:j=i
   ·subst L;rw[hi]at e1;cases e1;rw[NW Fn]at e2
    cases e2
    exact⟨u,r,.inr ⟨.inl G,c,B,fv⟩⟩
   ·rw[Pg (Ne.symm L)]at e2;obtain⟨u',r',q⟩:=hl j y v' e1 e2 e3;refine⟨u',r',?_⟩
    rcases q with q|⟨k,c',e,z'⟩
    ·exact .inl q
    ·refine .inr ⟨k,c',e,z'.sameBut hs ?_⟩;rintro rfl;exact L (oC hN e1 (I.ok.inj _ _ _ e B▸hi))
  ·by_cases II:c'=c
   ·subst II;exact⟨_,fv⟩
   ·obtain⟨w2,z2⟩:=I.cell y c' e;exact⟨w2,z2.sameBut hs II⟩
  ·obtain⟨e,n,ne,nf,d⟩:=I.pin p hp;refine⟨(hs.2 p.1 ?_).trans e,n,ne,nf,d⟩;intro q;rw[q,IG]at e;have q':oc=p.2:=MW.inj e;exact d w' (by rw[<-q'];exact IH)
theorem fR{E:gV->q7->Prop}{Q:Unit->q7->Prop}(I:Inv X pins σ H s)(j:X.N.Nodup)(hi:X.N[i]?=Z x)(hx:Loc X.env.scope x)(r:RelV v u)(h:∀s',Inv X pins (σ.set i (Z v)) H s'->Q () s')(hf:X.fn x=F2∨X.env.scope.names.lookup x=Z .local:=by first|exact .inl rfl|exact .inr rfl|assumption):La M A (storeName X.env x u) Q E s:=uX I j hi hx r (λs' I' _=>h s' I') hf
theorem Inv.call'{s':q7}(I:Inv X pins σ H s)(ho:s'.os=s.os)(u:Un (frs X.stack) ch H H' s.heap s'.heap)(hok:HOk X.prog X.w H' s'.heap)(z:Ry s'.gens)(j:∀b∈ch,(b∈X.ex∨X.s₀.heap.objs.size<=b)/\b≠X.env.locals/\(∀x c,X.env.cells.lookup x=Z c->c≠b)/\∀p∈X.pn++pins,p.1≠b):Inv X pins σ H' s':=by obtain⟨h',g',d',t',o'⟩:=s';have e:o'=s.os:=ho;subst e;exact I.call (g':=g') (t':=t') (d':=d') u hok z j
end
noncomputable abbrev XK:=gV->Option N2->Hp->Prop
noncomputable abbrev St:=List (Option V)
noncomputable abbrev VK:=V->Hp->Prop
noncomputable abbrev TE:=St->Hp->VK->Prop
noncomputable abbrev TT:=St->Hp->(Bool->Hp->Prop)->Prop
noncomputable abbrev TA:=St->Hp->(List V->Hp->Prop)->Prop
structure bJ where
 nx:St->Hp->Prop
 rt:VK
 bk:St->Hp->Prop:=λ_ _=>False
 ct:St->Hp->Prop:=λ_ _=>False
noncomputable abbrev TS:=bJ->St->Hp->Prop
def EP(X:Cx)(pins:List (N2×Obj))(σ:St)(Q:VK)(u:gV)(s':q7):Prop:=∃v H',Inv X pins σ H' s'/\RelV v u/\Q v H'
def TP(X:Cx)(pins:List (N2×Obj))(σ:St)(Q:Bool->Hp->Prop)(b:Bool)(s':q7):Prop:=∃H',Inv X pins σ H' s'/\Q b H'
def AP(X:Cx)(pins:List (N2×Obj))(σ:St)(Q:List V->Hp->Prop)(us:List gV)(s':q7):Prop:=∃vs H',Inv X pins σ H' s'/\Vals vs us/\Q vs H'
def SP(X:Cx)(pins:List (N2×Obj))(D:bJ)(f:Flow)(s':q7):Prop:=
 match f with
 |.next=>∃σ' H',Inv X pins σ' H' s'/\D.nx σ' H'
 |.brk=>∃σ' H',Inv X pins σ' H' s'/\D.bk σ' H'
 |.cont=>∃σ' H',Inv X pins σ' H' s'/\D.ct σ' H'
 |.ret u=>∃v σ' H',Inv X pins σ' H' s'/\RelV v u/\D.rt v H'
def PE(X:Cx)(e:Expr)(t:TE):Prop:=∀(pins:List (N2×Obj)) (s:q7) (σ:St) (H:Hp) (Q:VK),Inv X pins σ H s->t σ H Q->La (model X.prog X.w) X.A (eval e X.env) (EP X pins σ Q) X.xe s
def PT(X:Cx)(e:Expr)(t:TT):Prop:=∀(pins:List (N2×Obj)) (s:q7) (σ:St) (H:Hp) (Q:Bool->Hp->Prop),Inv X pins σ H s->t σ H Q->La (model X.prog X.w) X.A (isTrue e X.env (eval e X.env)) (TP X pins σ Q) X.xe s
def PW(X:Cx)(e:Expr)(t:TT):Prop:=∀(whole:Sem gV) (pins:List (N2×Obj)) (s:q7) (σ:St) (H:Hp) (Q:Bool->Hp->Prop),Inv X pins σ H s->t σ H Q->La (model X.prog X.w) X.A (isTrue e X.env whole) (TP X pins σ Q) X.xe s
theorem PW.pt{X:Cx}{t:TT}(h:PW X e t):PT X e t:=h _
def PA(X:Cx)(es:List Expr)(t:TA):Prop:=∀(pos:Pos) (pins:List (N2×Obj)) (s:q7) (σ:St) (H:Hp) (Q:List V->Hp->Prop),Inv X pins σ H s->t σ H Q->La (model X.prog X.w) X.A (spliced (OL pos (Ll es X.env))) (AP X pins σ Q) X.xe s
def PS(X:Cx)(st:Stmt)(t:TS):Prop:=∀(pins:List (N2×Obj)) (s:q7) (σ:St) (H:Hp) (D:bJ),Inv X pins σ H s->t D σ H->La (model X.prog X.w) X.A (exec st X.env) (SP X pins D) X.xe s
def PSs(X:Cx)(st:List Stmt)(t:TS):Prop:=∀(pins:List (N2×Obj)) (s:q7) (σ:St) (H:Hp) (D:bJ),Inv X pins σ H s->t D σ H->La (model X.prog X.w) X.A (execs st X.env) (SP X pins D) X.xe s
theorem thn{α:Type}{t:Sem α}{Q Q':α->q7->Prop}{E:gV->q7->Prop}(h:La M A t Q E s)(j:∀a s,Q a s->Q' a s):La M A t Q' E s:=Mz h j λ_ _ x=>x
end
variable{X:Cx}{pos:Pos}{pins:List (N2×Obj)}{σ:St}{c:Expr}
section
section
variable{X:Cx}
noncomputable def Cq(i:Nat):TE:=λσ H Q=>∃v,σ[i]?=Z (Z v)/\Q v H
noncomputable def tC(v:V):TE:=λ_ H Q=>Q v H
theorem oD(G:X.N[i]?=Z x)(J:Vis X.env.scope x)(hd:(x==("__debug__":Str))=Md:=by decide)(B:(x==("__classdict__":Str))=Md:=by decide):PE X (.Name x pos) (Cq i):=by
 intro pins s σ H Q I h;obtain⟨v,e,h⟩:=h;obtain⟨m,L,O⟩:=I.loc;obtain⟨u,r,l⟩:=O i x v G e J;have fin:EP X pins σ Q u s:=⟨v,H,I,r,h⟩
 rcases l with⟨z,hm⟩|⟨z,c,F,j⟩
 ·exact Vl (SS I.ok.kind z L hm fin) hd
 ·rcases z with z|z
  ·exact Vl (Tp I.ok.kind z F j fin) hd
  ·exact Vl (wpAny_loadName_free I.ok.kind z F j fin B) hd
theorem Cr{i j pos}:PE X (.Constant (.int i) j pos) (tC (.int i)):=λ_ _ _ H _ I h=>wpAny_Constant_int ⟨.int i,H,I.tok _,⟨_,rfl⟩,h⟩
theorem Ez{b j pos}:PE X (.Constant (.bool b) j pos) (tC (.bl b)):=λ_ _ _ H _ I h=>Constant_bool ⟨.bl b,H,I,rfl,h⟩
theorem Ct{j pos}:PE X (.Constant .none j pos) (tC .non):=λ_ _ _ H _ I h=>Constant_none ⟨.non,H,I,rfl,h⟩
def Gl(X:Cx)(x:Str):Prop:=X.env.kindOf x=Z .globalImplicit
theorem kF{E Q:gV->q7->Prop}(I:Inv X pins σ H s)(j:Gl X x)(hm:X.mg x=Z u)(h:Q u s)(hd:(x==("__debug__":Str))=Md:=by decide):La (model X.prog X.w) X.A (eval (.Name x pos) X.env) Q E s:=Ra I.ok.kind j (Calls.loadGlobal_global (by rw[I.ok.glob];exact I.mod.glob.keeps I.bk) hm h) hd
theorem cm{E Q:gV->q7->Prop}(I:Inv X pins σ H s)(j:Gl X x)(hm:X.mg x=Y)(z:OJ x=Z u)(h:Q u s)(B:x≠"__name__":=by decide)(hd:(x==("__debug__":Str))=Md:=by decide):La (model X.prog X.w) X.A (eval (.Name x pos) X.env) Q E s:=by obtain⟨mb,h1,h2⟩:=I.mod.blt;exact Ra I.ok.kind j (Calls.loadGlobal_builtin (by rw[I.ok.glob];exact I.mod.glob.keeps I.bk) hm (by rw[I.ok.blt];exact h1.keeps I.bk) ((h2 x B).trans z) h) hd
theorem Aw(j:Gl X x)(hm:X.mg x=Y)(z:OJ x=Z u)(r:RelV v u)(B:x≠"__name__":=by decide)(hd:(x==("__debug__":Str))=Md:=by decide):PE X (.Name x pos) (tC v):=λ_ _ _ H _ I h=>cm I j hm z ⟨v,H,I,r,h⟩ B hd
variable{a b:Expr}{ta tb:TE}{pos:Pos}
variable{tA tB':TT}{rest:List Expr}
noncomputable def FY(t u:TT):TT:=λσ H Q=>t σ H λc H1=>if c=F2 then u σ H1 Q else Q Md H1
noncomputable def tOr(t u:TT):TT:=λσ H Q=>t σ H λc H1=>if c=F2 then Q F2 H1 else u σ H1 Q
noncomputable def FZ(t:TT):TT:=λσ H Q=>t σ H λc H1=>Q (!c) H1
theorem Ax(j:PT X a tA):PW X (.BoolOp .And [a] pos) tA:=by
 intro wh pins s σ H Q I h;refine isTrue_and (thn (j pins s σ H Q I h) λc s1 e=>?_)
 cases c with
 |true=>exact isTrue_and_nil e
 |false=>exact e
theorem Cu(j:PT X a tA):PW X (.BoolOp .Or [a] pos) tA:=by
 intro wh pins s σ H Q I h;refine isTrue_or (thn (j pins s σ H Q I h) λc s1 e=>?_)
 cases c with
 |false=>exact isTrue_or_nil e
 |true=>exact e
theorem Cv(B:PT X a tA)(F:PW X (.BoolOp .And (b::rest) pos) tB'):PW X (.BoolOp .And (a::b::rest) pos) (FY tA tB'):=by
 intro wh pins s σ H Q I h;refine isTrue_and (thn (B pins s σ H _ I h) λc s1 G=>?_);obtain⟨H1,j,z⟩:=G
 cases c with
 |true=>exact F wh pins s1 σ H1 Q j z
 |false=>exact⟨H1,j,z⟩
theorem EA(B:PT X a tA)(F:PW X (.BoolOp .Or (b::rest) pos) tB'):PW X (.BoolOp .Or (a::b::rest) pos) (tOr tA tB'):=by
 intro wh pins s σ H Q I h;refine isTrue_or (thn (B pins s σ H _ I h) λc s1 G=>?_);obtain⟨H1,j,z⟩:=G
 cases c with
 |true=>exact⟨H1,j,z⟩
 |false=>exact F wh pins s1 σ H1 Q j z
theorem Cw(j:PT X a tA):PT X (.UnaryOp .Not a pos) (FZ tA):=by intro pins s σ H Q I h;exact isTrue_not (j pins s σ H (λc H1=>Q (!c) H1) I h)
noncomputable def EB(ta tb:TE):TE:=λσ H Q=>ta σ H λx H1=>∃c,x=.bl c/\if c=F2 then tb σ H1 Q else Q (.bl Md) H1
noncomputable def G0(ta tb:TE):TE:=λσ H Q=>ta σ H λx H1=>∃c,x=.bl c/\if c=F2 then Q (.bl F2) H1 else tb σ H1 Q
noncomputable def EC(ta:TE):TE:=λσ H Q=>ta σ H λx H1=>∃c,x=.bl c/\Q (.bl (!c)) H1
theorem Cy{op}{t:TE}(h:PE X a t):PE X (.BoolOp op [a] pos) t:=λpins s σ H Q I hw=>BoolOp_one (h pins s σ H Q I hw)
theorem Cz(B:PE X a ta)(F:PE X (.BoolOp .And (b::rest) pos) tb):PE X (.BoolOp .And (a::b::rest) pos) (EB ta tb):=by
 intro pins s σ H Q I h;refine BoolOp_and (thn (B pins s σ H _ I h) λv s1 G=>?_);obtain⟨x,H1,z,J,j⟩:=G;obtain⟨c,rfl,j⟩:=j
 cases J
 refine Ol ?_
 cases c with
 |true=>exact F pins s1 σ H1 Q z j
 |false=>exact⟨.bl Md,H1,z,rfl,j⟩
theorem ED(B:PE X a ta)(F:PE X (.BoolOp .Or (b::rest) pos) tb):PE X (.BoolOp .Or (a::b::rest) pos) (G0 ta tb):=by
 intro pins s σ H Q I h;refine BoolOp_or (thn (B pins s σ H _ I h) λv s1 G=>?_);obtain⟨x,H1,z,J,j⟩:=G;obtain⟨c,rfl,j⟩:=j
 cases J
 refine Ol ?_
 cases c with
 |false=>exact F pins s1 σ H1 Q z j
 |true=>exact⟨.bl F2,H1,z,rfl,j⟩
theorem CA(z:PE X a ta):PE X (.UnaryOp .Not a pos) (EC ta):=by
 intro pins s σ H Q I h;refine UnaryOp_ (thn (z pins s σ H _ I h) λv s1 B=>?_);obtain⟨x,H1,F,G,j⟩:=B;obtain⟨c,rfl,j⟩:=j
 cases G
 exact not_of (Ol ⟨.bl (!c),H1,F,rfl,j⟩)
noncomputable def tIf(t:TT)(ta tb:TE):TE:=λσ H Q=>t σ H λc H1=>if c=F2 then ta σ H1 Q else tb σ H1 Q
theorem xK(B:PT X c tA)(F:PE X a ta)(G:PE X b tb):PE X (.IfExp c a b pos) (tIf tA ta tb):=by
 intro pins s σ H Q I h;refine wpAny_IfExp (thn (B pins s σ H _ I h) λd s1 J=>?_);obtain⟨H1,j,z⟩:=J
 cases d with
 |true=>exact F pins s1 σ H1 Q j z
 |false=>exact G pins s1 σ H1 Q j z
end
end
variable{K:Frag}{tg:Expr}{te:TE}{ta:TA}{op:Ph}{body:List Stmt}
section
def SqL(K:Frag)(H:Hp)(a:N2)(xs:List V):Prop:=
 Rd H a (.lst xs) ∨
  ∃(o:Obj) (its:Array gV) (n:Nat),K.lookup a=Z o/\o.cls=.type "list"/\o.dict=Y/\o.data=.seq its n/\its.size<=L3/\Vals xs its.toList
def SqT(K:Frag)(H:Hp)(a:N2)(xs:List V):Prop:=
 Rd H a (.tup xs) ∨
  ∃(o:Obj) (its:Array gV) (n:Nat),K.lookup a=Z o/\o.cls=.type "tuple"/\o.data=.seq its n/\its.size<=L3/\Vals xs its.toList
noncomputable def G1:gV->Option V
 |.none=>Z .non
 |.bool b=>Z (.bl b)
 |.int i _=>Z (.int i)
 |.str x _=>Z (.str x)
 |.bytes b _=>Z (.byt b)
 |.float b _=>Z (.flt b)
 |.ref a=>Z (.ref a)
 |.type n=>Z (.ty n)
 |_=>Y
theorem RelV.abs{x:V}(r:RelV x u):G1 u=Z x:=by
 cases x with
 |non=>cases r;rfl
 |bl _=>cases r;rfl
 |int _=>obtain⟨t,rfl⟩:=r;rfl
 |str _=>obtain⟨t,rfl⟩:=r;rfl
 |byt _=>obtain⟨t,rfl⟩:=r;rfl
 |flt _=>obtain⟨t,rfl⟩:=r;rfl
 |ref _=>cases r;rfl
 |ty _=>cases r;rfl
theorem RelV.inj{x y:V}(r:RelV x u)(q:RelV y u):x=y:=MW.inj (r.abs.symm.trans q.abs)
theorem Vals.inj:∀{xs ys:List V} {us:List gV},Vals xs us->Vals ys us->xs=ys
 |_,_,_,.nil,.nil=>rfl
 |_,_,_,.cons r t,.cons r' t'=>by rw[r.inj r',Vals.inj t t']
section
variable{X:Cx}{pins:List (N2×Obj)}{σ:St}{H:Hp}{s:q7}{a:N2}{xs ys:List V}
theorem SqL.of(h:H a=Z (.lst xs)):SqL K H a xs:=.inl (.inl h)
theorem SqT.of(h:H a=Z (.tup xs)):SqT K H a xs:=.inl (.inl h)
theorem Inv.list(I:Inv X pins σ H s)(h:SqL X.K H a xs):∃its:List gV,Vals xs its/\PlainL s.heap a its.toArray/\xs.length<=L3:=by
 rcases h with h|⟨o,its,n,j,B,hd,hs,F,r⟩
 ·obtain⟨z,its,n,r,e⟩:=h.ok I.hok;exact⟨its,r,⟨_,n,e,rfl,rfl,rfl⟩,z⟩
 ·refine⟨its.toList,r,⟨o,n,I.kIn a o j,B,hd,by simpa using hs⟩,?_⟩
  have e:=r.length;simp only[Ly]at e;lia
theorem Inv.tuple(I:Inv X pins σ H s)(h:SqT X.K H a xs):∃its:List gV,Vals xs its/\IsTup s.heap a its.toArray/\xs.length<=L3:=by
 rcases h with h|⟨o,its,n,j,B,hs,F,r⟩
 ·obtain⟨z,its,r,p⟩:=h.ok I.hok;exact⟨its,r,p,z⟩
 ·refine⟨its.toList,r,⟨o,I.kIn a o j,B,n,by simpa using hs⟩,?_⟩
  have e:=r.length;simp only[Ly]at e;lia
theorem Inv.list_inj(I:Inv X pins σ H s)(h:SqL X.K H a xs)(h':SqL X.K H a ys):xs=ys:=by
 obtain⟨its,r,⟨o,n,e,_,_,d⟩,_⟩:=I.list h;obtain⟨its',r',⟨o',n',e',_,_,d'⟩,_⟩:=I.list h';rw[e]at e';cases e';rw[d]at d'
 injection d' with d1 _
 have:its=its':=by simpa using congrArg Si d1
 subst this;exact r.inj r'
theorem Inv.tuple_inj(I:Inv X pins σ H s)(h:SqT X.K H a xs)(h':SqT X.K H a ys):xs=ys:=by
 obtain⟨its,r,⟨o,e,_,n,d⟩,_⟩:=I.tuple h;obtain⟨its',r',⟨o',e',_,n',d'⟩,_⟩:=I.tuple h';rw[e]at e';cases e';rw[d]at d'
 injection d' with d1 _
 have:its=its':=by simpa using congrArg Si d1
 subst this;exact r.inj r'
end
noncomputable abbrev Cx.wish(X:Cx)(E:gV->q7->Prop):Cx:={X with xe:=E}
noncomputable abbrev Cx.nox(X:Cx):Cx:=X.wish λ_ _=>False
theorem Cx.Ok.wish(ok:X.Ok)(E:gV->q7->Prop):(X.wish E).Ok:=⟨ok.mod,ok.kind,ok.glob,ok.blt,ok.above,ok.inj,ok.has,ok.cab,ok.hd,ok.frames,ok.stk,ok.exf,ok.bs,ok.bsz,ok.noex,ok.exfs,ok.funs,ok.frf⟩
theorem Cx.Ok.unwish{E:gV->q7->Prop}(ok:(X.wish E).Ok):X.Ok:=⟨ok.mod,ok.kind,ok.glob,ok.blt,ok.above,ok.inj,ok.has,ok.cab,ok.hd,ok.frames,ok.stk,ok.exf,ok.bs,ok.bsz,ok.noex,ok.exfs,ok.funs,ok.frf⟩
section
variable{X:Cx}{pins:List (N2×Obj)}{σ:St}{H:Hp}{s:q7}{E:gV->q7->Prop}
theorem Inv.wish(I:Inv X pins σ H s)(E:gV->q7->Prop):Inv (X.wish E) pins σ H s:=⟨I.ok.wish E,I.os,I.bare,I.base,I.loc,I.cell,I.free,I.freeC,I.pin,I.hok,I.len⟩
theorem Inv.unwish(I:Inv (X.wish E) pins σ H s):Inv X pins σ H s:=⟨I.ok.unwish,I.os,I.bare,I.base,I.loc,I.cell,I.free,I.freeC,I.pin,I.hok,I.len⟩
theorem SP.unwish{D:bJ}{f:Flow}{s':q7}(h:SP (X.wish E) pins D f s'):SP X pins D f s':=by
 cases f with
 |next=>obtain⟨σ',H',I,q⟩:=h;exact⟨σ',H',I.unwish,q⟩
 |brk=>obtain⟨σ',H',I,q⟩:=h;exact⟨σ',H',I.unwish,q⟩
 |cont=>obtain⟨σ',H',I,q⟩:=h;exact⟨σ',H',I.unwish,q⟩
 |ret u=>obtain⟨v,σ',H',I,r,q⟩:=h;exact⟨v,σ',H',I.unwish,r,q⟩
theorem PSs.nox{st:List Stmt}{t:TS}(h:PSs X.nox st t):PSs X st t:=λpins s σ H D I hw=>Mz (h pins s σ H D (I.wish _) hw) (λ_ _ q=>q.unwish) λ_ _ z=>False.elim z
end
section
variable{X:Cx}{st:Stmt}{rest:List Stmt}{t u:TS}{e:Expr}{te:TE}{pos:Pos}
noncomputable def t8:TS:=λD σ H=>D.nx σ H
noncomputable def CB(t u:TS):TS:=λD σ H=>t {D with nx:=u D} σ H
theorem Ay:PSs X [] t8:=λ_ _ σ H _ I h=>SA ⟨σ,H,I,h⟩
theorem xL(h1:PS X st t)(h2:PSs X rest u):PSs X (st::rest) (CB t u):=by
 intro pins s σ H D I h;refine wpAny_execs_cons (thn (h1 pins s σ H {D with nx:=u D} I h) λf s1 q=>?_)
 cases f with
 |next=>obtain⟨σ',H',I',q⟩:=q;exact h2 pins s1 σ' H' D I' q
 |ret v=>exact q
 |brk=>exact q
 |cont=>exact q
noncomputable def uY:TS:=λD σ H=>D.bk σ H
noncomputable def zW:TS:=λD σ H=>D.ct σ H
theorem Az:PS X (.Pass pos) t8:=λ_ _ σ H _ I h=>wpAny_Pass ⟨σ,H,I,h⟩
theorem xM:PS X (.Break pos) uY:=λ_ _ σ H _ I h=>wpAny_Break ⟨σ,H,I,h⟩
theorem qW:PS X (.Continue pos) zW:=λ_ _ σ H _ I h=>wpAny_Continue ⟨σ,H,I,h⟩
theorem Inv.quiet(I:Inv X pins σ H s):interactive X.env=Md:=by simp[interactive,I.ok.kind]
noncomputable def zX(te:TE):TS:=λD σ H=>te σ H λ_ H1=>D.nx σ H1
theorem AA(he:PE X e te)(hs:Pp e Y pos.line X.env=pure Md:=by rfl):PS X (.Expr e pos) (zX te):=by intro pins s σ H D I h;exact wpAny_Expr_any (thn (he pins s σ H _ I h) λv s1 j=>(by obtain⟨x,H1,z,F,B⟩:=j;exact⟨σ,H1,z,B⟩)) I.quiet hs
noncomputable def CC(te:TE):TS:=λD σ H=>te σ H D.rt
theorem CD(he:PE X e te):PS X (.Return (Z e) pos) (CC te):=by intro pins s σ H D I h;exact wpAny_Return_some (thn (he pins s σ H _ I h) λv s1 j=>(by obtain⟨x,H1,z,B,F⟩:=j;exact⟨x,σ,H1,z,B,F⟩))
noncomputable def CF(c:TT)(t u:TS):TS:=λD σ H=>c σ H λb H1=>if b=F2 then t D σ H1 else u D σ H1
theorem EE{a b:List Stmt}{tc:TT}(B:PT X c tc)(F:PSs X a t)(G:PSs X b u):PS X (.If c a b pos) (CF tc t u):=by
 intro pins s σ H D I h;refine wpAny_If (thn (B pins s σ H _ I h) λd s1 J=>?_);obtain⟨H1,j,z⟩:=J
 cases d with
 |true=>exact F pins s1 σ H1 D j z
 |false=>exact G pins s1 σ H1 D j z
end
noncomputable abbrev TG:=V->St->Hp->(St->Hp->Prop)->Prop
noncomputable abbrev TGs:=List V->St->Hp->(St->Hp->Prop)->Prop
def PG(X:Cx)(target:Expr)(t:TG):Prop:=
 ∀(pins:List (N2×Obj)) (s:q7) (σ:St) (H:Hp) (v:V) (u:gV) (Q:St->Hp->Prop),Inv X pins σ H s->RelV v u->t v σ H Q->
  La (model X.prog X.w) X.A (assign target X.env u) (λ_ s'=>∃σ' H',Inv X pins σ' H' s'/\Q σ' H') X.xe s
def PGs(X:Cx)(ts:List Expr)(t:TGs):Prop:=
 ∀(pins:List (N2×Obj)) (s:q7) (σ:St) (H:Hp) (vs:List V) (us:List gV) (Q:St->Hp->Prop),Inv X pins σ H s->Vals vs us->t vs σ H Q->
  La (model X.prog X.w) X.A (RG ((MM ts X.env).map (·.2)) us) (λ_ s'=>∃σ' H',Inv X pins σ' H' s'/\Q σ' H') X.xe s
noncomputable abbrev kG:=V->V->V->Hp->(Hp->Prop)->Prop
def PSet(X:Cx)(t:kG):Prop:=
 ∀(pins:List (N2×Obj)) (s:q7) (σ:St) (H:Hp) (o i v:V) (ov iv u:gV) (Q:Hp->Prop),Inv X pins σ H s->RelV o ov->RelV i iv->RelV v u->t o i v H Q->
  La (model X.prog X.w) X.A (Th ov iv u) (λ_ s'=>∃H',Inv X pins σ H' s'/\Q H') X.xe s
noncomputable abbrev TIp:=V->V->Hp->VK->Prop
def PIp(X:Cx)(op:Ph)(t:TIp):Prop:=
 ∀(pins:List (N2×Obj)) (s:q7) (σ:St) (H:Hp) (x y:V) (v u:gV) (Q:VK),Inv X pins σ H s->RelV x v->RelV y u->t x y H Q->
  La (model X.prog X.w) X.A (O1 op v u) (EP X pins σ Q) X.xe s
section
variable{X:Cx}{pos:Pos}
noncomputable def jl(i:Nat):TG:=λv σ H Q=>Q (σ.set i (Z v)) H
theorem rA(j:X.N.Nodup)(hi:X.N[i]?=Z x)(hx:Loc X.env.scope x)(hf:X.fn x=F2∨X.env.scope.names.lookup x=Z .local:=by first|exact .inl rfl|exact .inr rfl|assumption):PG X (.Name x pos) (jl i):=by intro pins s σ H v u Q I r h;exact wpAny_assign_Name (fR I j hi hx r (λs' I'=>⟨_,H,I',h⟩) hf)
noncomputable def G2:TGs:=λvs σ H Q=>vs=[]/\Q σ H
noncomputable def EF(t:TG)(u:TGs):TGs:=λvs σ H Q=>∃v r,vs=v::r/\t v σ H λσ' H'=>u r σ' H' Q
theorem AB:PGs X [] G2:=by
 intro pins s σ H vs us Q I r h;obtain⟨e,h⟩:=h;subst e
 cases r
 exact U8 ⟨σ,H,I,h⟩
theorem xN{es:List Expr}{t:TG}{u:TGs}(h1:PG X e t)(h2:PGs X es u)(hs:(MM (e::es) X.env).map (·.2)=assign e X.env::(MM es X.env).map (·.2):=by rfl):PGs X (e::es) (EF t u):=by
 intro pins s σ H vs us Q I r h;obtain⟨v,vr,e1,h⟩:=h;subst e1
 cases r with
 |cons r rr=>rw[hs];refine Rb (thn (h1 pins s σ H _ _ _ I r h) λ_ s1 j=>?_);obtain⟨σ1,H1,z,B⟩:=j;exact h2 pins s1 σ1 H1 _ _ Q z rr B
noncomputable def G3(K:Frag)(n:Nat)(t:TGs):TG:=λv σ H Q=>∃a xs,v=.ref a/\SqT K H a xs/\xs.length=n/\t xs σ H Q
theorem CG{es:List Expr}{k:Nat}{t:TGs}{n:Nat}(z:X.calm=F2)(h:PGs X es t)(B:(MM es X.env).length=n:=by rfl)(j:(MM es X.env).findIdx? (·.1)=Y:=by rfl):PG X (.Tuple es k pos) (G3 X.K n t):=by
 intro pins s σ H v u Q I r hw;obtain⟨a,xs,e1,F,G,hw⟩:=hw;subst e1
 cases r
 obtain⟨its,rv,J,O⟩:=I.tuple F;refine assign_Tuple_tuple (I.ok.hd z) J (by simp[B,<-G,rv.length]) j λh' hx=>?_
 have L:Inv X pins σ H {s with heap:=h'}:=I.kept (t':=s.toks) λb o e=>hx b o (Lr (KR e)) e
 exact h pins _ σ H xs _ Q L (by simpa using rv) hw
noncomputable def G4(to ti:TE)(t:kG):TG:=λv σ H Q=>to σ H λo H1=>ti σ H1 λi H2=>t o i v H2 λH3=>Q σ H3
theorem CH {o i:Expr}{to ti:TE}{t:kG}(ho:PE X o to)(hi:PE X i ti)(hs:PSet X t)(z:∀v,assign (.Subscript o i pos) X.env v=(do
   let ov <-holding [v] (eval o X.env)
   let iv <-holding [v,ov] (eval i X.env)
   Rz pos
   holding [v,ov,iv] (Th ov iv v)
   release [v,ov,iv] []):=by intro _;rfl):PG X (.Subscript o i pos) (G4 to ti t):=by
 intro pins s σ H v u Q I r h;rw[z];refine g8 (Mj (thn (ho pins s σ H _ I h) λov s1 j=>?_));obtain⟨x,H1,B,F,G⟩:=j;refine g8 (Mj (thn (hi pins s1 σ H1 _ B G) λiv s2 j=>?_));obtain⟨y,H2,J,L,O⟩:=j;refine g8 (Ov (g8 (Mj (thn (hs pins s2 σ H2 x y v ov iv u _ J F L r O) λ_ s3 j=>?_))));obtain⟨U,Fn,fv⟩:=j;exact wpAny_release ⟨σ,U,Fn,fv⟩
noncomputable def oE(te:TE)(g:TG):TS:=λD σ H=>te σ H λx H1=>g x σ H1 D.nx
theorem oF{g:TG}(he:PE X e te)(j:PG X tg g)(hs:PD [tg] e pos.line X.env=pure Md:=by rfl)(hw:Ow [tg] e X.env=pure Y:=by rfl)(h1:(MM [tg] X.env).map (·.2)=[assign tg X.env]:=by rfl):PS X (.Assign [tg] e pos) (oE te g):=by intro pins s σ H D I h;refine wpAny_Assign_stores (thn (he pins s σ H _ I h) λv s1 g9=>?_) hs hw;obtain⟨x,H1,z,B,F⟩:=g9;rw[h1];exact thn (j pins s1 σ H1 x v _ z B F) λ_ s2 q=>q
noncomputable def CI(i j:Nat)(ta:TA):TS:=λD σ H=>ta σ H λvs H1=>∃v w,vs=[v,w]/\D.nx ((σ.set i (Z v)).set j (Z w)) H1
theorem CJ{j:Nat}{y:Str}{a b:Expr}{px py pt:Pos}{kt B z}(Fn:X.calm=F2)(L:X.N.Nodup)(hi:X.N[i]?=Z x)(fv:X.N[j]?=Z y)(F:i≠j)(hx:X.env.scope.names.lookup x=Z .local)(O:X.env.scope.names.lookup y=Z .local)(ha:PA X [a,b] ta)(hw:Ow [.Tuple [.Name x px,.Name y py] kt pt] (.Tuple [a,b] B z) X.env=pure (Z [x,y]))(hs:PD [.Tuple [.Name x px,.Name y py] kt pt] (.Tuple [a,b] B z) pos.line X.env=pure Md:=by rfl):
 PS X (.Assign [.Tuple [.Name x px,.Name y py] kt pt] (.Tuple [a,b] B z) pos) (CI i j ta):=by
 intro pins s σ H D I h;rw[exec_Assign_arm];refine g8 (Ov ?_);rw[hs];refine g8 (z0 ?_);rw[if_neg (by decide)]
 refine g8 (Tuple_ (thn (ha _ pins s σ H _ I h) λus s1 g9=>?_));obtain⟨vs,H1,I1,r1,G⟩:=g9;obtain⟨v,w,e1,G⟩:=G;subst e1;obtain⟨u1,u2,rfl,rv,rw'⟩:∃u1 u2,us=[u1,u2]/\RelV v u1/\RelV w u2:=by
  cases r1 with
  |cons p q=>
   cases q with
   |cons p' q'=>
    cases q'
    exact⟨_,_,rfl,p,p'⟩
 refine MQ ?_ (by show 2<=L3;decide)
 have I2:Inv X pins σ H1 {s1 with heap:=s1.heap.push {cls:=.type "tuple",data:=.seq [u1,u2].toArray}}:=I1.kept (t':=s1.toks) λb o e=>i0 _ e
 rw[hw];refine g8 (z0 ?_);show La (model X.prog X.w) X.A (do rule "assign.swapped-stores";let items <-V1 (.ref s1.heap.objs.size) 2 Y;RG [λv=>Vm X.env y v,λv=>Vm X.env x v] items.reverse;pure Flow.next) _ _ _
 refine g8 (Nt (g8 (unpackItems_tuple (items:=#[u1,u2]) (I.ok.hd Fn) (R9 s1.heap _) λh' J=>?_)));have I3:=I2.kept (h':=h') (t':=s1.toks) λb o e=>J b o (Lr (KR e)) e;show La _ _ (RG [λv=>Vm X.env y v,λv=>Vm X.env x v] [u2,u1]>>=λ_=>pure Flow.next) _ _ _;refine g8 (Rb (wpAny_bindName (fR I3 L fv (.inl O) rw' (λs2 I4=>?_) (.inr O))));refine Rb (wpAny_bindName (fR I4 L hi (.inl hx) rv (λs3 U=>U8 (z0 ?_)) (.inr hx)));rw[List.set_comm _ _ (Ne.symm F)]at U;exact⟨_,H1,U,G⟩
noncomputable def G5(i:Nat)(te:TE)(ti:TIp):TS:=λD σ H=>∃x,σ[i]?=Z (Z x)/\te σ H λy H1=>ti x y H1 λz H2=>D.nx (σ.set i (Z z)) H2
theorem CK{ti:TIp}{pos':Pos}(G:X.N.Nodup)(hi:X.N[i]?=Z x)(hx:Loc X.env.scope x)(he:PE X e te)(ho:PIp X op ti)(hf:X.fn x=F2∨X.env.scope.names.lookup x=Z .local:=by first|exact .inl rfl|exact .inr rfl|assumption):
 PS X (.AugAssign (.Name x pos') op e pos) (G5 i te ti):=by
 intro pins s σ H D I h;obtain⟨v,e1,h⟩:=h;obtain⟨m,J,L⟩:=I.loc;have vis:Vis X.env.scope x:=by rcases hx with k|k;exact .inl k;exact .inr (.inl k)
 obtain⟨u,r,l⟩:=L i x v hi e1 vis;refine wpAny_AugAssign_Name ?_;have go:La (model X.prog X.w) X.A (eval e X.env) (λw s₂=>La (model X.prog X.w) X.A (O1 op u w) (λr s₃=>La (model X.prog X.w) X.A (storeName X.env x r) (λ_=>SP X pins D .next) X.xe s₃) X.xe s₂) X.xe s:=by refine thn (he pins s σ H _ I h) λw s1 F=>?_;obtain⟨y,H1,O,U,Fn⟩:=F;refine thn (ho pins s1 σ H1 v y u w _ O r U Fn) λz s2 F=>?_;obtain⟨zv,H2,fv,r2,q2⟩:=F;exact fR fv G hi hx r2 (λs3 I3=>⟨_,H2,I3,q2⟩) hf
 rcases l with⟨j,hm⟩|⟨j,c,hc,B⟩
 ·exact SS I.ok.kind j J hm go
 ·rcases j with j|j
  ·exact Tp I.ok.kind j hc B go
  ·rcases hx with k|k
   ·have:X.env.scope.names.lookup x=Z .free:=j;rw[k]at this;cases this
   ·have:X.env.scope.names.lookup x=Z .free:=j;rw[k]at this;cases this
noncomputable def EG(to ti te:TE)(tget:V->V->Hp->VK->Prop)(tip:TIp)(tset:kG):TS:=λD σ H=>to σ H λo H1=>ti σ H1 λi H2=>tget o i H2 λx H3=>te σ H3 λy H4=>tip x y H4 λz H5=>tset o i z H5 λH6=>D.nx σ H6
def CL(X:Cx)(t:V->V->Hp->VK->Prop):Prop:=
 ∀(pins:List (N2×Obj)) (s:q7) (σ:St) (H:Hp) (o i:V) (ov iv:gV) (Q:VK),Inv X pins σ H s->RelV o ov->RelV i iv->t o i H Q->
  La (model X.prog X.w) X.A (RA ov iv) (EP X pins σ Q) X.xe s
theorem AC{o i:Expr}{to ti:TE}{tget:V->V->Hp->VK->Prop}{tip:TIp}{tset:kG}{tpos:Pos}(ho:PE X o to)(hi:PE X i ti)(J:CL X tget)(he:PE X e te)(L:PIp X op tip)(hs:PSet X tset)(O:∀ov iv new,augStore i ov iv new=(do holding [new,ov,iv] (Th ov iv new);release [new,ov,iv] [];pure .next):=by intros;rfl):PS X (.AugAssign (.Subscript o i tpos) op e pos) (EG to ti te tget tip tset):=by intro pins s σ H D I h;refine wpAny_AugAssign_SubscriptAny (thn (ho pins s σ H _ I h) λov s1 g9=>?_) O;obtain⟨z,H1,U,B,Fn⟩:=g9;refine thn (hi pins s1 σ H1 _ U Fn) λiv s2 j=>?_;obtain⟨F,H2,fv,G,q2⟩:=j;refine thn (J pins s2 σ H2 z F ov iv _ fv B G q2) λold s3 j=>?_;obtain⟨x3,H3,I3,r3,q3⟩:=j;refine thn (he pins s3 σ H3 _ I3 q3) λv s4 j=>?_;obtain⟨x4,H4,I4,r4,q4⟩:=j;refine thn (L pins s4 σ H4 x3 x4 old v _ I4 r3 r4 q4) λnew s5 j=>?_;obtain⟨x5,H5,I5,r5,q5⟩:=j;exact thn (hs pins s5 σ H5 z F x5 ov iv new _ I5 B G r5 q5) λ_ s6 j=>(by obtain⟨H6,I6,q6⟩:=j;exact⟨σ,H6,I6,q6⟩)
end
section
variable{X:Cx}{pos:Pos}
noncomputable def uZ(c:TT)(tb:TS):TS:=λD σ H=>∃W:Nat->St->Hp->Prop,(∃m,W m σ H)/\∀m σ H,W m σ H->
 c σ H λb H1=>if b=F2 then ∃N:St->Hp->Prop,(∀σ' H',N σ' H'->∃m',m'<m/\W m' σ' H')/\tb {D with nx:=N,ct:=N,bk:=D.nx} σ H1 else D.nx σ H1
theorem xO{tc:TT}{tb:TS}(L:PassesOwn (model X.prog X.w) X.A X.env X.xe)(Fn:PT X c tc)(fv:PSs X body tb):PS X (.While c body [] pos) (uZ tc tb):=by
 intro pins s σ H D I h;obtain⟨W,⟨m0,w0⟩,turn⟩:=h;refine wpAny_While (codeAny_whileLoop (λn s'=>∃σ' H',Inv X pins σ' H' s'/\W n σ' H') ?_ m0 ⟨σ,H,I,w0⟩);rintro n s1 ⟨σ1,H1,I1,w1⟩;refine Oh L (thn (Fn pins s1 σ1 H1 _ I1 (turn n σ1 H1 w1)) λb s2 g9=>?_);obtain⟨H2,O,z⟩:=g9
 cases b with
 |true=>
  obtain⟨N,U,z⟩:=z;rw[if_pos rfl];refine Oh L (thn (fv pins s2 σ1 H2 _ O z) λf s3 B=>?_)
  cases f with
  |next=>obtain⟨σ3,j,F,G⟩:=B;obtain⟨m',hm,J⟩:=U σ3 j G;exact⟨m',hm,σ3,j,F,J⟩
  |cont=>obtain⟨σ3,j,F,G⟩:=B;obtain⟨m',hm,J⟩:=U σ3 j G;exact⟨m',hm,σ3,j,F,J⟩
  |brk=>exact B
  |ret v=>exact B
 |false=>rw[if_neg KW];exact SA ⟨σ1,H2,O,z⟩
end
structure It where
 go:Nat->Hp->Prop
 yld:Nat->Hp->V->Hp->Prop
 stop:Nat->Hp->Prop
def cH(X:Cx)(pins:List (N2×Obj))(H:Hp)(b:N2):Prop:=H b=Y/\b≠X.env.locals/\b∉X.fs/\(b∈X.ex∨X.s₀.heap.objs.size<=b)/\(∀x c,X.env.cells.lookup x=Z c->c≠b)/\∀p∈X.pn++pins,p.1≠b
theorem Inv.fpOk{H':Hp}(I:Inv X pins σ H s)(j:s.heap.objs.size<=b)(B:H' b=Y):cH X pins H' b:=by
 refine⟨B,MD (Lz I.lt j),I.nofs j,.inr (Mu I.sz j),λx c e z=>?_,λp F z=>?_⟩
 ·obtain⟨v,q⟩:=I.cell x c e;exact absurd (Lz q.lt (by rw[z];exact j)) (My _)
 ·exact absurd (Lz (KR (I.pin p F).1) (by rw[z];exact j)) (My _)
structure iX(P:Ln)(w:LL)(K:Frag)(tg:Expr)(J:It)(fp:List N2)(it:N2)(tn:Nat->Heap->Prop):Prop where
 mem:it∈fp
 obj:∀i h,tn i h->∀b∈fp,∃o,h.get? b=Z o/\∀v,o.data≠.cell v
 keep:∀i h h',tn i h->(∀b∈fp,∀o,h.get? b=Z o->h'.get? b=Z o)->tn i h'
 item:∀(X:Cx),X.prog=P->X.w=w->X.K=K->X.calm=F2->∀(i:Nat) (pins:List (N2×Obj)) (s:q7) (σ:St) (H:Hp) (E:gV->q7->Prop),Inv X pins σ H s->(∀b∈fp,cH X pins H b)->tn i s.heap->J.go i H->
  La (model P w) X.A (O9 (.ref it)) (λr s1=>∃u,r=Z u /\
   La (model P w) X.A (QL tg (.ref it) u) (λ_ s2=>∃x H',Inv X pins σ H' s2/\RelV x u/\J.yld i H x H'/\tn (i+1) s2.heap/\∀b∈fp,H' b=Y) E s1) E s
 done:∀(X:Cx),X.prog=P->X.w=w->X.K=K->X.calm=F2->∀(i:Nat) (pins:List (N2×Obj)) (s:q7) (σ:St) (H:Hp) (E:gV->q7->Prop),Inv X pins σ H s->(∀b∈fp,cH X pins H b)->tn i s.heap->J.stop i H->
  La (model P w) X.A (O9 (.ref it)) (λr s1=>r=Y/\Inv X pins σ H s1) E s
 self:∀(A:LQ) (i:Nat) (s:q7) (Q:gV->q7->Prop) (E:gV->q7->Prop),tn i s.heap->Q (.ref it) s->La (model P w) A (SU (.ref it)) Q E s
noncomputable abbrev TI:=St->Hp->(It->Hp->Prop)->Prop
def PIE(X:Cx)(pins:List (N2×Obj))(σ:St)(tg:Expr)(R:It->Hp->Prop)(itv:gV)(s2:q7):Prop:=∃(it:N2) (fp:List N2) (tn:Nat->Heap->Prop) (J:It) (H':Hp),itv=.ref it/\Inv X pins σ H' s2/\iX X.prog X.w X.K tg J fp it tn/\tn 0 s2.heap/\(∀b∈fp,cH X pins H' b)/\R J H'
def PI(X:Cx)(tg iter:Expr)(wi:TI):Prop:=
 ∀(pins:List (N2×Obj)) (s:q7) (σ:St) (H:Hp) (R:It->Hp->Prop),Inv X pins σ H s->wi σ H R->
  La (model X.prog X.w) X.A (eval iter X.env) (λv s1=>La (model X.prog X.w) X.A (SU v) (PIE X pins σ tg R) X.xe s1) X.xe s
theorem t9{E:gV->q7->Prop}{it:N2}{o:Obj}{n:String}{vs:Array gV}{Q:Unit->q7->Prop}(ho:s.heap.get? it=Z o)(z:o.cls=.type n)(hd:o.data=.fields vs)(B:["enumerate","zip","dict_itemiterator","dict_reverseitemiterator","odict_iterator","itertools.zip_longest","itertools.pairwise"].contains n=Md)(j:Q () s):La M A (QL tg (.ref it) u) Q E s:=by
 unfold QL
 cases tg<;>first
  |exact z0 j
  | (cases u<;>first
      |exact z0 j
      | (refine g8 (Vn ho ?_)
         rw[z,hd];show La M A (if(["enumerate","zip","dict_itemiterator","dict_reverseitemiterator","odict_iterator","itertools.zip_longest","itertools.pairwise"].contains n&&vs[0]?==Z (NH _))=F2 then _ else _) Q E s
         rw[if_neg (by intro h;rw[B,Bool.false_and]at h;cases h)]
         exact z0 j))
noncomputable def Itl(K:Frag)(a:N2):It:=⟨λi H=>∃xs x,SqL K H a xs/\xs[i]?=Z x,λi H x H'=>H'=H/\∀xs,SqL K H a xs->xs[i]?=Z x,λi H=>∃xs,SqL K H a xs/\xs.length<=i⟩
noncomputable def Itt(K:Frag)(a:N2):It:=⟨λi H=>∃xs x,SqT K H a xs/\xs[i]?=Z x,λi H x H'=>H'=H/\∀xs,SqT K H a xs->xs[i]?=Z x,λi H=>∃xs,SqT K H a xs/\xs.length<=i⟩
noncomputable def Itr(lo:Int)(n:Nat):It:=⟨λi _=>i<n,λi H x H'=>H'=H/\x=.int (lo+i),λi _=>n<=i⟩
theorem v6(a it:N2):iX P w K tg (Itl K a) [it] it (λi h=>h.IsListIter it a i) where
 mem:=by simp
 obj:=λi h st b j=>by
  have e:b=it:=by simpa using j
  subst e;obtain⟨o,e,c,d⟩:=st;exact⟨o,e,λv z=>by rw[d]at z;cases z⟩
 keep:=λi h h' st k=>st.at λo e=>k it (by simp) o e
 item:=by
  intro X F hw G O i pins s σ H E I hf st hg;subst F hw G;obtain⟨xs,x,B,hx⟩:=hg;obtain⟨its,rv,p,U⟩:=I.list B;obtain⟨u,Fn,ru⟩:=rv.get hx;obtain⟨f0,f1,f2,J,f4,L⟩:=hf it (by simp)
  refine Sj st p.isList (x:=u) (by simpa using Fn) λh' st' sb=>?_
  have fv:Inv X pins σ H {s with heap:=h'}:=I.turned (t':=s.toks) (λb o j e=>(sb.2 b j).trans e) f0 f1 J f4 L
  obtain⟨o,e,c,d⟩:=id st';exact⟨u,rfl,t9 (s:={s with heap:=h'}) e c d (by decide) ⟨x,H,fv,ru,⟨rfl,λys hy=>by rw[I.list_inj hy B];exact hx⟩,st',λb j=>(hf b j).1⟩⟩
 done:=by
  intro X F hw G O i pins s σ H E I hf st hg;subst F hw G;obtain⟨xs,B,hx⟩:=hg;obtain⟨its,rv,p,U⟩:=I.list B;obtain⟨f0,f1,f2,J,f4,L⟩:=hf it (by simp)
  have hl:=rv.length;exact SJ (I.ok.hd O) st p.isList (by simp;lia) λh' eb=>⟨rfl,I.turned (t':=s.toks) (λb o j e=>eb b o j e) f0 f1 J f4 L⟩
 self:=λ_ _ _ _ _ st h=>wpAny_pyIter_listiter st h
theorem tf(a it:N2):iX P w K tg (Itt K a) [it] it (λi h=>h.IsTupleIter it a i) where
 mem:=by simp
 obj:=λi h st b j=>by
  have e:b=it:=by simpa using j
  subst e;obtain⟨o,e,c,d⟩:=st;exact⟨o,e,λv z=>by rw[d]at z;cases z⟩
 keep:=λi h h' st k=>st.at λo e=>k it (by simp) o e
 item:=by
  intro X F hw G O i pins s σ H E I hf st hg;subst F hw G;obtain⟨xs,x,B,hx⟩:=hg;obtain⟨its,rv,p,U⟩:=I.tuple B;obtain⟨u,Fn,ru⟩:=rv.get hx;obtain⟨f0,f1,f2,J,f4,L⟩:=hf it (by simp)
  refine wpAny_pyNext_tuple_item st (show s.heap.IsTuple a its.toArray from p) (x:=u) (by simpa using Fn) λh' st' sb=>?_
  have fv:Inv X pins σ H {s with heap:=h'}:=I.turned (t':=s.toks) (λb o j e=>(sb.2 b j).trans e) f0 f1 J f4 L
  obtain⟨o,e,c,d⟩:=id st';exact⟨u,rfl,t9 (s:={s with heap:=h'}) e c d (by decide) ⟨x,H,fv,ru,⟨rfl,λys hy=>by rw[I.tuple_inj hy B];exact hx⟩,st',λb j=>(hf b j).1⟩⟩
 done:=by
  intro X F hw G O i pins s σ H E I hf st hg;subst F hw G;obtain⟨xs,B,hx⟩:=hg;obtain⟨its,rv,p,U⟩:=I.tuple B;obtain⟨f0,f1,f2,J,f4,L⟩:=hf it (by simp)
  have hl:=rv.length;exact wpAny_pyNext_tuple_end (I.ok.hd O) st (show s.heap.IsTuple a its.toArray from p) (by simp;lia) λh' eb=>⟨rfl,I.turned (t':=s.toks) (λb o j e=>eb b o j e) f0 f1 J f4 L⟩
 self:=λ_ _ _ _ _ st h=>wpAny_pyIter_tupleiter st h
theorem tj(it:N2)(lo:Int)(n:Nat):iX P w K tg (Itr lo n) [it] it (λi h=>IsRangeIter h it (lo+(i:Nat)*1) ((n:Int)-(i:Nat)) 1) where
 mem:=by simp
 obj:=λi h st b j=>by
  have e:b=it:=by simpa using j
  subst e;exact⟨_,st,λv z=>by
   have z':V2 _=Data.cell v:=z
   cases z'⟩
 keep:=λi h h' st k=>k it (by simp) _ st
 item:=by
  intro X B hw F G i pins s σ H E I hf st hg;subst B hw F;obtain⟨f0,f1,f2,J,f4,L⟩:=hf it (by simp)
  have W:=Walks.range (prog:=X.prog) (w:=X.w) (I.ok.hd G) it lo 1 n;refine W.item i s _ _ hg st λv h' tk O st' kk=>?_;obtain⟨t,rfl⟩:=O;have U:Inv X pins σ H {s with heap:=h',toks:=tk}:=I.turned (λb o j e=>kk b o (by simpa using j) e) f0 f1 J f4 L
  refine⟨_,rfl,t9 (s:={s with heap:=h',toks:=tk}) (n:="range_iterator") st' rfl rfl (by decide) ⟨.int (lo+i),H,U,⟨t,?_⟩,⟨rfl,rfl⟩,st',λb j=>(hf b j).1⟩⟩
  rw[Int.mul_one]
 done:=by
  intro X B hw F G i pins s σ H E I hf st hg;subst B hw F;obtain⟨f0,f1,f2,J,f4,L⟩:=hf it (by simp)
  exact wpAny_pyNext_range_end (I.ok.hd G) st (by have:n<=i:=hg;lia) λh' eb=>⟨rfl,I.turned (t':=s.toks) (λb o j e=>eb b o j e) f0 f1 J f4 L⟩
 self:=λ_ _ _ _ _ st h=>wpAny_pyIter_rangeiter st h
end
variable{fp:List N2}
section
section
variable{X:Cx}{tg:Expr}
theorem oG{R:It->Hp->Prop}{E:gV->q7->Prop}{lo hi:Int}{t u v:Tok}{tk:Nat}(I:Inv X pins σ H s)(h1:-(2^62)<=lo)(h2:lo<2^62)(z:-(2^62)<=hi)(B:hi<2^62)(q:R (Itr lo (hi-lo).toNat) H):La (model X.prog X.w) X.A (SU (.ref s.heap.objs.size)) (PIE X pins σ tg R) E {s with heap:=s.heap.push {cls:=.type "range",data:=.fields #[.int lo t,.int hi u,.int 1 v]},toks:=tk}:=by
 refine wpAny_pyIter_range (IsRange.new ..) (small_one h1 h2 z B) ?_;have j:Inv X pins σ H {s with heap:=s.heap.push {cls:=.type "range",data:=.fields #[.int lo t,.int hi u,.int 1 v]},toks:=tk}:=I.kept λb o e=>i0 _ e
 refine⟨(s.heap.push {cls:=.type "range",data:=.fields #[.int lo t,.int hi u,.int 1 v]}).objs.size,[(s.heap.push {cls:=.type "range",data:=.fields #[.int lo t,.int hi u,.int 1 v]}).objs.size],_,_,H,rfl,
  j.kept (t':=tk) λb o e=>i0 _ e,tj _ lo (hi-lo).toNat,?_,λb F=>?_,q⟩
 ·have e1:lo+((0:Nat):Int)*1=lo:=by simp
  have e2:(((hi-lo).toNat:Nat):Int)-((0:Nat):Int)=Q0 lo hi 1:=by rw[rangeSize_one];split<;>lia
  show IsRangeIter _ _ (lo+((0:Nat):Int)*1) ((((hi-lo).toNat:Nat):Int)-((0:Nat):Int)) 1;rw[e1,e2];exact KY _ rfl
 ·have e:b=(s.heap.push {cls:=.type "range",data:=.fields #[.int lo t,.int hi u,.int 1 v]}).objs.size:=by simpa using F
  subst e;exact j.fpOk (Le _) (j.hok.fresh (Le _))
noncomputable def EH(ta:TA):TI:=λσ H R=>ta σ H λvs H1=>∃j:Int,vs=[.int j] /\ -(2^62)<=j/\j<2^62/\R (Itr 0 j.toNat) H1
noncomputable def EI(ta:TA):TI:=λσ H R=>ta σ H λvs H1=>∃i j:Int,vs=[.int i,.int j]/\(-(2^62)<=i/\i<2^62 /\ -(2^62)<=j/\j<2^62)/\R (Itr i (j-i).toNat) H1
theorem v7{a:Expr}{p:Pos}(B:Gl X "range")(hm:X.mg "range"=Y)(F:PA X [a] ta)(hs:Ll [a] X.env=[(Md,eval a X.env)]:=by rfl):PI X tg (.Call (.Name "range" p) [a] [] pos) (EH ta):=by
 intro pins s σ H R I h;refine Call_ (cm I B hm Vo (MA (thn (F pos pins s σ H _ I h) λus s1 g9=>?_) hs rfl));obtain⟨vs,H1,G,J,z⟩:=g9;obtain⟨j,e,z,L,q⟩:=z;subst e
 cases J with
 |cons r rr=>
  cases rr
  obtain⟨t,rfl⟩:=r;exact call_range_1 (oG G ∅ ∅ z L (by simpa using q))
theorem v8{a b:Expr}{p:Pos}(F:Gl X "range")(hm:X.mg "range"=Y)(G:PA X [a,b] ta)(hs:Ll [a,b] X.env=[(Md,eval a X.env),(Md,eval b X.env)]:=by rfl)(z:Ll [b] X.env=[(Md,eval b X.env)]:=by rfl):
 PI X tg (.Call (.Name "range" p) [a,b] [] pos) (EI ta):=by
 intro pins s σ H R I h;refine Call_ (cm I F hm Vo (MA (thn (G pos pins s σ H _ I h) λus s1 g9=>?_) (by rw[hs,z]) (by rw[z];rfl)));obtain⟨vs,H1,J,L,B⟩:=g9
 obtain⟨i,j,e,⟨B,O,U,Fn⟩,q⟩:=B;subst e
 cases L with
 |cons r rr=>
  cases rr with
  |cons r' rr=>
   cases rr
   obtain⟨t,rfl⟩:=r;obtain⟨t',rfl⟩:=r';exact call_range_2 (oG J B O U Fn q)
noncomputable def CM(wi:TI)(g:TG)(tb:TS):TS:=λD σ H=>wi σ H λJ H1=>∃W:Nat->Nat->St->Hp->Prop,(∃m,W 0 m σ H1)/\∀i m σ H,W i m σ H->
 (J.stop i H/\D.nx σ H)∨(J.go i H/\∃N:St->Hp->Prop,(∀σ' H',N σ' H'->∃m',m'<m/\W (i+1) m' σ' H')/\∀x H',J.yld i H x H'->g x σ H' λσ2 H2=>tb {D with nx:=N,ct:=N,bk:=D.nx} σ2 H2)
noncomputable def jm(fp:List N2)(h:Heap):List (N2×Obj):=fp.filterMap λb=>(h.get? b).map λo=>(b,o)
theorem dA{o:Obj}(j:b∈fp)(e:h.get? b=Z o):(b,o)∈jm fp h:=TR.mpr ⟨b,j,by rw[e];rfl⟩
theorem v9{p:N2×Obj}(j:p∈jm fp h):p.1∈fp/\h.get? p.1=Z p.2:=by
 obtain⟨b,z,e⟩:=TR.mp j
 cases q:h.get? b with
 |none=>rw[q]at e;cases e
 |some o=>rw[q]at e;have e':(b,o)=p:=MW.inj e;subst e';exact⟨z,q⟩
theorem Inv.pinned(I:Inv X pins σ H s)(hf:∀b∈fp,cH X pins H b)(ho:∀b∈fp,∃o,s.heap.get? b=Z o/\∀v,o.data≠.cell v):Inv X (pins++jm fp s.heap) σ H s:=
 I.pins_of λp B=>(Ld.mp B).elim (λz=>I.pin p (Lo _ z)) λz=>by obtain⟨j,e⟩:=v9 z;obtain⟨f0,f1,f2,_⟩:=hf p.1 j;obtain⟨o,e',d⟩:=ho p.1 j;rw[e]at e';cases e';exact⟨e,f0,f1,f2,d⟩
theorem Inv.unpinned{pl:List (N2×Obj)}(I:Inv X (pins++pl) σ H s):Inv X pins σ H s:=I.pins_of λp j=>I.pin p (Lo _ (LD _ j))
theorem CN{iter:Expr}{wi:TI}{g:TG}{tb:TS}(O:PassesOwn (model X.prog X.w) X.A X.env X.xe)(hc:X.calm=F2)(hi:PI X tg iter wi)(hg:PG X tg g)(j:PSs X body tb)(hs:∀x,NP iter X.env x=pure x:=by intro _;rfl):PS X (.For tg iter body [] pos) (CM wi g tb):=by
 intro pins s σ H D I h;refine wpAny_For (thn (hi pins s σ H _ I h) λv s1 h1=>thn h1 λitv s2 h2=>?_) hs;obtain⟨it,fp,tn,J,H2,e,I2,T,IG,f2,W,⟨m0,w0⟩,turn⟩:=h2;subst e;have stat:∀{H':Hp},(∀b∈fp,H' b=Y)->∀b∈fp,cH X pins H' b:=λhn b j=>⟨hn b j,(f2 b j).2⟩;refine codeAny_forLoop_any (λn s'=>∃i σ' H',Inv X pins σ' H' s'/\tn i s'.heap/\(∀b∈fp,H' b=Y)/\W i n σ' H') ?_ m0 ⟨0,σ,H2,I2,IG,λb j=>(f2 b j).1,w0⟩;rintro n s3 ⟨i,σ3,H3,I3,U,Fn,w3⟩
 rcases turn i n σ3 H3 w3 with⟨stop,qn⟩|⟨go,N,hN,step⟩
 ·refine Oh O (thn (T.done X rfl rfl rfl hc i pins s3 σ3 H3 X.xe I3 (stat Fn) U stop) λr s4 G=>?_);obtain⟨hr,I4⟩:=G;subst hr;exact SA ⟨σ3,H3,I4,qn⟩
 ·refine Oh O (thn (T.item X rfl rfl rfl hc i pins s3 σ3 H3 X.xe I3 (stat Fn) U go) fun r s4 G=>?_);obtain⟨u,hr,h4⟩:=G;subst hr;refine Oh O (thn h4 fun _ s5 G=>?_);obtain⟨x,H5,I5,r5,y5,L,IH⟩:=G;have II:=I5.pinned (stat IH) (T.obj _ _ L);refine Oh O (thn (hg _ s5 σ3 H5 x u _ II r5 (step x H5 y5)) fun _ s6 G=>?_);obtain⟨σ6,H6,I6,q6⟩:=G;refine Oh O (thn (j _ s6 σ6 H6 _ I6 q6) fun f s7 F=>?_);have again:∀{σ7:St} {z:Hp},Inv X (pins++jm fp s5.heap) σ7 z s7->N σ7 z->∃m,m<n/\∃i σ' H',Inv X pins σ' H' s7/\tn i s7.heap/\(∀b∈fp,H' b=Y)/\W i m σ' H':=fun {σ7 z} B fv=>by
   obtain⟨m',hm,w7⟩:=hN σ7 z fv;refine⟨m',hm,i+1,σ7,z,B.unpinned,T.keep _ _ _ L λb j o e=>(B.pin (b,o) (Lo _ (Lo _ (dA j e)))).1,λb j=>?_,w7⟩;obtain⟨o,e,d⟩:=T.obj _ _ L b j;exact(B.pin (b,o) (Lo _ (Lo _ (dA j e)))).2.1
  cases f with
  |next=>obtain⟨σ7,z,B,fv⟩:=F;exact again B fv
  |cont=>obtain⟨σ7,z,B,fv⟩:=F;exact again B fv
  |brk=>obtain⟨σ7,z,B,F⟩:=F;exact⟨σ7,z,B.unpinned,F⟩
  |ret v=>obtain⟨x7,σ7,z,B,r7,F⟩:=F;exact⟨x7,σ7,z,B.unpinned,r7,F⟩
end
end
variable{f:gV->gV->Sem gV}
section
noncomputable abbrev R2:=V->V->Hp->VK->Prop
def OpR(X:Cx)(f:gV->gV->Sem gV)(r:R2):Prop:=
 ∀(pins:List (N2×Obj)) (s:q7) (σ:St) (H:Hp) (x y:V) (v u:gV) (Q:VK),Inv X pins σ H s->RelV x v->RelV y u->r x y H Q->
  La (model X.prog X.w) X.A (f v u) (EP X pins σ Q) X.xe s
def UnR(X:Cx)(f:gV->Sem gV)(r:V->Hp->VK->Prop):Prop:=
 ∀(pins:List (N2×Obj)) (s:q7) (σ:St) (H:Hp) (x:V) (v:gV) (Q:VK),Inv X pins σ H s->RelV x v->r x H Q->
  La (model X.prog X.w) X.A (f v) (EP X pins σ Q) X.xe s
def CallR(X:Cx)(f:gV)(r:List V->Hp->VK->Prop):Prop:=
 ∀(pins:List (N2×Obj)) (s:q7) (σ:St) (H:Hp) (xs:List V) (us:List gV) (Q:VK),Inv X pins σ H s->Vals xs us->r xs H Q->
  La (model X.prog X.w) X.A (call f us) (EP X pins σ Q) X.xe s
def G6(X:Cx)(r:V->Hp->(Bool->Hp->Prop)->Prop):Prop:=
 ∀(pins:List (N2×Obj)) (s:q7) (σ:St) (H:Hp) (x:V) (v:gV) (Q:Bool->Hp->Prop),Inv X pins σ H s->RelV x v->r x H Q->
  La (model X.prog X.w) X.A (truthy v) (TP X pins σ Q) X.xe s
noncomputable def tOp(r:R2)(ta tb:TE):TE:=λσ H Q=>ta σ H λx H1=>tb σ H1 λy H2=>r x y H2 Q
noncomputable def tUn(r:V->Hp->VK->Prop)(ta:TE):TE:=λσ H Q=>ta σ H λx H1=>r x H1 Q
noncomputable def rI(C:Int->Int->Prop)(g:Int->Int->V):R2:=λx y H Q=>∃i j,x=.int i/\y=.int j/\C i j/\Q (g i j) H
noncomputable def rI0(g:Int->Int->V):R2:=λx y H Q=>∃i j,x=.int i/\y=.int j/\Q (g i j) H
noncomputable def rU(g:Int->V):V->Hp->VK->Prop:=λx H Q=>∃i,x=.int i/\Q (g i) H
section
variable{X:Cx}{a b c:Expr}{ta tb tc:TE}{pos:Pos}
theorem xP(z:PE X a ta)(B:PE X b tb){R:V->V->Hp->Prop}(I:Inv X pins σ H s)(h:ta σ H λx H1=>tb σ H1 λy H2=>R x y H2){Q:gV->q7->Prop}(hf:∀v u s2 x y H2,Inv X pins σ H2 s2->RelV x v->RelV y u->R x y H2->La (model X.prog X.w) X.A (f v u) Q X.xe s2):
 La (model X.prog X.w) X.A (eval a X.env) (λv s₁=>La (model X.prog X.w) X.A (eval b X.env) (λu s₂=>La (model X.prog X.w) X.A (f v u) Q X.xe s₂) X.xe s₁) X.xe s:=by
 refine thn (z pins s σ H _ I h) λv s1 j=>?_;obtain⟨x,H1,F,G,J⟩:=j;refine thn (B pins s1 σ H1 _ F J) λu s2 j=>?_;obtain⟨y,H2,L,O,U⟩:=j;exact hf v u s2 x y H2 L G O U
theorem EJ{r:R2}(ho:OpR X (Nc op) r)(j:PE X a ta)(z:PE X b tb):PE X (.BinOp a op b pos) (tOp r ta tb):=by intro pins s σ H Q I h;exact wpAny_BinOp (xP j z I h λv u s2 x y H2 B rx ry q=>ho pins s2 σ H2 x y v u Q B rx ry q)
theorem EK{op:UnaryOp}{r:V->Hp->VK->Prop}(ho:UnR X (unaryOp op) r)(j:PE X a ta):PE X (.UnaryOp op a pos) (tUn r ta):=by intro pins s σ H Q I h;exact UnaryOp_ (thn (j pins s σ H _ I h) λv s1 z=>(by obtain⟨x,H1,B,F,G⟩:=z;exact ho pins s1 σ H1 x v Q B F G))
theorem opI{C:Int->Int->Prop}{g:Int->Int->Int}(rule:∀(i j:Int) (t u:Tok) (s:q7) (Q:gV->q7->Prop) (E:gV->q7->Prop),C i j->Q (.int (g i j) s.toks) {s with toks:=s.toks+1}->La (model X.prog X.w) X.A (f (.int i t) (.int j u)) Q E s):
 OpR X f (rI C λi j=>.int (g i j)):=by
 intro pins s σ H x y v u Q I rx ry h;obtain⟨i,j,rfl,rfl,z,q⟩:=h;obtain⟨t,rfl⟩:=rx;obtain⟨t',rfl⟩:=ry;exact rule i j t t' s _ _ z ⟨.int (g i j),H,I.tok _,⟨_,rfl⟩,q⟩
theorem tq{g:Int->Int->Int}(rule:∀(i j:Int) (t u:Tok) (s:q7) (Q:gV->q7->Prop) (E:gV->q7->Prop),Q (.int (g i j) s.toks) {s with toks:=s.toks+1}->La (model X.prog X.w) X.A (f (.int i t) (.int j u)) Q E s):
 OpR X f (rI0 λi j=>.int (g i j)):=by
 intro pins s σ H x y v u Q I rx ry h;obtain⟨i,j,rfl,rfl,q⟩:=h;obtain⟨t,rfl⟩:=rx;obtain⟨t',rfl⟩:=ry;exact rule i j t t' s _ _ ⟨.int (g i j),H,I.tok _,⟨_,rfl⟩,q⟩
theorem xQ{g:Int->Int->Bool}(rule:∀(i j:Int) (t u:Tok) (s:q7) (Q:gV->q7->Prop) (E:gV->q7->Prop),Q (.bool (g i j)) s->La (model X.prog X.w) X.A (f (.int i t) (.int j u)) Q E s):
 OpR X f (rI0 λi j=>.bl (g i j)):=by
 intro pins s σ H x y v u Q I rx ry h;obtain⟨i,j,rfl,rfl,q⟩:=h;obtain⟨t,rfl⟩:=rx;obtain⟨t',rfl⟩:=ry;exact rule i j t t' s _ _ ⟨.bl (g i j),H,I,rfl,q⟩
def G7(i j:Int):Prop:=0<=j/\j<=1000000/\i.natAbs<2^64
theorem op_add:OpR X (Nc .Add) (rI0 λi j=>.int (i+j)):=tq λ_ _ _ _ _ _ _ q=>add_int q
theorem CO:OpR X (Nc .Sub) (rI0 λi j=>.int (i-j)):=tq λ_ _ _ _ _ _ _ q=>sub_int q
theorem CP:OpR X (Nc .Mod) (rI (λ_ j=>0<j) λi j=>.int (i%j)):=opI λi j _ _ _ _ _ z q=>by have h1:(0:Int)<j:=z;exact mod_int' ∅ (by rw[Int.fmod_eq_emod_of_nonneg i ∅];exact q)
theorem CQ:OpR X (Nc .Pow) (rI G7 λi j=>.int (i^j.toNat)):=opI λ_ _ _ _ _ _ _ z q=>pow_int_small z.1 z.2.1 z.2.2 q
theorem AD:OpR X (O1 .Add) (rI0 λi j=>.int (i+j)):=tq λ_ _ _ _ _ _ _ q=>iadd_int q
theorem AE:OpR X (O1 .Sub) (rI0 λi j=>.int (i-j)):=tq λ_ _ _ _ _ _ _ q=>isub_int q
theorem unI{f:gV->Sem gV}{g:Int->Int}(rule:∀(i:Int) (t:Tok) (s:q7) (Q:gV->q7->Prop) (E:gV->q7->Prop),Q (.int (g i) s.toks) {s with toks:=s.toks+1}->La (model X.prog X.w) X.A (f (.int i t)) Q E s):
 UnR X f (rU λi=>.int (g i)):=by
 intro pins s σ H x v Q I rx h;obtain⟨i,rfl,q⟩:=h;obtain⟨t,rfl⟩:=rx;exact rule i t s _ _ ⟨.int (g i),H,I.tok _,⟨_,rfl⟩,q⟩
theorem CS:UnR X (unaryOp .USub) (rU λi=>.int (-i)):=unI λ_ _ _ _ _ q=>neg_int q
end
section
variable{X:Cx}{a b c:Expr}{ta tb tc:TE}{pos:Pos}
theorem EL:OpR X (NB .Lt) (rI0 λi j=>.bl (decide (i<j))):=xQ λ_ _ _ _ _ _ _ q=>lt_int q
theorem EM:OpR X (NB .Gt) (rI0 λi j=>.bl (decide (j<i))):=xQ λ_ _ _ _ _ _ _ q=>gt_int q
theorem EN:OpR X (NB .GtE) (rI0 λi j=>.bl (decide (j<=i))):=xQ λ_ _ _ _ _ _ _ q=>ge_int q
theorem OpR.or{r r':R2}(h:OpR X f r)(h':OpR X f r'):OpR X f (λx y H Q=>r x y H Q∨r' x y H Q):=by
 intro pins s σ H x y v u Q I rx ry q
 rcases q with q|q
 ·exact h pins s σ H x y v u Q I rx ry q
 ·exact h' pins s σ H x y v u Q I rx ry q
theorem AF{op:CmpOp}{r:R2}(ho:OpR X (NB op) r)(j:PE X a ta)(z:PE X b tb)(hm:PF op b=Md):PE X (.Compare a [op] [b] pos) (tOp r ta tb):=by intro pins s σ H Q I h;exact wpAny_Compare1 (xP j z I h λv u s2 x y H2 B rx ry q=>ho pins s2 σ H2 x y v u Q B rx ry q) hm
noncomputable def zY(t:TE):TT:=λσ H Q=>t σ H λx H'=>∃k,x=.bl k/\Q k H'
theorem AG{op:CmpOp}{r:R2}(ho:OpR X (NB op) r)(j:PE X a ta)(B:PE X b tb)(hm:PF op b=Md):PT X (.Compare a [op] [b] pos) (zY (tOp r ta tb)):=by
 intro pins s σ H Q I h;refine wpAny_isTrue_Compare1 (thn (j pins s σ H _ I h) λv s1 ⟨x,H1,F,G,J⟩=>thn (B pins s1 σ H1 _ F J) λu s2 ⟨y,H2,L,O,U⟩=>thn (ho pins s2 σ H2 x y v u _ L G O U) λc s3 ⟨z,Fn,fv,r3,k,e,q3⟩=>?_) hm
 subst e
 cases r3
 exact Ol ⟨Fn,fv,q3⟩
def xR(K:Frag)(x:V)(H:Hp)(k:Bool):Prop:=
 match x with
 |.non=>k=Md
 |.bl b=>k=b
 |.int i=>k=(i != 0)
 |.str y=>y.length<=L3/\k=((y.length:Int) != 0)
 |.byt y=>y.size<=L3/\k=((y.size:Int) != 0)
 |.ref p=>(∃xs,SqL K H p xs/\k = !xs.isEmpty)∨(∃xs,SqT K H p xs/\k = !xs.isEmpty)∨∃kvs,H p=Z (.dK kvs)/\k = !kvs.isEmpty
 |_=>False
theorem tt{κ:Type}{kvs:List (κ×V)}{vs:List (κ×gV)}(r:KV kvs vs):(!vs.isEmpty) = !kvs.isEmpty:=by cases r<;>rfl
theorem jn{xs:List V}{its:List gV}(r:Vals xs its):(!its.toArray.isEmpty) = !xs.isEmpty:=by cases r<;>simp
theorem fB:(L3:Nat)<2^63:=by rw[D2];decide
theorem CT:G6 X (λx H Q=>∃k,xR X.K x H k/\Q k H):=by
 intro pins s σ H x v Q I rx h;obtain⟨k,e,q⟩:=h;have F:=fB;have hs:L3=16777216:=D2
 cases x with
 |non=>
  cases rx
  have e':k=Md:=e;subst e';exact truthy_none ⟨H,I,q⟩
 |bl b=>
  cases rx
  have e':k=b:=e;subst e';exact Ol ⟨H,I,q⟩
 |int i=>obtain⟨t,rfl⟩:=rx;have e':k=(i != 0):=e;subst e';exact PySem.P.truthy_int ⟨H,I,q⟩
 |str y=>obtain⟨t,rfl⟩:=rx;obtain⟨z,e'⟩:y.length<=L3/\k=((y.length:Int) != 0):=e;subst e';exact PySem.P.truthy_str ∅ ⟨H,I.tok _,q⟩
 |byt y=>obtain⟨t,rfl⟩:=rx;obtain⟨z,e'⟩:y.size<=L3/\k=((y.size:Int) != 0):=e;subst e';exact PySem.W.truthy_bytes ∅ ⟨H,I.tok _,q⟩
 |ref p=>
  cases rx
  have e':(∃xs,SqL X.K H p xs/\k = !xs.isEmpty)∨(∃xs,SqT X.K H p xs/\k = !xs.isEmpty)∨∃kvs,H p=Z (.dK kvs)/\k = !kvs.isEmpty:=e
  rcases e' with⟨xs,hx,e'⟩|⟨xs,hx,e'⟩|⟨kvs,hx,e'⟩
  ·subst e';obtain⟨its,r,pl,j⟩:=I.list hx;have hlen:=r.length;exact wpAny_truthy_list pl.isList (by simp only[L5];lia) ⟨H,I.tok _,by rw[jn r];exact q⟩
  ·subst e';obtain⟨its,r,pl,j⟩:=I.tuple hx;have hlen:=r.length;exact truthy_tuple pl (by simp only[L5];lia) ⟨H,I.tok _,by rw[jn r];exact q⟩
  ·subst e';obtain⟨j,B,vs,r,m⟩:kvs.length<=L3/\(p==N9)=Md/\∃vs,KV kvs vs/\s.heap.DictOf (aU X.prog X.w) p vs:=I.hok p _ hx;have hlen:kvs.length=vs.length:=Pz r;exact wpAny_truthy_dict B m ∅ ⟨H,I.tok _,by rw[tt r];exact q⟩
 |_=>exact(show False from e).elim
theorem xS(j:PE X a ta)(he:∀whole,isTrue a X.env whole=(do let v <-whole;Rz a.pos;holding [v] (truthy v))):
 PT X a (λσ H Q=>ta σ H λx H'=>∃k,xR X.K x H' k/\Q k H'):=by
 intro pins s σ H Q I h;exact isTrue_plain (thn (j pins s σ H _ I h) λv s1 z=>(by obtain⟨x,H1,B,F,G⟩:=z;exact CT pins s1 σ H1 x v Q B F G)) (he _)
theorem tu:OpR X (Nc .Add) (λx y H Q=>∃i j,x=.str i/\y=.str j/\i.length+j.length<=L3/\Q (.str (i++j)) H):=by intro pins s σ H x y v u Q I rx ry h;obtain⟨i,j,rfl,rfl,z,q⟩:=h;obtain⟨t,rfl⟩:=rx;obtain⟨t',rfl⟩:=ry;exact add_str (λt' tk=>⟨.str (i++j),H,I.tok _,⟨_,rfl⟩,q⟩) z
theorem eG{x:V}(r:Vals [x] us):∃u,us=[u]/\RelV x u:=by
 cases r with
 |cons j z=>cases z;exact⟨_,rfl,j⟩
theorem nG{x y:V}(r:Vals [x,y] us):∃u w',us=[u,w']/\RelV x u/\RelV y w':=by
 cases r with
 |cons j z=>
  cases z with
  |cons B F=>cases F;exact⟨_,_,rfl,j,B⟩
theorem xT:CallR X (.builtin "abs") (λxs H Q=>∃i,xs=[.int i]/\Q (.int (if i<0 then -i else i)) H):=by intro pins s σ H xs us Q I r h;obtain⟨i,rfl,q⟩:=h;obtain⟨u,rfl,t,rfl⟩:=eG r;exact call_abs_int λu tk=>⟨.int (if i<0 then -i else i),H,I.tok _,⟨_,rfl⟩,q⟩
theorem va(B:X.calm=F2):CallR X (.builtin "max") (λxs H Q=>∃i j,xs=[.int i,.int j]/\Q (.int (if j > i then j else i)) H):=by
 intro pins s σ H xs us Q I r h;obtain⟨i,j,rfl,q⟩:=h;obtain⟨u,w',rfl,⟨t,rfl⟩,⟨t',rfl⟩⟩:=nG r;refine max_two_ints (I.ok.hd B) λh' tk k=>⟨_,H,I.kept k,?_,q⟩
 by_cases z:j > i
 ·rw[if_pos z,if_pos z];exact⟨_,rfl⟩
 ·rw[if_neg z,if_neg z];exact⟨_,rfl⟩
theorem vc(B:X.calm=F2):CallR X (.builtin "min") (λxs H Q=>∃i j,xs=[.int i,.int j]/\Q (.int (if j<i then j else i)) H):=by
 intro pins s σ H xs us Q I r h;obtain⟨i,j,rfl,q⟩:=h;obtain⟨u,w',rfl,⟨t,rfl⟩,⟨t',rfl⟩⟩:=nG r;refine min_two_ints (I.ok.hd B) λh' tk k=>⟨_,H,I.kept k,?_,q⟩
 by_cases z:j<i
 ·rw[if_pos z,if_pos z];exact⟨_,rfl⟩
 ·rw[if_neg z,if_neg z];exact⟨_,rfl⟩
theorem vd:CallR X (.type "int") (λxs H Q=>(∃i,xs=[.int i]/\Q (.int i) H)∨∃k,xs=[.bl k]/\Q (.int (if k then 1 else 0)) H):=by
 intro pins s σ H xs us Q I r h
 rcases h with⟨i,rfl,q⟩|⟨k,rfl,q⟩
 ·obtain⟨u,rfl,t,rfl⟩:=eG r;exact call_int_int ⟨.int i,H,I,⟨_,rfl⟩,q⟩
 ·obtain⟨u,rfl,j⟩:=eG r
  cases j
  exact call_int_bool ⟨.int (if k then 1 else 0),H,I.tok _,⟨_,rfl⟩,q⟩
def G8(K:Frag)(x:V)(H:Hp)(n:Nat):Prop:=
 match x with
 |.str y=>y.length<=L3/\n=y.length
 |.byt y=>y.size<=L3/\n=y.size
 |.ref p=>(∃xs,SqL K H p xs/\n=xs.length)∨∃xs,SqT K H p xs/\n=xs.length
 |_=>False
theorem xU:CallR X (.builtin "len") (λxs H Q=>∃x n,xs=[x]/\G8 X.K x H n/\Q (.int n) H):=by
 intro pins s σ H xs us Q I r h;obtain⟨x,n,rfl,e,q⟩:=h;obtain⟨u,rfl,rx⟩:=eG r;have B:=fB;have hs:L3=16777216:=D2
 cases x with
 |str y=>obtain⟨t,rfl⟩:=rx;obtain⟨j,e'⟩:y.length<=L3/\n=y.length:=e;subst e';exact len_str ∅ ⟨.int _,H,I.tok _,⟨_,rfl⟩,q⟩
 |byt y=>obtain⟨t,rfl⟩:=rx;obtain⟨j,e'⟩:y.size<=L3/\n=y.size:=e;subst e';exact PySem.W.len_bytes ∅ ⟨.int _,H,I.tok _,⟨_,rfl⟩,q⟩
 |ref p=>
  cases rx
  have e':(∃xs,SqL X.K H p xs/\n=xs.length)∨∃xs,SqT X.K H p xs/\n=xs.length:=e
  rcases e' with⟨xs,hx,e'⟩|⟨xs,hx,e'⟩
  ·subst e';obtain⟨its,r',pl,z⟩:=I.list hx;have hlen:=r'.length;exact Calls.call_len_list pl.isList (by simp only[L5];lia) ⟨.int xs.length,H,I.tok _,⟨_,by simp only[L5];rw[hlen]⟩,q⟩
  ·subst e';obtain⟨its,r',pl,z⟩:=I.tuple hx;have hlen:=r'.length;exact len_tuple pl (by simp only[L5];lia) ⟨.int xs.length,H,I.tok _,⟨_,by simp only[L5];rw[hlen]⟩,q⟩
 |_=>exact(show False from e).elim
end
end
section
structure ObjM(h:Heap)(x dx C:N2)(mA:Str->Option gV):Prop where
 obj:h.get? x=Z (Sz C dx)
 ns:h.Ns1 dx mA
 ne:dx≠x
theorem ve{dx:N2}{mA:Str->Option gV}(n:h.Ns1 dx mA):∃od,h.get? dx=Z od/\∀name,SV name od=Z (mA name):=by
 obtain⟨o,es,ep,ho,hd,B,_,hm⟩:=n;refine⟨o,ho,λname=>?_⟩;have e:=hm name;unfold nsFind findBy at e;rw[<-Array.find?_toList]at e;unfold SV;rw[hd];dsimp only
 split
 ·rename_i y q;rw[q]at e;exact congrArg Z e
 ·rename_i q;rw[q]at e;have a:es.toList.any (·.refKey)=Md:=by
   rw[List.any_eq_false];intro y F;obtain⟨z,t,j⟩:=B y (Array.mem_toList_iff.mp F);simp[DictEntry.refKey,j]
  have a':¬es.toList.any (·.refKey)=F2:=by rw[a];exact KW
  rw[if_neg a'];exact congrArg Z e
theorem ObjM.look{x dx C:N2}{mA:Str->Option gV}(I:ObjM h x dx C mA):∃od,PySem.W.InstAt h x (Sz C dx) C (Z od)/\∀name,SV name od=Z (mA name):=
 let⟨od,ho,j⟩:=ve I.ns
 ⟨od,⟨I.obj,rfl,rfl,ho⟩,j⟩
theorem W1{o:Option gV}(r:RelO (Z v) o):∃u,o=Z u/\RelV v u:=by
 cases o with
 |none=>exact(show False from r).elim
 |some u=>exact⟨u,rfl,r⟩
section
variable{P:Ln}{w:LL}{H H':Hp}{h h':Heap}{a C dx:N2}{fs fs':List (Str×V)}
theorem AH(hok:HOk P w H h)(e:H a=Z (.ins C dx fs)):∃mA,ObjM h a dx C mA/\(∀f,RelO (fs.lookup f) (mA f))/\PySem.Within mA (fs.map (·.1))/\fs.length<=1000/\H dx=Z (.own a):=by obtain⟨d,z,ne,ob,mA,n,r,q⟩:=(show ObjOk P w H h a (.ins C dx fs)from hok a _ e);exact⟨mA,⟨ob,n,ne⟩,r,q,z,d⟩
end
structure Cls(K:Frag)(C:N2):Prop where
 pg:UA K C Str.empty=F2
 hd:PySem.W.hasDictIn K C=F2
 po:PySem.W.plainOver K C=F2
 sa:PySem.W.findIn K (.ref C) "__setattr__"=Z (Z (.builtin "object.__setattr__"))
theorem Cls.get{C:N2}(c:Cls K C)(f:Str):UA K C f=F2:=c.pg
section
variable{X:Cx}{pins:List (N2×Obj)}{σ:St}{H:Hp}{s:q7}{A:LQ}{E:gV->q7->Prop}{Q:gV->q7->Prop}{c:gV}{b:Bool}
inductive cI(K:Frag)(H:Hp):V->gV->Prop where
 |non:cI K H .non (.type "NoneType")
 |bl (x:Bool):cI K H (.bl x) (.type "bool")
 |int (i:Int):cI K H (.int i) (.type "int")
 |str (x:Str):cI K H (.str x) (.type "str")
 |flt (x:UInt64):cI K H (.flt x) (.type "float")
 |lst {a:N2} {xs:List V} (e:H a=Z (.lst xs)):cI K H (.ref a) (.type "list")
 |frz {a:N2} {o:Obj} {xs:List V} (e:H a=Z (.frz o (.lst xs))):cI K H (.ref a) (.type "list")
 |tup {a:N2} {xs:List V} (e:SqT K H a xs):cI K H (.ref a) (.type "tuple")
 |dK {a:N2} {kvs:List (Key×V)} (e:H a=Z (.dK kvs)):cI K H (.ref a) (.type "dict")
 |dT {a:N2} {kvs:List (List Key×V)} (e:H a=Z (.dT kvs)):cI K H (.ref a) (.type "dict")
 | ins {a C dx:N2} {fs:List (Str×V)} (e:H a=Z (.ins C dx fs)) (cl:Cls K C) (ha:PySem.W.findIn K (.ref C) "__class__"=Z (Z (.builtin "object.__class__")))
    (hn:PySem.W.specialIn K (.builtin "object.__class__") "__get__"=Z (Z (.builtin "getset_descriptor.__get__"))) (htk:PySem.W.takesIn K (.builtin "object.__class__")=Z F2)
    (hm:PySem.W.mroIn K C (.type "object")=Z F2):cI K H (.ref a) (.ref C)
theorem vf{x:V}{t:gV}(I:Inv X pins σ H s)(rx:RelV x u)(ty:cI X.K H x t)(e:PySem.W.kitOne X.K t c=Z b)(h:∀tk,Q (.bool b) {s with toks:=tk}):
 La (model X.prog X.w) A (call (.builtin "isinstance") [u,c]) Q E s:=by
 cases ty with
 |non=>cases(show u=Ni from rx);exact N5 PySem.W.kitx_none I.kIn Pj e (λz=>nomatch z) h
 |bl y=>cases(show u=TQ y from rx);exact N5 PySem.W.kitx_bool I.kIn Pj e (λz=>nomatch z) h
 |int i=>obtain⟨t,q⟩:=(show ∃t,u=Uy i t from rx);cases q;exact N5 PySem.W.kitx_int I.kIn Pj e (λz=>nomatch z) h
 |str y=>obtain⟨t,q⟩:=(show ∃t,u=Uz y t from rx);cases q;exact N5 PySem.W.kitx_str I.kIn Pj e (λz=>nomatch z) h
 |flt y=>obtain⟨t,q⟩:=(show ∃t,u=Value.float y t from rx);cases q;exact N5 PySem.W.kitx_float I.kIn Pj e (λz=>nomatch z) h
 |@lst a xs ea=>
  cases(show u=LB a from rx)
  obtain⟨_,_,n,_,h1⟩:=(show ObjOk X.prog X.w H s.heap a (.lst xs)from I.hok a _ ea);exact N5 U9 I.kIn ⟨_,h1,rfl⟩ e (λz=>nomatch z) h
 |@frz a ob xs ea=>
  cases(show u=LB a from rx)
  obtain⟨_,_,_,n,_,h1⟩:=(show ObjOk X.prog X.w H s.heap a (.frz ob (.lst xs))from I.hok a _ ea);exact N5 U9 I.kIn ⟨_,h1,rfl⟩ e (λz=>nomatch z) h
 |@tup a xs ea=>
  cases(show u=LB a from rx)
  obtain⟨_,_,p,_⟩:=I.tuple ea;obtain⟨o,h1,h2,_⟩:=p;exact N5 PySem.W.kitx_tuple I.kIn ⟨o,h1,h2⟩ e (λz=>nomatch z) h
 |@dK a kvs ea=>
  cases(show u=LB a from rx)
  obtain⟨_,_,vs,_,p⟩:=(show ObjOk X.prog X.w H s.heap a (.dK kvs)from I.hok a _ ea);obtain⟨o,es,ep,h1,h2,_⟩:=p;exact N5 Ua I.kIn ⟨o,h1,h2.1⟩ e (λz=>nomatch z) h
 |@dT a kvs ea=>
  cases(show u=LB a from rx)
  obtain⟨_,_,xs,_,o,es,ep,h1,h2,_⟩:=(show ObjOk X.prog X.w H s.heap a (.dT kvs)from I.hok a _ ea);exact N5 Ua I.kIn ⟨o,h1,h2.1⟩ e (λz=>nomatch z) h
 |@ins a C dx fs ea cl ha hn htk hm=>
  cases(show u=LB a from rx)
  obtain⟨mA,O,_⟩:=AH I.hok ea;obtain⟨od,J,_⟩:=O.look;exact N5 (PySem.W.kitx_own (cl.get _) cl.hd ha hn htk hm) I.kIn J e (λz=>nomatch z) h
end
end
variable{mg:Str->Option gV}{base:Heap}{ps:List Str}
section
structure Room(k:Nat)(A:LQ):Prop where
 hd:A.handled=Y
 dp:A.depth+3*k+5<recursionLimit
 un:A.units+16*k+200<Om
theorem Room.deeper{k:Nat}(r:Room (k+1) A)(env:Env):Room k (A.deeper env):=⟨r.hd,by have:=r.dp;show A.depth+1+3*k+5<_;lia,by have:=r.un;show A.units+3+16*k+200<_;lia⟩
theorem Room.depth{k:Nat}(r:Room k A):A.depth<recursionLimit:=by have:=r.dp;lia
theorem Room.units{k:Nat}(r:Room k A):A.units+64<Om:=by have:=r.un;lia
noncomputable def xV:TA:=λ_ H Q=>Q [] H
noncomputable def tw(ta:TE)(tr:TA):TA:=λσ H Q=>ta σ H λx H1=>tr σ H1 λxs H2=>Q (x::xs) H2
section
variable{X:Cx}{e:Expr}{es:List Expr}{te:TE}{t:TA}{pos:Pos}
theorem jo:PA X [] xV:=λ_ _ _ _ H Q I h=>Qb ⟨[],H,I,.nil,h⟩
theorem dL(z:PE X e te)(B:PA X es t)(hs:Ll (e::es) X.env=(Md,eval e X.env)::Ll es X.env:=by rfl):PA X (e::es) (tw te t):=by intro pos pins s σ H Q I h;rw[hs];show La _ _ (spliced ((Md,eval e X.env)::OL pos (Ll es X.env))) _ _ s;refine OM (thn (z pins s σ H _ I h) λu s1 j=>?_);obtain⟨x,H1,F,G,J⟩:=j;exact thn (B pos pins s1 σ H1 _ F J) λus s2 j=>(by obtain⟨xs,H2,L,O,U⟩:=j;exact⟨x::xs,H2,L,.cons G O,U⟩)
noncomputable def G9(t:TA):TE:=λσ H Q=>t σ H λxs H1=>xs.length<=L3/\∀p,H1 p=Y->Q (.ref p) (upd H1 p (.tup xs))
noncomputable def Ga(t:TA):TE:=λσ H Q=>t σ H λxs H1=>xs.length<=L3/\∀p,H1 p=Y->Q (.ref p) (upd H1 p (.lst xs))
theorem CU{B}(h:PA X es t):PE X (.Tuple es B pos) (G9 t):=by
 intro pins s σ H Q I hq;refine wpAny_Tuple_spliced (thn (h pos pins s σ H _ I hq) λus s1 ⟨xs,H1,j,r,z,q⟩=>⟨by rw[<-r.length];exact z,?_⟩)
 have hf:H1 s1.heap.objs.size=Y:=j.hok.fresh (Le _);refine⟨.ref s1.heap.objs.size,upd H1 s1.heap.objs.size (.tup xs),j.laid (t':=s1.toks) (λb u e=>i0 _ e) (Le _) ?_,rfl,q _ hf⟩;exact⟨z,us,r,⟨_,KY _ rfl,rfl,_,rfl⟩⟩
theorem CV(h:PA X es t):PE X (.List es pos) (Ga t):=by
 intro pins s σ H Q I hq;refine wpAny_List_spliced (thn (h pos pins s σ H _ I hq) λus s1 ⟨xs,H1,j,r,z,q⟩=>⟨by rw[<-r.length];exact z,?_⟩)
 have hf:H1 s1.heap.objs.size=Y:=j.hok.fresh (Le _);refine⟨.ref s1.heap.objs.size,upd H1 s1.heap.objs.size (.lst xs),j.laid (t':=s1.toks) (λb u e=>i0 _ e) (Le _) ?_,rfl,q _ hf⟩;exact⟨z,us,0,r,KY _ rfl⟩
end
noncomputable abbrev Sp:=List V->Hp->VK->XK->Prop
noncomputable abbrev CXT:=List Env->Hp->q7->XK->gV->q7->Prop
structure gD(P:Ln)(w:LL)(K:Frag)(mg:Str->Option gV)(base:Heap)(A:LQ)(outer:List Env)(s:q7)(H:Hp):Prop where
 frames:A.frames=Z outer
 mod:Mod K mg base
 bs:∀b o,base.get? b=Z o->s.heap.get? b=Z o/\H b=Y
 bsz:base.objs.size<=s.heap.objs.size
 funs:s.heap.FunFrames base outer
 frf:∀b∈frs outer,H b=Y
 hok:HOk P w H s.heap
 bare:Ry s.gens
def CE(outer:List Env)(P:Ln)(w:LL)(H:Hp)(s:q7)(Q:VK)(u:gV)(s':q7):Prop:=∃v H',s'.os=s.os/\Ry s'.gens/\Un (frs outer) [] H H' s.heap s'.heap/\HOk P w H' s'.heap/\RelV v u/\Q v H'
def CR(CX:CXT)(outer:List Env)(P:Ln)(w:LL)(H:Hp)(s:q7)(Q:VK)(E:XK)(r:Vp)(s':q7):Prop:=
 match r with
 |.ok (.ret u)=>CE outer P w H s Q u s'
 |.ok _=>False
 |.error e=>CX outer H s E e s'
structure FnOk(P:Ln)(w:LL)(K:Frag)(mg:Str->Option gV)(base:Heap)(CX:CXT)(k:Nat)(f:N2)(fd:Nk)(ps:List Str)(sp:Sp):Prop where
 len:∀vs H Q E,sp vs H Q E->vs.length=ps.length
 run:∀(A:LQ) (outer:List Env) (s:q7) (H:Hp) (args:Args) (us:List gV) (vs:List V) (Q:VK) (E:XK),Room k A->gD P w K mg base A outer s H->Ti s fd args (ps.zip us)->Vals vs us->sp vs H Q E->
  ON (model P w) A (.call (.ref f) args) (CR CX outer P w H s Q E) s
theorem FnOk.imp{CX:CXT}{k:Nat}{f:N2}{fd:Nk}{sp sp':Sp}(F:FnOk P w K mg base CX k f fd ps sp)(h:∀vs H Q E,sp' vs H Q E->sp vs H Q E):FnOk P w K mg base CX k f fd ps sp':=⟨λvs H Q E q=>F.len vs H Q E (h _ _ _ _ q),λA outer s H args us vs Q E j he z B hs=>F.run A outer s H args us vs Q E j he z B (h _ _ _ _ hs)⟩
section
variable{X:Cx}{pins:List (N2×Obj)}{σ:St}{H:Hp}{s s':q7}
theorem Inv.env0(I:Inv X pins σ H s):gD X.prog X.w X.K X.mg X.base X.A X.stack s H:=⟨I.ok.frames,I.ok.mod,I.bs,Mu I.ok.bsz I.sz,I.stack,I.stkFree,I.hok,I.bare⟩
theorem Inv.after{Q:VK}(I:Inv X pins σ H s)(h:CE X.stack X.prog X.w H s Q u s'):EP X pins σ Q u s':=by obtain⟨v,H',os,bare,un,hok,r,q⟩:=h;obtain⟨j,g,d,t,os'⟩:=s';obtain rfl:os'=s.os:=os;exact⟨v,H',I.call (h':=j) (g':=g) (d':=d) (t':=t) (ch:=[]) un hok bare (λb z=>absurd z (by simp)),r,q⟩
end
noncomputable def zZ(sp:Sp)(dvs:List V)(E:XK)(t:TA):TE:=λσ H Q=>t σ H λvs H1=>sp (vs++dvs) H1 Q E
def Binds(K:Frag)(fd:Nk)(ps:List Str)(ds:List gV):Prop:=∀(s:q7) (us:List gV),K.In s.heap->(us++ds).length=ps.length->Ti s fd ⟨us,[]⟩ (ps.zip (us++ds))
theorem Binds.all{fd:Nk}(h:∀us:List gV,us.length=ps.length->SW fd ⟨us,[]⟩=pure (ps.zip us)):Binds K fd ps []:=λs us _ j=>by rw[MJ]at j⊢;exact .of_eq (h us j)
def jq(CX:CXT)(X:Cx)(E:XK):Prop:=∀(pins:List (N2×Obj)) (σ:St) (H:Hp) (s:q7) (e:gV) (s':q7),Inv X pins σ H s->CX X.stack H s E e s'->X.xe e s'
section
variable{X:Cx}{CX:CXT}{k:Nat}{f C:N2}{fd:Nk}{ps:List Str}{sp:Sp}{dvs:List V}{ds:List gV}{E:XK}{x m:Str}{p pos apos:Pos}{e o:Expr}{es:List Expr}{ta:TE}{t:TA}
theorem vg{Q:VK}{vs:List V}(F:FnOk X.prog X.w X.K X.mg X.base CX k f fd ps sp)(B:Room k X.A)(G:Binds X.K fd ps ds)(hd:Vals dvs ds)(hx:jq CX X E)(I:Inv X pins σ H s)(r:Vals vs us)(h:sp (vs++dvs) H Q E):La (model X.prog X.w) X.A (call (.ref f) us) (EP X pins σ Q) X.xe s:=by
 have z:Vals (vs++dvs) (us++ds):=r.append hd;have J:(us++ds).length=ps.length:=by rw[<-z.length];exact F.len _ _ _ _ h
 refine TU (Oo (F.run X.A X.stack s H ⟨us,[]⟩ (us++ds) (vs++dvs) Q E B I.env0 (G s us I.kIn J) z h) λr s' j=>?_)
 cases r with
 |error e=>exact hx pins σ H s e s' I j
 |ok fl=>
  cases fl with
  |ret u=>exact I.after j
  |next=>exact False.elim j
  |brk=>exact False.elim j
  |cont=>exact False.elim j
theorem rB(F:FnOk X.prog X.w X.K X.mg X.base CX k f fd ps sp)(G:Room k X.A)(J:Gl X x)(hm:X.mg x=Z (.ref f))(L:Oa X.K (.ref f)=F2)(O:Binds X.K fd ps ds)(hd:Vals dvs ds)(hx:jq CX X E)(U:PA X (e::es) t)(j:(x==("__debug__":Str))=Md:=by decide)(he:Ll (e::es) X.env=(Md,eval e X.env)::Ll es X.env:=by rfl)(z:(OL pos (Ll es X.env)).any (·.1)=Md:=by rfl):
 PE X (.Call (.Name x p) (e::es) [] pos) (zZ sp dvs E t):=by
 intro pins s σ H Q I h;refine N1 (kF I J hm ?_ j);refine TV (h₀:=X.base) I.ok.mod.kin L (thn (U pos pins s σ H _ I h) λus s1 ⟨vs,H1,B,r,q⟩=>⟨B.kIn,?_⟩) he z;exact vg F G O hd hx B r q
theorem xW(F:FnOk X.prog X.w X.K X.mg X.base CX k f fd ps sp)(z:Room k X.A)(B:Gl X x)(hm:X.mg x=Z (.ref f))(G:Oa X.K (.ref f)=F2)(J:Binds X.K fd ps ds)(hd:Vals dvs ds)(hx:jq CX X E)(j:(x==("__debug__":Str))=Md:=by decide):PE X (.Call (.Name x p) [] [] pos) (zZ sp dvs E xV):=by intro pins s σ H Q I h;refine N1 (kF I B hm ?_ j);exact PySem.W.callWith_K0 I.kIn G (vg (us:=[]) F z J hd hx I .nil h)
end
structure cE(N P:List Str)(sc:Scope):Prop where
 kind:sc.kind=.function
 co:sc.isCoroutine=Md
 gen:sc.isGenerator=Md
 nd:N.Nodup
 pre:N.take P.length=P
 par:∀x∈P,sc.names.lookup x=Z .local∨sc.names.lookup x=Z .cell
 nofree:∀y∈sc.names,y.2≠.free
theorem lL{Na:Str->Option Ob}{x:Str}:∀{binds:List (Str×gV)} {m:Str->Option gV},(∀v,(x,v)∉binds)->Vq Na binds m x=m x
 |[],_,_=>rfl
 |(n,v)::r,m,h=>by
  unfold Vq;rw[lL λw hw=>h w (Lq _ hw)]
  split
  ·have:x≠n:=by rintro rfl;exact h v LH
   simp[this]
  ·rfl
theorem lM{Na:Str->Option Ob}{x:Str}:∀{binds:List (Str×gV)} {m:Str->Option gV},(∀v,(x,v)∉binds)->Vr Na binds m x=m x
 |[],_,_=>rfl
 |(n,v)::r,m,h=>by
  unfold Vr;rw[lM λw hw=>h w (Lq _ hw)]
  split
  ·rfl
  ·have:x≠n:=by rintro rfl;exact h v LH
   simp[this]
theorem lN{Na:Str->Option Ob}{x:Str}{v:gV}:∀{P:List Str} {vs:List gV} {i:Nat} {m:Str->Option gV},P.Nodup->P[i]?=Z x->vs[i]?=Z v->Na x=Z .local->
 Vq Na (P.zip vs) m x=Z v
 |[],_,_,_,_,h,_,_=>by simp at h
 |_::_,[],_,_,_,_,h,_=>by simp at h
 |p::P,w::vs,0,m,nd,h1,h2,j=>by simp at h1 h2;subst h1;subst h2;show Vq Na ((p,w)::P.zip vs) m p=_;unfold Vq;rw[lL λv z=>(MV.mp nd).1 (OX z).1,if_pos j];simp
 |p::P,w::vs,i+1,m,nd,h1,h2,j=>by show Vq Na ((p,w)::P.zip vs) m x=_;unfold Vq;exact lN (i:=i) (MV.mp nd).2 (by simpa using h1) (by simpa using h2) j
theorem lP{Na:Str->Option Ob}{x:Str}{v:gV}:∀{P:List Str} {vs:List gV} {i:Nat} {m:Str->Option gV},P.Nodup->P[i]?=Z x->vs[i]?=Z v->Na x≠Z .local->
 Vr Na (P.zip vs) m x=Z v
 |[],_,_,_,_,h,_,_=>by simp at h
 |_::_,[],_,_,_,_,h,_=>by simp at h
 |p::P,w::vs,0,m,nd,h1,h2,j=>by simp at h1 h2;subst h1;subst h2;show Vr Na ((p,w)::P.zip vs) m p=_;unfold Vr;rw[lM λv z=>(MV.mp nd).1 (OX z).1,if_neg j];simp
 |p::P,w::vs,i+1,m,nd,h1,h2,j=>by show Vr Na ((p,w)::P.zip vs) m x=_;unfold Vr;exact lP (i:=i) (MV.mp nd).2 (by simpa using h1) (by simpa using h2) j
noncomputable def bC(N:List Str)(vs:List V):St:=vs.map Z++D1 (N.length-vs.length) Y
noncomputable def cA(CX:CXT)(P:Ln)(w:LL)(K:Frag)(mg:Str->Option gV)(base:Heap)(N:List Str)(qual:Str)(scope:Scope)(f:N2)(cd:gV)(A:LQ)(outer:List Env)(s:q7)(H:Hp)(E:XK):Cx where
 prog:=P
 w:=w
 K:=K
 mg:=mg
 base:=base
 A:=A.deeper (Qs qual scope s.heap.objs.size f cd)
 N:=N
 s₀:=s
 H₀:=H
 env:=Qs qual scope s.heap.objs.size f cd
 outer:=outer
 stack:=Qs qual scope s.heap.objs.size f cd::outer
 ex:=[]
 calm:=F2
 fn:=λ_=>F2
 pn:=[]
 xe:=λe s'=>La (model P w) (A.deeper (Qs qual scope s.heap.objs.size f cd)) (leaving (Qs qual scope s.heap.objs.size f cd) e) (λ_ s''=>CX outer H s E e s'') (λe' s''=>CX outer H s E e' s'') s'
theorem oH{sc:Scope}{n:Nat}(h:sc.names.lookup x=Z .cell):∃c,(NI n sc.names []).lookup x=Z c:=by have q:=OO sc.names n [] (.inl h);exact Ox.mp q
theorem lQ{CX:CXT}{qual:Str}{scope:Scope}{f:N2}{cd:gV}{outer:List Env}{s1:q7}{E:XK}{vs:List V}(S:cE N ps scope)(hd:A.handled=Y)(e0:gD P w K mg base A outer s H)(O:vs.length=ps.length)(r:Vals vs us)(x:InCallC s s.heap.objs.size (Vq (Qs qual scope s.heap.objs.size f cd).kindOf (ps.zip us) λ_=>Y) (NI (s.heap.objs.size+1) scope.names []) (Vr (Qs qual scope s.heap.objs.size f cd).kindOf (ps.zip us) λ_=>Y) s1):
 Inv (cA CX P w K mg base N qual scope f cd A outer s H E) [] (bC N vs) H s1:=by
 have J:ps.length<=N.length:=by have:=congrArg Nb S.pre;rw[Lu]at this;lia
 obtain⟨h1,tk,rfl,F⟩:=x.done;have noA:∀b:N2,b∉(cA CX P w K mg base N qual scope f cd A outer s H E).ex:=λb z=>absurd (show b∈([]:List N2)from z) (by simp)
 refine⟨⟨e0.mod,S.kind,rfl,rfl,Le _,λy z c h1 h2=>?_,λy j=>?_,λy c _ h=>?_,λ_=>hd,SX e0.frames,.inr ⟨rfl,rfl⟩,λb z=>absurd z (noA b),e0.bs,e0.bsz,λb _ _=>noA b,λb z=>absurd z (noA b),e0.funs,e0.frf⟩,
  rfl,e0.bare,Un.kept F,⟨_,x.toInCall.ns,λi y v h1 h2 U=>?_⟩,λy c h=>⟨_,x.cell y c h⟩,e0.hok.fresh (Le _),λy c h=>?_,λp B=>absurd (show p∈([]:List (N2×Obj))from B) (by simp),e0.hok.kept F,?_⟩
 ·exact name_of_addr x.apart (Me h1) (Me h2)
 ·have j:scope.names.lookup y=Z .cell∨scope.names.lookup y=Z .free:=j
  rcases j with j|j
  ·exact oH j
  ·exact absurd rfl (S.nofree _ (Me j))
 ·exact OK (x.above y c (Me h))
 ·have hi:i<vs.length:=by
   unfold bC at h2
   by_cases hi:i<vs.length
   ·exact hi
   ·rw[D0 (by simpa using hi)]at h2
    rw[RX]at h2
    split at h2<;>cases h2
  have L:vs[i]?=Z v:=by
   unfold bC at h2;rw[Lb (by simpa using hi),L8]at h2
   cases e:vs[i]? with
   |none=>rw[e]at h2;cases h2
   |some a=>rw[e]at h2;cases h2;rfl
  obtain⟨u,G,rv⟩:=r.get L;have B:ps[i]?=Z y:=by rw[<-S.pre,NJ ∅];exact h1
  have ndP:ps.Nodup:=by rw[<-S.pre];exact S.nd.sublist (List.take_sublist _ _)
  refine⟨u,rv,?_⟩
  rcases S.par y (Lj B)with k|k
  ·exact .inl ⟨k,lN ndP B G k⟩
  ·obtain⟨c,e⟩:=oH (n:=s.heap.objs.size+1) k;refine .inr ⟨.inl k,c,e,?_⟩;have q:=x.cell y c e;rw[lP ndP B G (by show scope.names.lookup y≠_;rw[k];decide)]at q
   exact q
 ·exact e0.hok.fresh (OK (x.above y c (Me h)))
 ·unfold bC;show _=N.length;rw[I7,r0,Qq];lia
theorem A0 {CX:CXT}{k:Nat}{f:N2}{name qual:Str}{params:P9}{scope:Scope}{dV kV doc pm cdv ct oc:gV}{an od:Option N2}{osl:Array (Option gV)}{sp:Sp}(lk:K.lookup f=Z ⟨oc,od,.func (NL name qual params body scope dV kV doc pm an cdv ct),osl⟩)(F:Pk K cdv qual=F2)(S:cE N ps scope)(len:∀vs H Q E,sp vs H Q E->vs.length=ps.length)(j:∀(A:LQ) (outer:List Env) (s:q7) (H:Hp) (vs:List V) (Q:VK) (E:XK),Room k (A.deeper (Qs qual scope s.heap.objs.size f cdv))->sp vs H Q E->
   ∃t,PSs (cA CX P w K mg base N qual scope f cdv A outer s H E) body t/\t {nx:=λ_ H'=>Q .non H',rt:=Q} (bC N vs) H):
 FnOk P w K mg base CX (k+1) f (NL name qual params body scope dV kV doc pm an cdv ct) ps sp:=by
 refine⟨len,λA outer s H args us vs Q E G e0 L r B=>?_⟩;have O:=len _ _ _ _ B;have KX:K.In s.heap:=e0.mod.kin.keeps λb o e=>(e0.bs b o e).1;have lim:s.heap.NoLimit:=e0.mod.nolimit.keeps λb o e=>(e0.bs b o e).1;have z:∀y∈ps.zip us,scope.names.lookup y.1=Z .local∨(scope.names.lookup y.1=Z .cell/\((NI (s.heap.objs.size+1) scope.names []).lookup y.1).isSome=F2):=λ⟨n,v⟩ hy=>by
  rcases S.par n (OX hy).1 with q|q
  ·exact .inl q
  ·exact .inr ⟨q,OO _ _ _ (.inl q)⟩
 refine SK G.depth (KX _ _ lk) rfl S.co S.gen rfl (TX KX F) (L _ _ _ _ ?_);refine Rc S.kind z λenv he s1 x=>?_;subst he;refine⟨lim.keeps x.toInCall.keep,codeAny_func ?_⟩;obtain⟨t,U,Fn⟩:=j A outer s H vs Q E (G.deeper _) B;have I:Inv (cA CX P w K mg base N qual scope f cdv A outer s H E) [] (bC N vs) H s1:=lQ S G.hd e0 O r x;refine Mz (U [] s1 (bC N vs) H _ I Fn) (λfl s' hs=>?_) λe s' hs=>hs;have fin:∀{σ':St} {H':Hp} {v:V} {u:gV},Inv (cA CX P w K mg base N qual scope f cdv A outer s H E) [] σ' H' s'->RelV v u->Q v H'->CE outer P w H s Q u s':=λ{σ' H' v u} J rv q=>⟨v,H',J.os,J.bare,J.base,J.hok,rv,q⟩
 cases fl with
 |ret u=>obtain⟨v,σ',H',J,rv,q⟩:=hs;exact fin J rv q
 |next=>obtain⟨σ',H',J,q⟩:=hs;exact fin (v:=V.non) (u:=Ni) J rfl q
 |brk=>obtain⟨_,_,_,q⟩:=hs;exact False.elim q
 |cont=>obtain⟨_,_,_,q⟩:=hs;exact False.elim q
end
section
section
variable{X:Cx}{x:Str}{p pos:Pos}{e:Expr}{es:List Expr}{t:TA}{id T:String}{r:List V->Hp->VK->Prop}
noncomputable def tCB(r:List V->Hp->VK->Prop)(t:TA):TE:=λσ H Q=>t σ H λvs H1=>r vs H1 Q
theorem cB(B:CallR X (.builtin id) r)(F:Gl X x)(hm:X.mg x=Y)(G:OJ x=Z (.builtin id))(J:PA X (e::es) t)(L:x≠"__name__":=by decide)(j:(x==("__debug__":Str))=Md:=by decide)(he:Ll (e::es) X.env=(Md,eval e X.env)::Ll es X.env:=by rfl)(z:(OL pos (Ll es X.env)).any (·.1)=Md:=by rfl):PE X (.Call (.Name x p) (e::es) [] pos) (tCB r t):=by intro pins s σ H Q I h;refine N1 (cm I F hm G ?_ L j);exact Qt (thn (J pos pins s σ H _ I h) λus s1 O=>(by obtain⟨vs,H1,U,Fn,fv⟩:=O;exact B pins s1 σ H1 vs us Q U Fn fv)) he z
theorem gF(B:CallR X (.type T) r)(F:Gl X x)(hm:X.mg x=Y)(G:OJ x=Z (.type T))(J:PA X (e::es) t)(L:x≠"__name__":=by decide)(j:(x==("__debug__":Str))=Md:=by decide)(he:Ll (e::es) X.env=(Md,eval e X.env)::Ll es X.env:=by rfl)(z:(OL pos (Ll es X.env)).any (·.1)=Md:=by rfl):PE X (.Call (.Name x p) (e::es) [] pos) (tCB r t):=by intro pins s σ H Q I h;refine N1 (cm I F hm G ?_ L j);exact MA (thn (J pos pins s σ H _ I h) λus s1 O=>(by obtain⟨vs,H1,U,Fn,fv⟩:=O;exact B pins s1 σ H1 vs us Q U Fn fv)) he z
end
end
end L2
namespace HT
open PySem PyProof.Rows
section
variable{prog:Ln}{w:LL}{A:LQ}{E:gV->q7->Prop}{s:q7}
theorem cat_tup{t b:N2}{vs ws:List gV}{Q:gV->q7->Prop}(Fn:IsTup s.heap t vs.toArray)(fv:IsTup s.heap b ws.toArray)(J:vs≠[])(h1:ws=[]->Q (.ref t) s)(h2:ws≠[]->Q (.ref s.heap.objs.size) {s with heap:=s.heap.push {cls:=.type "tuple",data:=.seq (vs++ws).toArray}})(hsz:vs.length+ws.length<=L3):La (model prog w) A (Nc .Add (.ref t) (.ref b)) Q E s:=by
 obtain⟨⟨cls,dd,data,sl⟩,ho,L,n,hd⟩:=id Fn;obtain⟨⟨O,z,data2,B⟩,j,G,U,hd2⟩:=id fv;simp only at L hd G hd2;subst L hd G hd2;have e:vs.toArray++ws.toArray=(vs++ws).toArray:=by simp
 by_cases hw:ws=[]
 ·exact Ub ⟨_,ho,rfl⟩ ⟨_,j,rfl⟩ RY Tv Qc Q3 (PH _ _)
   (tuple_addW1 t b vs.toArray ws.toArray n U dd z sl B (by simpa using J) (by simp[hw])) ⟨ho,j,h1 hw⟩
 ·refine Ub ⟨_,ho,rfl⟩ ⟨_,j,rfl⟩ RY Tv Qc Q3 (PH _ _)
   (tuple_addW2 t b vs.toArray ws.toArray n U dd z sl B (by simpa using J) (by simpa using hw) (by rw[L5,L5];exact hsz)) ⟨ho,j,?_⟩
  rw[e];exact h2 hw
noncomputable def sIx(n d:Nat):Option Int->Nat
 |none=>d
 |some v=>if v<0 then(v+(n:Int)).toNat else min v.toNat n
theorem sIx_none(n d:Nat):sIx n d Y=d:=rfl
theorem sIx_nat(n d k:Nat):sIx n d (Z (k:Int))=min k n:=by
 show(if(k:Int)<0 then((k:Int)+(n:Int)).toNat else min (k:Int).toNat n)=min k n
 rw[if_neg ∅,L6]
theorem CW(n d:Nat)(hd:d<=n)(o:Option Int):sIx n d o<=n:=by
 cases o with
 |none=>exact hd
 |some v=>
  show(if v<0 then(v+(n:Int)).toNat else min v.toNat n)<=n
  by_cases hv:v<0
  ·rw[if_pos hv];lia
  ·rw[if_neg hv];exact Nat.min_le_right _ _
theorem rC(v:Int)(n d:Nat):(if v<0 then max (v+(n:Int)) 0 else min v (n:Int))=((sIx n d (Z v):Nat):Int):=by
 show(if v<0 then max (v+(n:Int)) 0 else min v (n:Int))=(((if v<0 then(v+(n:Int)).toNat else min v.toNat n):Nat):Int)
 by_cases hv:v<0
 ·simp only[if_pos hv];lia
 ·simp only[if_neg hv];lia
theorem tz(lo hi:Option Int)(n:Nat):Pw lo hi 1 (n:Int)=(((sIx n 0 lo:Nat):Int),((sIx n n hi:Nat):Int)):=by
 have h1:¬((1:Int)<0):=∅
 unfold Pw;simp only[h1,if_false];refine Uc ?_ ?_
 ·cases lo with
  |none=>rfl
  |some v=>exact rC v n 0
 ·cases hi with
  |none=>rfl
  |some v=>exact rC v n n
theorem tD(i j:Nat):Og (i:Int) (j:Int) 1=j-i:=by
 unfold Og;have h1:(1:Int) > 0:=∅
 simp only[h1,if_true,Int.ediv_one]
 split<;>lia
theorem jr{v:gV}{o:Option Int}{Q:Option Int->q7->Prop}(p:Sk v o)(h:Q o s):La (model prog w) A (Builtin.Slice.slicePartIndex v) Q E s:=by
 cases p with
 |none=>exact slicePart_none h
 |int i t=>exact slicePart_int h
theorem dU{sl:N2}{vl vu:gV}{lo hi:Option Int}{n:Nat}{Q:Int×Int×Nat->q7->Prop}(hs:s.heap.IsSliceOf sl vl vu .none)(pl:Sk vl lo)(pu:Sk vu hi)(h:Q (((sIx n 0 lo:Nat):Int),1,sIx n n hi-sIx n 0 lo) s):La (model prog w) A (Rf (.ref sl) (pure (n:Int))) Q E s:=by
 obtain⟨os,j,B,z⟩:=id hs;unfold Rf Builtin.Slice.sliceFields;refine g8 (g8 (LV j z (x:=vl) rfl (g8 (LV j z (x:=vu) rfl (g8 (LV j z (x:=.none) rfl (z0 ?_)))))));refine g8 (slicePart_none ?_);show La _ _ (if((1:Int)==0)=F2 then _ else _) _ _ s
 rw[if_neg (by decide)]
 refine g8 (jr pl (g8 (jr pu (g8 (z0 ?_)))));show La _ _ (match Pw lo hi 1 (n:Int)with|(lo,hi)=>pure (lo,(1:Int),Og lo hi 1)) _ _ s
 rw[tz lo hi n];show La _ _ (pure (((sIx n 0 lo:Nat):Int),(1:Int),Og ((sIx n 0 lo:Nat):Int) ((sIx n n hi:Nat):Int) 1)) _ _ s;rw[tD];exact z0 h
theorem xX(xs:Array gV)(i k:Nat):((z4 k).filterMap λ(m:Nat)=>xs[((i:Int)+(m:Int)*1).toNat]?).toArray=((xs.toList.drop i).take k).toArray:=by
 have e:(λ(m:Nat)=>xs[((i:Int)+(m:Int)*1).toNat]?)=λm=>xs[i+m]?:=by
  funext m
  have:((i:Int)+(m:Int)*1).toNat=i+m:=∅
  rw[this]
 rw[e];have:=pick_run xs i k;rw[List.filterMap_map]at this;have e2:((λx=>xs[x]?)∘λx=>i+x)=λm=>xs[i+m]?:=rfl;rw[e2]at this;rw[this]
theorem getItem_tuple_cut{t sl:N2}{items:Array gV}{vl vu:gV}{lo hi:Option Int}{Q:gV->q7->Prop}(z:IsTup s.heap t items)(hs:s.heap.IsSliceOf sl vl vu .none)(pl:Sk vl lo)(pu:Sk vu hi)(hw:¬(sIx items.size 0 lo=0/\sIx items.size items.size hi=items.size))(h:Q (.ref s.heap.objs.size) {s with heap:=s.heap.push {cls:=.type "tuple",data:=.seq ((items.toList.drop (sIx items.size 0 lo)).take (sIx items.size items.size hi-sIx items.size 0 lo)).toArray}})(hsz:items.size<=L3):La (model prog w) A (RA (.ref t) (.ref sl)) Q E s:=by
 have j:sizeOk (.seq ((items.toList.drop (sIx items.size 0 lo)).take (sIx items.size items.size hi-sIx items.size 0 lo)).toArray):=by show((items.toList.drop (sIx items.size 0 lo)).take (sIx items.size items.size hi-sIx items.size 0 lo)).toArray.size<=L3;rw[L5,Lu,Nl,Ly];lia
 have O:sIx items.size items.size hi<=items.size:=CW _ _ (Le _) hi;obtain⟨os,B,F,L⟩:=id hs;have G:s.TypeIs (.ref sl) "slice":=⟨os,B,F⟩;unfold RA
 try with_reducible refine Mj ?_
 first|refine g8 (z0 ?_)|skip
 refine g8 (Ud z.typeIs (by decide) ?_)
 refine g8 (LG (name:=Lw "__getitem__") z.typeIs NG
  (LR NG z.typeIs Tq ?_ (TY _ _)))
 show La _ _ (Rg (.ref t)>>=_) _ _ s;refine g8 (tupleItemsOf_ z ?_);refine g8 (OP G ?_);rw[if_pos (by decide)]
 refine g8 (dU hs pl pu ?_);have J:¬((((sIx items.size 0 lo:Nat):Int)==0&&(1:Int)==1&&(sIx items.size items.size hi-sIx items.size 0 lo)==items.size)=F2):=by intro q;rw[p0,p0]at q;have U:((sIx items.size 0 lo:Nat):Int)=0:=Oi q.1.1;have Fn:sIx items.size items.size hi-sIx items.size 0 lo=items.size:=Oi q.2;exact hw ⟨∅,∅⟩
 show La _ _ (if(((sIx items.size 0 lo:Nat):Int)==0&&(1:Int)==1&&(sIx items.size items.size hi-sIx items.size 0 lo)==items.size)=F2 then _ else _) _ _ s
 rw[if_neg J,xX]
 first
  |exact g8 (m:=Oy _) (MQ (z0 ⟨_,rfl,z0 h⟩) j)
  |exact g8 (m:=Oy _) (MQ (g8 (z0 (z0 ⟨_,rfl,z0 h⟩))) j)
  |exact g8 (g8 (m:=Oy _) (MQ (z0 (z0 ⟨_,rfl,z0 h⟩)) j))
  |exact g8 (g8 (m:=Oy _) (MQ (z0 ⟨_,rfl,z0 h⟩) j))
end
end HT
namespace L2
open PySem PySem.Spec PyProof.Rows
section
noncomputable abbrev TO:=St->Hp->(Option Int->Hp->Prop)->Prop
def PO(X:Cx)(e:Option Expr)(t:TO):Prop:=
 ∀(pins:List (N2×Obj)) (s:q7) (σ:St) (H:Hp) (Q:Option Int->Hp->Prop),Inv X pins σ H s->t σ H Q->
  La (model X.prog X.w) X.A (evalPart e X.env) (λu s'=>∃o H',Inv X pins σ H' s'/\Sk u o/\Q o H') X.xe s
noncomputable def AI:TO:=λ_ H Q=>Q Y H
noncomputable def EO(t:TE):TO:=λσ H Q=>t σ H λx H1=>∃i,x=.int i/\Q (Z i) H1
section
variable{X:Cx}{e:Expr}{te:TE}{lo hi:Option Expr}{tl th:TO}{pos p2:Pos}
theorem AJ:PO X Y AI:=by intro pins s σ H Q I h;rw[evalPart_none];exact z0 ⟨Y,H,I,.none,h⟩
theorem AK(h:PE X e te):PO X (Z e) (EO te):=by intro pins s σ H Q I hw;rw[evalPart_some];refine thn (h pins s σ H _ I hw) λu s1 j=>?_;obtain⟨x,H1,z,B,F⟩:=j;obtain⟨i,rfl,q⟩:=F;obtain⟨t,rfl⟩:=B;exact⟨Z i,H1,z,.int i t,q⟩
def SlR(X:Cx)(r:V->Option Int->Option Int->Hp->VK->Prop):Prop:=
 ∀(pins:List (N2×Obj)) (s:q7) (σ:St) (H:Hp) (x:V) (v vl vu:gV) (lo hi:Option Int) (sl:N2) (Q:VK),Inv X pins σ H s->RelV x v->s.heap.IsSliceOf sl vl vu .none->Sk vl lo->Sk vu hi->r x lo hi H Q->
  ∃T id,Vs (.type T) "__getitem__"=pure (Z (.builtin id))/\s.TypeIs v T/\La (model X.prog X.w) X.A (RA v (.ref sl)) (EP X pins σ Q) X.xe s
theorem SlR.or{r r':V->Option Int->Option Int->Hp->VK->Prop}(h:SlR X r)(h':SlR X r'):SlR X (λx lo hi H Q=>r x lo hi H Q∨r' x lo hi H Q):=by
 intro pins s σ H x v vl vu lo hi sl Q I rx hs pl pu q
 rcases q with q|q
 ·exact h pins s σ H x v vl vu lo hi sl Q I rx hs pl pu q
 ·exact h' pins s σ H x v vl vu lo hi sl Q I rx hs pl pu q
noncomputable def tSl(r:V->Option Int->Option Int->Hp->VK->Prop)(te:TE)(tl th:TO):TE:=λσ H Q=>te σ H λx H1=>tl σ H1 λl H2=>th σ H2 λu H3=>r x l u H3 Q
theorem xY{r:V->Option Int->Option Int->Hp->VK->Prop}(B:SlR X r)(he:PE X e te)(F:PO X lo tl)(G:PO X hi th):PE X (.Subscript e (.Slice lo hi Y p2) pos) (tSl r te tl th):=by
 intro pins s σ H Q I h;refine Subscript_ (thn (he pins s σ H _ I h) λv s1 j=>?_);obtain⟨x,H1,J,L,O⟩:=j;refine wpAny_Slice (thn (F pins s1 σ H1 _ J O) λvl s2 ⟨l,H2,U,pl,Fn⟩=>thn (G pins s2 σ H2 _ U Fn) λvu s3 j=>?_);obtain⟨u,z,fv,pu,q3⟩:=j;rw[evalPart_none];refine z0 ?_;have I4:Inv X pins σ z {s3 with heap:=s3.heap.push {cls:=.type "slice",data:=.fields #[vl,vu,.none]}}:=fv.kept (t':=s3.toks) λb ob q=>i0 _ q
 obtain⟨T,id,hT,ht,hg⟩:=B pins {s3 with heap:=s3.heap.push {cls:=.type "slice",data:=.fields #[vl,vu,.none]}} σ z x v vl vu l u s3.heap.objs.size Q I4 L (Heap.IsSliceOf.new ..) pl pu q3
 show La (model X.prog X.w) X.A (subscriptTail e (.Slice lo hi Y p2) v (.ref s3.heap.objs.size)) (EP X pins σ Q) X.xe {s3 with heap:=s3.heap.push {cls:=.type "slice",data:=.fields #[vl,vu,.none]}}
 exact tail_any (ops:=[.ref s3.heap.objs.size,v]) ht hT hg (by with_unfolding_all rfl)
noncomputable def gG(xs:List V)(lo hi:Option Int):List V:=(xs.drop (HT.sIx xs.length 0 lo)).take (HT.sIx xs.length xs.length hi-HT.sIx xs.length 0 lo)
theorem iL(xs:List V)(lo hi:Option Int):(gG xs lo hi).length<=xs.length:=by unfold gG;rw[Lu,Nl];lia
noncomputable def Gb(K:Frag):V->Option Int->Option Int->Hp->VK->Prop:=λx lo hi H Q=>∃a xs,x=.ref a/\SqT K H a xs /\
 ¬(HT.sIx xs.length 0 lo=0/\HT.sIx xs.length xs.length hi=xs.length)/\∀p,H p=Y->Q (.ref p) (upd H p (.tup (gG xs lo hi)))
theorem sl_tup:SlR X (Gb X.K):=by
 intro pins s σ H x v vl vu lo hi sl Q I rx hs pl pu h;obtain⟨a,xs,rfl,hx,hw,q⟩:=h
 cases rx
 obtain⟨its,r,j,z⟩:=I.tuple hx;have hlen:its.toArray.size=xs.length:=by rw[L5];exact r.length.symm
 refine⟨"tuple",_,PyProof.Rows.slot_tuple_getitem.lookup,j.typeIs,?_⟩;refine HT.getItem_tuple_cut j hs pl pu (by rw[hlen];exact hw) ?_ (by rw[hlen];exact z)
 rw[hlen];refine⟨.ref s.heap.objs.size,_,I.laid (t':=s.toks) (o:=.tup (gG xs lo hi)) (λb ob q=>i0 _ q) (Le _) ?_,rfl,q _ (I.hok.fresh (Le _))⟩;exact⟨Mu (iL xs lo hi) z,_,(r.drop (HT.sIx xs.length 0 lo)).take (HT.sIx xs.length xs.length hi-HT.sIx xs.length 0 lo),R9 _ _⟩
noncomputable def A2(K:Frag):R2:=λx y H Q=>∃a b xs ys,x=.ref a/\y=.ref b/\SqT K H a xs/\SqT K H b ys/\xs≠[]/\xs.length+ys.length<=L3 /\
 (ys=[]->Q (.ref a) H)/\(ys≠[]->∀p,H p=Y->Q (.ref p) (upd H p (.tup (xs++ys))))
theorem Vals.nil_iff{xs:List V}{us:List gV}(r:Vals xs us):us=[]↔xs=[]:=by
 cases r with
 |nil=>simp
 |cons _ _=>simp
theorem op_catT:OpR X (Nc .Add) (A2 X.K):=by
 intro pins s σ H x y v u Q I rx ry h;obtain⟨a,b,xs,ys,rfl,rfl,J,L,hx,F,O,U⟩:=h
 cases rx
 cases ry
 obtain⟨its,B,Fn,_⟩:=I.tuple J;obtain⟨G,j,p2,_⟩:=I.tuple L;refine HT.cat_tup Fn p2 (λz=>hx (B.nil_iff.mp z)) (λz=>⟨.ref a,H,I,rfl,O (j.nil_iff.mp z)⟩) (λz=>?_) (by rw[<-B.length,<-j.length];exact F)
 refine⟨.ref s.heap.objs.size,_,I.laid (t':=s.toks) (o:=.tup (xs++ys)) (λb ob q=>i0 _ q) (Le _) ?_,rfl,U (λw=>z (j.nil_iff.mpr w)) _ (I.hok.fresh (Le _))⟩;exact⟨by rw[I7];exact F,_,B.append j,R9 _ _⟩
end
end
variable{n:Nat}{s:q7}{its:List gV}{x:V}
section
noncomputable def ixN(n:Nat)(i:Int):Option Nat:=if 0<=i then(if i<n then Z i.toNat else Y)else if -(n:Int)<=i then Z (i+n).toNat else Y
noncomputable def atI{α:Type}(xs:List α)(i:Int):Option α:=(ixN xs.length i).bind λj=>xs[j]?
theorem rD{i:Int}{j:Nat}(h:ixN n i=Z j):seqIndex? i n=Z j/\j<n /\ -(n:Int)<=i/\i<n:=by
 unfold ixN at h
 by_cases h0:0<=i
 ·rw[if_pos h0]at h
  by_cases h1:i<n
  ·rw[if_pos h1]at h;have e:i.toNat=j:=MW.inj h;exact⟨by rw[SY h0 h1,e],∅,∅,h1⟩
  ·rw[if_neg h1]at h;cases h
 ·rw[if_neg h0]at h
  by_cases h1:-(n:Int)<=i
  ·rw[if_pos h1]at h;have e:(i+n).toNat=j:=MW.inj h;exact⟨by rw[Sl ∅ h1,e],∅,h1,∅⟩
  ·rw[if_neg h1]at h;cases h
theorem kH{α:Type}{xs:List α}{i:Int}{v:α}(h:atI xs i=Z v):∃j,seqIndex? i xs.length=Z j/\xs[j]?=Z v/\j<xs.length /\ -(xs.length:Int)<=i/\i<xs.length:=by
 unfold atI at h
 cases e:ixN xs.length i with
 |none=>rw[e]at h;cases h
 |some j=>rw[e]at h;obtain⟨h1,h2,z,B⟩:=rD e;exact⟨j,h1,h,h2,z,B⟩
def kI(b:Expr):Prop:=∀o i,subscripted b Md o i=operate [o,i] (RA o i)
def IxR(X:Cx)(r:R2):Prop:=
 ∀(value slice:Expr) (pins:List (N2×Obj)) (s:q7) (σ:St) (H:Hp) (x y:V) (v u:gV) (Q:VK),Inv X pins σ H s->RelV x v->RelV y u->r x y H Q->
  subscripted slice Md v u=operate [v,u] (RA v u)->La (model X.prog X.w) X.A (subscriptTail value slice v u) (EP X pins σ Q) X.xe s
def MtR(X:Cx)(id:String)(r:V->List V->Hp->VK->Prop):Prop:=
 ∀(pins:List (N2×Obj)) (s:q7) (σ:St) (H:Hp) (x:V) (xs:List V) (v:gV) (us:List gV) (Q:VK),Inv X pins σ H s->RelV x v->Vals xs us->r x xs H Q->
  La (model X.prog X.w) X.A (call (.builtin id) (v::us)) (EP X pins σ Q) X.xe s
section
variable{X:Cx}{a b:Expr}{ta tb:TE}{pos:Pos}
theorem IxR.or{r r':R2}(h:IxR X r)(h':IxR X r'):IxR X (λx y H Q=>r x y H Q∨r' x y H Q):=by
 intro value slice pins s σ H x y v u Q I rx ry q hs
 rcases q with q|q
 ·exact h value slice pins s σ H x y v u Q I rx ry q hs
 ·exact h' value slice pins s σ H x y v u Q I rx ry q hs
theorem EQ{r:R2}(j:IxR X r)(z:PE X a ta)(B:PE X b tb)(hs:kI b):PE X (.Subscript a b pos) (tOp r ta tb):=by intro pins s σ H Q I h;exact Subscript_ (xP z B I h λv u s2 x y H2 F rx ry q=>j a b pins s2 σ H2 x y v u Q F rx ry q (hs _ _))
noncomputable def Gc(K:Frag):R2:=λx y H Q=>∃p xs i v,x=.ref p/\y=.int i/\SqL K H p xs/\atI xs i=Z v/\Q v H
noncomputable def Gd(K:Frag):R2:=λx y H Q=>∃p xs i v,x=.ref p/\y=.int i/\SqT K H p xs/\atI xs i=Z v/\Q v H
theorem ix_list:IxR X (Gc X.K):=by
 intro value slice pins s σ H x y v u Q I rx ry h hs;obtain⟨p,xs,i,z,rfl,rfl,F,he,q⟩:=h
 cases rx
 obtain⟨t,rfl⟩:=ry;obtain⟨its,r,pl,O⟩:=I.list F;obtain⟨j,h1,h2,U,G,J⟩:=kH he;obtain⟨w,ew,rw'⟩:=r.get h2;have L:=r.length;have Fn:=fB;have fin:EP X pins σ Q w s:=⟨z,H,I,rw',q⟩
 by_cases h0:0<=i
 ·have B:i.toNat=j:=by
   rw[SY h0 J]at h1;exact MW.inj h1
  exact item_listR pl.isList h0 ∅ (by rw[B];simpa using ew) fin hs
 ·have B:(i+(its.toArray.size:Int)).toNat=j:=by
   rw[Sl ∅ G]at h1
   rw[L5,<-L];exact MW.inj h1
  exact Sm (x:=w) pl.isList.typeIs slot_list_getitem.lookup
   (Sn (Q:=λr s'=>r=w/\EP X pins σ Q r s') pl.isList ∅ (by rw[L5]<;>lia) ∅ (by rw[B];simpa using ew) ⟨rfl,fin⟩) hs
theorem ix_tup:IxR X (Gd X.K):=by
 intro value slice pins s σ H x y v u Q I rx ry h hs;obtain⟨p,xs,i,z,rfl,rfl,B,he,q⟩:=h
 cases rx
 obtain⟨t,rfl⟩:=ry;obtain⟨its,r,pl,G⟩:=I.tuple B;obtain⟨j,h1,h2,J,L,O⟩:=kH he;obtain⟨w,ew,rw'⟩:=r.get h2;have F:=r.length;have U:=fB;have fin:EP X pins σ Q w s:=⟨z,H,I,rw',q⟩;exact Sm (x:=w) pl.typeIs slot_tuple_getitem.lookup
  (getItem_tuple (j:=j) (Q:=λr s'=>r=w/\EP X pins σ Q r s') pl ∅ ∅ (by rw[L5,<-F];exact h1) (by simpa using ew) ⟨rfl,fin⟩) hs
theorem tE(its:List gV)(n j:Nat)(u:gV):Nu (·.setIfInBounds j u) {cls:=.type "list",data:=.seq its.toArray n}={cls:=.type "list",data:=.seq (its.set j u).toArray n}:=by simp[Nu]
theorem Inv.lst{pins:List (N2×Obj)}{σ:St}{H:Hp}{s:q7}{p:N2}{xs:List V}(I:Inv X pins σ H s)(h:H p=Z (.lst xs)):
 ∃(its:List gV) (n:Nat),Vals xs its/\s.heap.get? p=Z {cls:=.type "list",data:=.seq its.toArray n}/\xs.length<=L3:=by
 obtain⟨z,its,n,r,e⟩:=I.hok p _ h;exact⟨its,n,r,e,z⟩
theorem Inv.lstUpd{pins:List (N2×Obj)}{σ:St}{H:Hp}{p:N2}{xs ys:List V}{its':List gV}{n':Nat}{f:Obj->Obj}(I:Inv X pins σ H s)(h:H p=Z (.lst xs))(ho:s.heap.get? p=Z {cls:=.type "list",data:=.seq its.toArray n})(hf:f {cls:=.type "list",data:=.seq its.toArray n}={cls:=.type "list",data:=.seq its'.toArray n'})(r:Vals ys its')(j:ys.length<=L3)(t:Nat):
 Inv X pins σ (upd H p (.lst ys)) {s with heap:=s.heap.update p f,toks:=t}:=by
 have e:(s.heap.update p f).get? p=Z {cls:=.type "list",data:=.seq its'.toArray n'}:=by rw[SM f ho (by rw[hf]<;>rfl),hf]
 refine I.write (x:=p) (e:=p) (by rw[h];trivial) (.inl rfl) (λb u z q=>(So _ _ (Ne.symm z)).trans q) ⟨_,e⟩ ?_
 exact⟨j,its',n',r,e⟩
noncomputable def A4:V->V->V->Hp->(Hp->Prop)->Prop:=λo i v H Q=>∃p xs k j,o=.ref p/\i=.int k/\H p=Z (.lst xs)/\ixN xs.length k=Z j/\Q (upd H p (.lst (xs.set j v)))
theorem oI:PSet X A4:=by
 intro pins s σ H o i v ov iv u Q I ro ri rv h;obtain⟨p,xs,k,j,rfl,rfl,F,L,q⟩:=h
 cases ro
 obtain⟨t,rfl⟩:=ri;obtain⟨its,n,r,ho,O⟩:=I.lst F;obtain⟨h1,h2,G,J⟩:=rD L;have z:=r.length;have U:=fB;have I':Inv X pins σ (upd H p (.lst (xs.set j v))) {s with heap:=s.heap.update p (Nu (·.setIfInBounds j u))}:=I.lstUpd F ho (tE its n j u) (r.set rv j) (by rw[QM];exact O) s.toks
 by_cases h0:0<=k
 ·have B:k.toNat=j:=by
   rw[SY h0 J]at h1;exact MW.inj h1
  exact PySem.W.ki_setAt ho h0 ∅ (by rw[L5,<-z];exact J) (by rw[B];exact⟨_,I',q⟩)
 ·have B:(k+(its.toArray.size:Int)).toNat=j:=by
   rw[Sl ∅ G]at h1
   rw[L5,<-z];exact MW.inj h1
  exact PySem.W.ki_setBack ho ∅ (by rw[L5,<-z];exact G) ∅ (by rw[B];exact⟨_,I',q⟩)
theorem oJ(lo hi:Option Int)(n:Nat):(Q4 lo hi Y n).1=((HT.sIx n 0 lo:Nat):Int)/\(Q4 lo hi Y n).2.1=((HT.sIx n n hi:Nat):Int)/\(Q4 lo hi Y n).2.2=1:=by
 refine⟨?_,?_,rfl⟩
 ·cases lo with
  |none=>simp[Q4,HT.sIx]
  |some i=>
   simp only[Q4,HT.sIx,RZ,show(1:Int) > 0 by decide,if_true]
   by_cases h:i<0
   ·simp only[h,if_true]<;>lia
   ·simp only[h,if_false]<;>lia
 ·cases hi with
  |none=>simp[Q4,HT.sIx]
  |some i=>
   simp only[Q4,HT.sIx,RZ,show(1:Int) > 0 by decide,if_true]
   by_cases h:i<0
   ·simp only[h,if_true]<;>lia
   ·simp only[h,if_false]<;>lia
theorem nD(its:List gV)(lo hi:Option Int):slicePick its.toArray lo hi Y=((its.drop (HT.sIx its.length 0 lo)).take (HT.sIx its.length its.length hi-HT.sIx its.length 0 lo)).toArray:=by obtain⟨h1,h2,j⟩:=oJ lo hi its.toArray.size;unfold slicePick;rw[h1,h2,j];simp only[sliceRange_one,pick_run,L5]<;>rfl
noncomputable def Gf(K:Frag):V->Option Int->Option Int->Hp->VK->Prop:=λx lo hi H Q=>∃a xs,x=.ref a/\SqL K H a xs/\∀p,H p=Y->Q (.ref p) (upd H p (.lst (gG xs lo hi)))
theorem sl_list:SlR X (Gf X.K):=by
 intro pins s σ H x v vl vu lo hi sl Q I rx hs pl pu h;obtain⟨a,xs,rfl,hx,q⟩:=h
 cases rx
 obtain⟨its,r,j,z⟩:=I.list hx;have hlen:=r.length;refine⟨"list",_,slot_list_getitem.lookup,j.isList.typeIs,?_⟩;refine wpAny_getItem_list_slice j.isList hs pl pu .none (by simp) ?_ (by rw[L5]<;>lia)
 rw[nD,<-hlen];refine⟨.ref s.heap.objs.size,_,I.laid (t':=s.toks) (o:=.lst (gG xs lo hi)) (λb ob q=>i0 _ q) (Le _) ?_,rfl,q _ (I.hok.fresh (Le _))⟩;exact⟨Mu (iL xs lo hi) z,_,0,(r.drop (HT.sIx xs.length 0 lo)).take (HT.sIx xs.length xs.length hi-HT.sIx xs.length 0 lo),KY _ rfl⟩
noncomputable def dB:V->Bool
 |.non=>F2
 |.bl _=>F2
 |.int _=>F2
 |.str _=>F2
 |_=>Md
noncomputable def eqV:V->V->Bool
 |.non,.non=>F2
 |.bl a,.bl b=>a==b
 |.bl a,.int b=>(if a then 1 else 0)==b
 |.int a,.bl b=>a==(if b then 1 else 0)
 |.int a,.int b=>a==b
 |.str a,.str b=>a==b
 |_,_=>Md
theorem CY{A:LQ}{y:V}{u v:gV}(ry:RelV y u)(rx:RelV x v)(fy:dB y=F2)(fx:dB x=F2):SeqAt.EqAt A s u v (eqV y x):=by
 cases y with
 |non=>
  cases ry
  cases x with
  |non=>cases rx;exact SeqAt.EqAt.same _
  |bl b=>cases rx;exact SeqAt.EqAt.none_bool b
  |int b=>obtain⟨t,rfl⟩:=rx;exact SeqAt.EqAt.none_int b t
  |str b=>obtain⟨t,rfl⟩:=rx;exact SeqAt.EqAt.none_str b t
  |_=>exact absurd (show Md=F2 from fx) KW
 |bl a=>
  cases ry
  cases x with
  |non=>cases rx;exact SeqAt.EqAt.bool_none a
  |bl b=>cases rx;exact SeqAt.EqAt.bool_bool a b
  |int b=>obtain⟨t,rfl⟩:=rx;exact SeqAt.EqAt.bool_int a b t
  |str b=>obtain⟨t,rfl⟩:=rx;exact SeqAt.EqAt.bool_str a b t
  |_=>exact absurd (show Md=F2 from fx) KW
 |int a=>
  obtain⟨t',rfl⟩:=ry
  cases x with
  |non=>cases rx;exact SeqAt.EqAt.int_none a t'
  |bl b=>cases rx;exact SeqAt.EqAt.int_bool a t' b
  |int b=>obtain⟨t,rfl⟩:=rx;exact SeqAt.EqAt.int_int a t' b t
  |str b=>obtain⟨t,rfl⟩:=rx;exact TM a t' b t
  |_=>exact absurd (show Md=F2 from fx) KW
 |str a=>
  obtain⟨t',rfl⟩:=ry
  cases x with
  |non=>cases rx;exact SeqAt.EqAt.str_none a t'
  |bl b=>cases rx;exact SeqAt.EqAt.str_bool a t' b
  |int b=>obtain⟨t,rfl⟩:=rx;exact TN a t' b t
  |str b=>obtain⟨t,rfl⟩:=rx;exact SeqAt.EqAt.str_str a t' b t
  |_=>exact absurd (show Md=F2 from fx) KW
 |_=>exact absurd (show Md=F2 from fy) KW
noncomputable def eqU(x:V)(u:gV):Bool:=match u with
 |.none=>eqV .non x
 |.bool b=>eqV (.bl b) x
 |.int i _=>eqV (.int i) x
 |.str z _=>eqV (.str z) x
 |_=>Md
theorem vh{y:V}{u:gV}(r:RelV y u)(f:dB y=F2):eqU x u=eqV y x:=by
 cases y with
 |non=>cases r;rfl
 |bl b=>cases r;rfl
 |int i=>obtain⟨t,rfl⟩:=r;rfl
 |str z=>obtain⟨t,rfl⟩:=r;rfl
 |_=>exact absurd (show Md=F2 from f) KW
theorem kJ{x:V}:∀{xs:List V} {us:List gV},Vals xs us->xs.all dB=F2->us.any (eqU x)=xs.any λy=>eqV y x
 |_,_,.nil,_=>rfl
 |y::xs,u::us,.cons r t,f=>by rw[NM,p0]at f;rw[Nr,Nr,vh r f.1,kJ t f.2]
theorem iY{A:LQ}{s:q7}{x:V}{v:gV}(rx:RelV x v)(fx:dB x=F2):∀{xs:List V} {us:List gV},Vals xs us->xs.all dB=F2->∀u∈us,SeqAt.EqAt A s u v (eqU x u)
 |_,_,.nil,_=>λu j=>by cases j
 |y::xs,u::us,.cons r t,f=>fun u' j=>by
  rw[NM,p0]at f
  rcases KZ.mp j with rfl|j
  ·rw[vh r f.1];exact CY r rx f.1 fx
  ·exact iY rx fx t f.2 u' j
noncomputable def inV(x:V)(xs:List V):Bool:=xs.any λy=>eqV y x
noncomputable def rIn(K:Frag)(neg:Bool):R2:=λx y H Q=>∃p xs,y=.ref p/\(SqL K H p xs∨SqT K H p xs)/\dB x=F2/\xs.all dB=F2/\Q (.bl (if neg then !inV x xs else inV x xs)) H
theorem vj:OpR X (NB .In) (rIn X.K Md):=by
 intro pins s σ H x y v u Q I rx ry h;obtain⟨p,xs,rfl,j,fx,fs,q⟩:=h
 cases ry
 rcases j with j|j
 ·obtain⟨its,r,pl,z⟩:=I.list j;refine SeqAt.in_listAt (eqU x) pl.isList (λw hw=>iY rx fx r fs w (by simpa using hw)) ⟨.bl _,H,I,rfl,?_⟩
  rw[show its.toArray.any (eqU x)=its.any (eqU x) by simp,kJ r fs]
  exact q
 ·obtain⟨its,r,pl,z⟩:=I.tuple j;refine SeqAt.in_tupleAt (eqU x) pl (λw hw=>iY rx fx r fs w (by simpa using hw)) ⟨.bl _,H,I,rfl,?_⟩
  rw[show its.toArray.any (eqU x)=its.any (eqU x) by simp,kJ r fs]
  exact q
theorem oK:CallR X (.type "list") (λxs H Q=>∃p ys,xs=[.ref p]/\(SqL X.K H p ys∨SqT X.K H p ys)/\∀l,H l=Y->Q (.ref l) (upd H l (.lst ys))):=by
 intro pins s σ H xs us Q I r h;obtain⟨p,ys,rfl,j,q⟩:=h;obtain⟨u,rfl,rx⟩:=eG r
 cases rx
 have fin:∀(its:List gV),Vals ys its->ys.length<=L3->∀(h':Heap) (c':Nat),(∀b o',s.heap.get? b=Z o'->h'.get? b=Z o')->
  h'.get? s.heap.objs.size=Z {cls:=.type "list",dict:=Y,data:=.seq its.toArray c',slots:=#[]}->EP X pins σ Q (.ref s.heap.objs.size) {s with heap:=h'}:=λits r' z h' c' kp e=>
  ⟨.ref s.heap.objs.size,_,I.laid (t':=s.toks) kp (Le _) (show ObjOk X.prog X.w _ h' _ (.lst ys)from⟨z,its,c',r',e⟩),rfl,q _ (I.hok.fresh (Le _))⟩
 rcases j with j|j
 ·obtain⟨its,r',pl,z⟩:=I.list j;have hlen:=r'.length;obtain⟨o,ho,B,n,hd⟩:=pl.isList;exact call_list_seq p (.inl rfl) ho B hd (λh' c' kp e=>fin its r' z h' c' kp e) (by simp only[L5]<;>lia)
 ·obtain⟨its,r',pl,z⟩:=I.tuple j;have hlen:=r'.length;obtain⟨o,ho,B,n,hd⟩:=pl;exact call_list_seq p (.inr rfl) ho B hd (λh' c' kp e=>fin its r' z h' c' kp e) (by simp only[L5]<;>lia)
theorem nE:CallR X (.type "tuple") (λxs H Q=>∃p ys,xs=[.ref p]/\((SqL X.K H p ys/\∀l,H l=Y->Q (.ref l) (upd H l (.tup ys)))∨(SqT X.K H p ys/\Q (.ref p) H))):=by
 intro pins s σ H xs us Q I r h;obtain⟨p,ys,rfl,h⟩:=h;obtain⟨u,rfl,rx⟩:=eG r
 cases rx
 rcases h with⟨j,q⟩|⟨j,q⟩
 ·obtain⟨its,r',pl,z⟩:=I.list j;have hlen:=r'.length;refine call_tuple_list pl.isList (λh' kp=>?_) (by simp only[L5]<;>lia)
  have B:Inv X pins σ H {s with heap:=h'}:=I.kept (t':=s.toks) kp
  have F:Inv X pins σ (upd H h'.objs.size (.tup ys)) {s with heap:=h'.push {cls:=.type "tuple",data:=.seq its.toArray}}:=B.laid (t':=s.toks) (λb o e=>i0 _ e) (Le _) (show ObjOk X.prog X.w _ _ _ (.tup ys)from⟨z,its,r',R9 _ _⟩)
  exact⟨.ref h'.objs.size,_,F,rfl,q _ (B.hok.fresh (Le _))⟩
 ·obtain⟨its,r',pl,z⟩:=I.tuple j;exact call_tuple_same pl ⟨.ref p,H,I,rfl,q⟩
def tyV(K:Frag)(T:String)(x:V)(H:Hp):Prop:=match x with
 |.str _=>T="str"
 |.int _=>T="int"
 |.ref p=>(T="list"/\∃xs,SqL K H p xs)∨(T="tuple"/\∃o,K.lookup p=Z o/\o.cls=.type "tuple"/\o.dict=Y) ∨
  (T="dict"/\((∃kvs,H p=Z (.dK kvs))∨∃kvs,H p=Z (.dT kvs)))∨(T="set"/\∃S n,H p=Z (.set S n))
 |_=>False
theorem CZ{pins:List (N2×Obj)}{σ:St}{H:Hp}{T:String}{v:gV}(I:Inv X pins σ H s)(r:RelV x v)(ty:tyV X.K T x H):
 s.TypeIs v T/\∀a,v=.ref a->∃ob,s.heap.get? a=Z ob/\ob.dict=Y:=by
 cases x with
 |str z=>
  obtain⟨t,rfl⟩:=r
  cases(show T="str" from ty)
  exact⟨typeIs_str s z t,λ_ e=>nomatch e⟩
 |int i=>
  obtain⟨t,rfl⟩:=r
  cases(show T="int" from ty)
  exact⟨Sr s i t,λ_ e=>nomatch e⟩
 |ref p=>
  cases r
  rcases ty with⟨rfl,xs,B⟩|⟨rfl,o,j,F,hd⟩|⟨rfl,j⟩|⟨rfl,S,n,j⟩
  ·obtain⟨its,_,pl,_⟩:=I.list B;refine⟨pl.isList.typeIs,λa e=>?_⟩
   cases e
   obtain⟨o,n,e,c,hd,_⟩:=pl;exact⟨o,e,hd⟩
  ·refine⟨⟨o,I.kIn p o j,F⟩,λa e=>?_⟩
   cases e
   exact⟨o,I.kIn _ o j,hd⟩
  ·have z:∃o,s.heap.get? p=Z o/\o.ExactDict:=by
    rcases j with⟨kvs,j⟩|⟨kvs,j⟩
    ·obtain⟨_,_,_,_,o,_,_,e,ex,_⟩:=I.hok p _ j;exact⟨o,e,ex⟩
    ·obtain⟨_,_,_,_,o,_,_,e,ex,_⟩:=I.hok p _ j;exact⟨o,e,ex⟩
   obtain⟨o,e,ex⟩:=z;refine⟨⟨o,e,ex.1⟩,λa e2=>?_⟩
   cases e2
   exact⟨o,e,ex.2.1⟩
  ·obtain⟨o,_,_,_,e,ex,_⟩:=I.hok p _ j;refine⟨⟨o,e,ex.1⟩,λa e2=>?_⟩
   cases e2
   exact⟨o,e,ex.2.1⟩
 |_=>exact False.elim ty
noncomputable def tBM(K:Frag)(T:String)(r:V->List V->Hp->VK->Prop)(to:TE)(t:TA):TE:=λσ H Q=>to σ H λx H1=>tyV K T x H1/\t σ H1 λxs H2=>r x xs H2 Q
variable{o e:Expr}{es:List Expr}{to:TE}{t:TA}{name:Str}{apos cpos:Pos}{T id:String}{r:V->List V->Hp->VK->Prop}
theorem A5 (pa:PlainAttrs T)(slot:Slot T name id)(G:typeOf (.builtin id)=pure (.type "method_descriptor"))(hm:MtR X id r)(ho:PE X o to)(Fn:PA X (e::es) t)(z:RH o name X.env (eval o X.env)=eval o X.env:=by rfl)(F:((OL cpos (Ll (e::es) X.env)).all (fun x=>!x.1)&&(Vt cpos (T2 [] X.env)).all (fun x=>x.1.isSome)
   && decide ((e::es).length+([]:List QX).length+(if([]:List QX).isEmpty then 0 else 1)<30))=F2:=by rfl)(B:(apos.endLine==cpos.line)=F2:=by rfl)(hs:Ll (e::es) X.env=(Md,eval e X.env)::Ll es X.env:=by rfl)(j:(OL cpos (Ll es X.env)).any (·.1)=Md:=by rfl):
 PE X (.Call (.Attribute o name apos) (e::es) [] cpos) (tBM X.K T r to t):=by
 intro pins s σ H Q I h;refine wpAny_Call_method_late z F B rfl (thn (ho pins s σ H _ I h) λv s1 J=>?_);obtain⟨x,H1,L,O,ty,fv⟩:=J;obtain⟨h1,h2⟩:=CZ L O ty;refine⟨T,id,pa,slot,G,h1,h2,?_⟩;have U:=Fn cpos pins s1 σ H1 _ L fv;rw[hs]at U⊢;refine Qe (by show(Md || (OL cpos (Ll es X.env)).any (·.1))=Md;rw[j]<;>rfl) (QG ?_)
 exact thn U λus s2 J=>(by obtain⟨vs,H2,I2,r2,q2⟩:=J;exact hm pins s2 σ H2 x vs v us Q I2 O r2 q2)
end
end
section
def MtM(X:Cx)(id:String)(r:V->List V->Hp->VK->Prop):Prop:=
 ∀(pins:List (N2×Obj)) (s:q7) (σ:St) (H:Hp) (x:V) (xs:List V) (v:gV) (us:List gV) (Q:VK),Inv X pins σ H s->RelV x v->Vals xs us->r x xs H Q->
  La (model X.prog X.w) X.A (call (.builtin id) (v::us)) (EP X pins σ Q) X.xe s
theorem Vals.one:∀{x:V} {us:List gV},Vals [x] us->∃u,us=[u]/\RelV x u
 |_,_,.cons r .nil=>⟨_,rfl,r⟩
theorem Vals.rep{xs:List V}{us:List gV}(h:Vals xs us):∀k:Nat,Vals (D1 k xs).flatten (D1 k us).flatten
 |0=>.nil
 |k+1=>by rw[Mr,Mr,Mv,Mv];exact Vals.append h (Vals.rep h k)
theorem gH(its:List gV):∀(k:Nat) (acc:List gV),
 Qu (λj z=>j++z) acc.toArray (D1 k its.toArray)=(acc++(D1 k its).flatten).toArray
 |0,acc=>by simp
 |k+1,acc=>by
  have e:acc.toArray++its.toArray=(acc++its).toArray:=by simp
  have e2:(acc++its)++(D1 k its).flatten=acc++(D1 (k+1) its).flatten:=by rw[Mr,Mv,Lh]
  rw[<-e2,<-gH its k (acc++its),<-e,Mr,SD]
section
variable{X:Cx}{pins:List (N2×Obj)}{σ:St}{H:Hp}{s:q7}{l b:N2}{xs ys zs:List V}
theorem Inv.lset{its':List gV}{f:Array gV->Array gV}{t':Nat}(I:Inv X pins σ H s)(j:H l=Z (.lst xs))(e:s.heap.get? l=Z {cls:=.type "list",data:=.seq its.toArray n})(hf:f its.toArray=its'.toArray)(z:Vals ys its')(B:ys.length<=L3):
 Inv X pins σ (upd H l (.lst ys)) {s with heap:=s.heap.update l (Nu f),toks:=t'}:=by
 have q:=PySem.IsL.update e f;rw[hf]at q;refine I.write (x:=l) (e:=l) (by rw[j];exact trivial) (.inl rfl) (λb' u F G=>(So s.heap (Nu f) (Ne.symm F)).trans G) ⟨_,q⟩ ?_
 exact⟨B,its',_,z,q⟩
theorem Inv.lnew{t':Nat}(I:Inv X pins σ H s)(j:Vals ys its)(z:ys.length<=L3):
 Inv X pins σ (upd H s.heap.objs.size (.lst ys)) {s with heap:=s.heap.push {cls:=.type "list",data:=.seq its.toArray},toks:=t'}:=
 I.laid (λ_ _ q=>i0 _ q) (Le _) ⟨z,its,0,j,KY _ rfl⟩
theorem Inv.fresh(I:Inv X pins σ H s):H s.heap.objs.size=Y:=I.hok.fresh (Le _)
theorem Inv.lstM(I:Inv X pins σ H s)(j:H l=Z (.lst xs)):xs.length<=L3/\∃(its:List gV) (n:Nat),Vals xs its/\xs.length=its.length/\s.heap.get? l=Z {cls:=.type "list",data:=.seq its.toArray n}:=by obtain⟨z,its,n,r,e⟩:=I.hok l _ j;exact⟨z,its,n,r,r.length,e⟩
theorem oM(h:n<=L3):Oz n=Md:=by unfold Oz;exact decide_eq_false ∅
end
section
variable{X:Cx}
noncomputable def rE:V->List V->Hp->VK->Prop:=λx vs H Q=>∃l xs y,x=.ref l/\vs=[y]/\H l=Z (.lst xs)/\xs.length<L3/\Q .non (upd H l (.lst (xs++[y])))
theorem lU:MtM X "list.append" rE:=by
 intro pins s σ H x vs v us Q I rx rv h;obtain⟨l,xs,y,rfl,rfl,j,B,q⟩:=h
 cases rx
 obtain⟨u,rfl,ru⟩:=rv.one;obtain⟨z,its,n,r,G,e⟩:=I.lstM j;refine Qv F.slot_list_append ⟨_,e,rfl⟩ F.entry_list_append (F.args_list_append_2 _ _) (PySem.list_append l its.toArray n u (by rw[L5];lia)) ⟨e,?_⟩
 refine⟨.non,_,I.lset (its':=its++[u]) j e (by simp) (r.append (.cons ru .nil)) ?_,rfl,q⟩
 rw[I7,Mp];lia
noncomputable def Gg:R2:=λx y H Q=>∃l b xs zs,x=.ref l/\y=.ref b/\H l=Z (.lst xs)/\H b=Z (.lst zs)/\xs.length+zs.length<=L3/\∀p,H p=Y->Q (.ref p) (upd H p (.lst (xs++zs)))
theorem op_cat:OpR X (Nc .Add) Gg:=by
 intro pins s σ H x y v u Q I rx ry h;obtain⟨l,b,xs,zs,rfl,rfl,B,F,L,q⟩:=h
 cases rx
 cases ry
 obtain⟨z,its,n,r,O,e⟩:=I.lstM B;obtain⟨U,j,Fn,G,J,e2⟩:=I.lstM F;refine PySem.P.add_list e e2 ?_ (by rw[L5,L5];lia)
 have ea:its.toArray++j.toArray=(its++j).toArray:=by simp
 rw[ea];exact⟨.ref _,_,I.lnew (t':=s.toks) (r.append G) (by rw[I7];lia),rfl,q _ I.fresh⟩
noncomputable def Gh:R2:=λx y H Q=>∃l k xs,x=.ref l/\y=.int k/\H l=Z (.lst xs) /\ -(2^63)<=k/\k<2^63/\xs.length*k.toNat<=L3 /\
 ∀p,H p=Y->Q (.ref p) (upd H p (.lst (D1 k.toNat xs).flatten))
theorem rF{α:Type}(xs:List α)(k:Nat):(D1 k xs).flatten.length=k*xs.length:=by
 induction k with
 |zero=>simp
 |succ k ih=>rw[Mr,Mv,I7,ih,OQ,Nat.add_comm]
theorem op_rep:OpR X (Nc .Mult) Gh:=by
 intro pins s σ H x y v u Q I rx ry h;obtain⟨l,k,xs,rfl,rfl,fv,h1,h2,Fn,q⟩:=h
 cases rx
 obtain⟨t,rfl⟩:=ry;obtain⟨z,its,n,r,hl,e⟩:=I.lstM fv;have hlen:its.toArray.size*k.toNat<=L3:=by rw[L5,<-hl];exact Fn
 have B:¬its.toArray.size*k.toNat > (2^63-1) / 8:=by
  have:(L3:Nat)<=(2^63-1) / 8:=by decide
  lia
 have G:¬(!Builtin.List.listFitsIndex k)=F2:=by rw[fitsIndex_both h1 h2];exact KW
 have j:¬Oz (its.toArray.size*k.toNat)=F2:=by rw[oM hlen];exact KW
 have J:Qu (λL O=>L++O) #[] (D1 (if its.toArray.isEmpty=F2 then 0 else k.toNat) its.toArray)=(D1 k.toNat its).flatten.toArray:=by
  have f0:∀m:Nat,Qu (λL O=>L++O) #[] (D1 m its.toArray)=(D1 m its).flatten.toArray:=λm=>by have:=gH its m [];rw[PN]at this;exact this
  rw[f0]
  cases its with
  |nil=>simp
  |cons a r'=>rw[if_neg (by simp)]
 refine Rr (T:="list") (U:="int") (by decide) ⟨_,e,rfl⟩ (λs'=>Sr s' k t) noFill_list_mul Vd QN repeat_list F.slot_int_index.lookup
  (Qv QN (Sr s k t) UB (Ue _ _) (int___rmul___int_list k t l its.toArray n)
    ⟨e,rfl,⟨_,e,rfl⟩,Qv F.slot_list_mul ⟨_,e,rfl⟩ F.entry_list_mul (F.args_list_mul_2 _ _) (AutoListH.list___mul___list_int_3 l its.toArray n k t G B j) ⟨e,?_⟩⟩)
 rw[J];exact⟨.ref _,_,I.lnew (t':=s.toks) (r.rep k.toNat) (by rw[rF,QY];exact Fn),rfl,q _ I.fresh⟩
end
end
end L2
namespace Att
open PySem PySem.W PySem.Calls PyProof.Rows
theorem jt{P:Params}{h:Heap}:∀(ns:List Int) (vs:List gV),WellAll P h vs (ns.map WData.int)->Vk vs ns:=by
 intro ns
 induction ns with
 |nil=>
  intro vs w;rw[OR]at w
  cases w
  exact .nil
 |cons n ns ih=>
  intro vs w;rw[Lc]at w
  cases w with
  |cons a b=>
   cases a
   exact .cons _ _ (ih _ b)
theorem vm{l:OpenLaw}{n:Nat}(O:l.most=Z n){P:Params}{h:Heap}{args:List WData}{vals:List gV}(j:l.row.toRowW.claim.pre args=F2)(G:WellAll P h vals args):
 ∃a vs ns,vals=[LB a]/\args=[WData.list (ns.map WData.int)]/\h.get? a=Z {cls:=.type "list",data:=.seq vs.toArray}/\Vk vs ns/\ns.length<=n:=by
 have J:WShape.hasAll [] args [.list .int]=F2:=(pre_splitW j).1;have L:l.pre.holds [] {args:=args}=F2:=(pre_splitW j).2;obtain⟨d,r,rfl,h1,h2⟩:=hasAllW_cons J;obtain rfl:=hasAllW_nil h2;obtain⟨xs,rfl,U⟩:=hasW_list h1;obtain⟨ns,rfl⟩:=items_int U;have hlen:ns.length<=n:=by
  unfold OpenLaw.pre at L;have B:(WTm.not (.lt (.lit (.int (n:Int))) (.len (.arg 0)))).holds [] {args:=[.list (ns.map .int)]}=F2:=by have B:=(holds_andW L).1;rw[O]at B;exact B
  have F:=condW_of B (w_not (w_lt w_lit (w_len_list (w_arg rfl))));rw[r0]at F;refine Nat.le_of_not_lt λq=>?_;have q':(n:Int)<((ns.length:Nat):Int):=∅
  first
   |(rw[decide_eq_true q']at F;exact absurd F (by decide))
   |(simp at F;lia)
 cases G with
 |cons Fn fv=>
  cases fv
  cases Fn with
  |list ho z=>exact⟨_,_,ns,rfl,rfl,ho,jt ns _ z,hlen⟩
theorem vp(l:OpenLaw)(args:List WData):l.row.toRowW.claim.post args (.bool F2) args=F2:=
 postW_of (r:=l.row.toRowW) (X:=(F2==F2))
  (show WShape.has [] (.bool F2) .bool=F2 by first|rfl|decide|simp[WShape.has,WShape.arms,WShape.armsAll])
  (show(WTm.eq .res (.lit (.bool F2))).value [] {args:=args,res:=Z (.bool F2),after:=args}=Z (.bool (F2==F2))from w_eq_bool (w_res rfl) w_lit) rfl
theorem attach_call {l:OpenLaw}{n:Nat}{q:Ln}{loose:List Str}{XP:(Str->Option gV)->Heap->Prop}{YP:LL->Heap->Prop}{d:DefRec}(fv:l.most=Z n)(B:d.params.defaults=[])(call:∀(w:LL) (s₀ s₁:q7) (mg mb:Str->Option gV) (fa:N2) (o:Obj) (pm cd doc:gV) (a:N2) (vs:List gV) (ns:List Int),
   Ground q loose [] XP w s₀ mg mb s₁.heap->YP w s₁.heap->
   s₁.heap.get? fa=Z o->o.data=.func (docDef d.name d.params d.body d.scope pm cd doc)->s₁.heap.CodeRec cd d.name->mg d.name=Z (.ref fa)->
   s₁.heap.get? a=Z {cls:=.type "list",data:=.seq vs.toArray}->Vk vs ns->ns.length<=n->s₁.gens=#[]->
   ON (model l.prog w) Tj (.call (.ref fa) ⟨[.ref a],[]⟩) (λr s'=>r=.ok (.ret (.bool F2))/\OldK s₁.heap s'.heap/\s'.os=s₁.os/\Ry s'.gens) s₁):
 WalkO q loose XP YP l.row.toRowW d [] (λf vs=>Vu f vs):=by
 intro w s₀ s₁ mg mb G Fn fa o pm cd doc dV kV ho hd F O J hg args vals as j U IG L IH;obtain rfl:dV=.none:=Dflts.none O B;obtain rfl:kV=.none:=Dflts.noKw O;obtain⟨a,vs,ns,rfl,rfl,z,hints,hlen⟩:=vm fv j L;refine enter_call (Oo (call w s₀ s₁ mg mb fa o pm cd doc a vs ns G Fn ho (fd_plain hd) F J z hints hlen hg) λr s' hq=>?_);obtain⟨rfl,h2,h3,h4⟩:=hq;exact⟨.inl ⟨.bool F2,.bool F2,[],rfl,λ_=>rfl,.bool F2,vp l _,λ_=>⟨RB,λ_ hm=>(nomatch hm)⟩⟩,h2,h3,h4⟩
section
variable{prog:Ln}{w:LL}{A:LQ}{E:gV->q7->Prop}{s:q7}{K:Frag}
noncomputable def Hw(h:Heap)(L d:N2):List (N2×Obj):=(z4 h.objs.size).filterMap λa=>if a=L∨a=d then Y else(h.get? a).map λo=>(a,o)
end
end Att
namespace L2
open PySem PySem.Spec PyProof.Rows
section
theorem lV:∀{vs:List gV} {ns:List Int},Vk vs ns->Vals (ns.map V.int) vs
 |_,_,.nil=>.nil
 |_,_,.cons n t h=>.cons ⟨t,rfl⟩ (lV h)
end
variable{x qual:Str}{st:Stmt}{f:N2}
section
noncomputable def cW(s:Stmt):P9:=match s with
 |.FunctionDef _ a _ _ _ _ _ _ _ _=>a
 |_=>{posonlyargs:=[],args:=[],vararg:=Y,kwonlyargs:=[],kw_defaults:=[],kwarg:=Y,defaults:=[]}
noncomputable def bu(s:Stmt):List Stmt:=match s with
 |.FunctionDef _ _ b _ _ _ _ _ _ _=>b
 |_=>[]
noncomputable def ao(s:Stmt):Scope:=match s with
 |.FunctionDef _ _ _ _ _ _ sc _ _ _=>sc
 |_=>{kind:=.function,names:=[],isGenerator:=Md,isCoroutine:=Md}
noncomputable abbrev CX0:CXT:=λ_ _ _ _ _ _=>False
noncomputable abbrev E0:XK:=λ_ _ _=>False
theorem tF{X:Cx}:jq CX0 X E0:=λ_ _ _ _ _ _ _ h=>h.elim
structure Fun(K:Frag)(x qual:Str)(st:Stmt)(f:N2)(fd:Nk):Prop where
 ex:∃(oc:gV) (od:Option N2) (kV doc pm:gV) (an:Option N2) (cdv ct:gV) (osl:Array (Option gV)),
  fd=NL x qual (cW st) (bu st) (ao st) .none kV doc pm an cdv ct/\K.lookup f=Z ⟨oc,od,.func fd,osl⟩/\Pk K cdv qual=F2
 kp:Oa K (.ref f)=F2
section
variable{P:Ln}{w:LL}{K:Frag}{mg:Str->Option gV}{base:Heap}
theorem Fun.ok {fd:Nk}{N ps:List Str}{k:Nat}{sp:Sp}(F:Fun K x qual st f fd)(S:cE N ps (ao st))(len:∀vs H Q E,sp vs H Q E->vs.length=ps.length)(j:∀(cdv:gV) (A:LQ) (outer:List Env) (s:q7) (H:Hp) (vs:List V) (Q:VK) (E:XK),Room k (A.deeper (Qs qual (ao st) s.heap.objs.size f cdv))->sp vs H Q E->
   ∃t,PSs (cA CX0 P w K mg base N qual (ao st) f cdv A outer s H E).nox (bu st) t/\t {nx:=λ_ H'=>Q .non H',rt:=Q} (bC N vs) H):FnOk P w K mg base CX0 (k+1) f fd ps sp:=by
 obtain⟨oc,od,kV,doc,pm,an,cdv,ct,osl,rfl,lk,z⟩:=F.ex;refine A0 lk z S len λA outer s H vs Q E G B=>?_;obtain⟨t,h,q⟩:=j cdv A outer s H vs Q E G B;exact⟨t,h.nox,q⟩
theorem Fun.binds{fd:Nk}{ps:List Str}(F:Fun K x qual st f fd)(h:∀(kV doc pm:gV) (an:Option N2) (cdv ct:gV) (us:List gV),us.length=ps.length->SW (NL x qual (cW st) (bu st) (ao st) .none kV doc pm an cdv ct) ⟨us,[]⟩=pure (ps.zip us)):Binds K fd ps []:=by obtain⟨oc,od,kV,doc,pm,an,cdv,ct,osl,rfl,lk,j⟩:=F.ex;exact .all (h kV doc pm an cdv ct)
theorem ai{oc:gV}{od an:Option N2}{osl:Array (Option gV)}{kV doc pm cdv ct:gV}(l:K.lookup f=Z ⟨oc,od,.func (NL x qual (cW st) (bu st) (ao st) .none kV doc pm an cdv ct),osl⟩)(c:Pk K cdv qual=F2)(k:Oa K (.ref f)=F2):Fun K x qual st f (NL x qual (cW st) (bu st) (ao st) .none kV doc pm an cdv ct):=⟨⟨oc,od,kV,doc,pm,an,cdv,ct,osl,rfl,l,c⟩,k⟩
end
end
end L2
namespace HT
open PySem PySem.Spec PyProof.Rows
section
variable{prog:Ln}{w:LL}{A:LQ}{E:gV->q7->Prop}{s:q7}
theorem getItem_tuple_whole{t sl:N2}{items:Array gV}{vl vu:gV}{lo hi:Option Int}{Q:gV->q7->Prop}(j:IsTup s.heap t items)(hs:s.heap.IsSliceOf sl vl vu .none)(pl:Sk vl lo)(pu:Sk vu hi)(hw:sIx items.size 0 lo=0/\sIx items.size items.size hi=items.size)(h:Q (.ref t) s):La (model prog w) A (RA (.ref t) (.ref sl)) Q E s:=by
 obtain⟨os,z,B,J⟩:=id hs;have F:s.TypeIs (.ref sl) "slice":=⟨os,z,B⟩;unfold RA
 try with_reducible refine Mj ?_
 first|refine g8 (z0 ?_)|skip
 refine g8 (Ud j.typeIs (by decide) ?_)
 refine g8 (LG (name:=Lw "__getitem__") j.typeIs NG
  (LR NG j.typeIs Tq ?_ (TY _ _)))
 show La _ _ (Rg (.ref t)>>=_) _ _ s;refine g8 (tupleItemsOf_ j ?_);refine g8 (OP F ?_);rw[if_pos (by decide)]
 refine g8 (dU hs pl pu ?_);have G:(((sIx items.size 0 lo:Nat):Int)==0&&(1:Int)==1&&(sIx items.size items.size hi-sIx items.size 0 lo)==items.size)=F2:=by rw[hw.1,hw.2];simp
 show La _ _ (if(((sIx items.size 0 lo:Nat):Int)==0&&(1:Int)==1&&(sIx items.size items.size hi-sIx items.size 0 lo)==items.size)=F2 then _ else _) _ _ s
 rw[if_pos G];refine g8 (m:=Rh (.ref t)) ?_;unfold Rh;refine g8 (OP j.typeIs (z0 ?_));show La _ _ (if F2=F2 then _ else _) _ _ s
 rw[if_pos rfl];exact g8 (Nt (z0 ⟨_,rfl,z0 h⟩))
end
end HT
namespace L2
open PySem PySem.Spec PyProof.Rows
section
section
variable{X:Cx}
noncomputable def Gi(K:Frag):V->Option Int->Option Int->Hp->VK->Prop:=λx lo hi H Q=>∃a xs,x=.ref a/\SqT K H a xs/\(HT.sIx xs.length 0 lo=0/\HT.sIx xs.length xs.length hi=xs.length)/\Q x H
theorem xZ:SlR X (Gi X.K):=by
 intro pins s σ H x v vl vu lo hi sl Q I rx hs pl pu h;obtain⟨a,xs,rfl,hx,hw,q⟩:=h
 cases rx
 obtain⟨its,r,j,z⟩:=I.tuple hx;have hlen:=r.length;refine⟨"tuple",_,slot_tuple_getitem.lookup,j.typeIs,?_⟩;refine HT.getItem_tuple_whole j hs pl pu (by rw[L5,<-hlen];exact hw) ⟨.ref a,H,I,rfl,q⟩
end
end
variable{u:gV}{y:V}{P:Ln}{w:LL}{H H':Hp}{kvs:List (List Key×V)}{xs:List (List Key×N2×gV)}{b a:N2}{h':Heap}{t':Nat}{X:Cx}{pins:List (N2×Obj)}{σ:St}{s:q7}
section
section
variable{κ:Type}[DecidableEq κ]
noncomputable def bW(kvs:List (κ×V))(k:κ):Option V:=(kvs.find? λkv=>decide (kv.1=k)).map (·.2)
noncomputable def cj(kvs:List (κ×V))(k:κ)(v:V):List (κ×V):=if(kvs.any λkv=>decide (kv.1=k))=F2 then kvs.map (λkv=>if kv.1=k then(kv.1,v)else kv)else kvs++[(k,v)]
theorem fS{p:κ×V}{r:List (κ×V)}{k:κ}(e:p.1=k):bW (p::r) k=Z p.2:=by simp[bW,N6,e]
theorem fT{p:κ×V}{r:List (κ×V)}{k:κ}(e:¬p.1=k):bW (p::r) k=bW r k:=by simp[bW,N6,e]
theorem oO(k:κ):∀kvs:List (κ×V),(kvs.any λkv=>decide (kv.1=k))=(bW kvs k).isSome
 |[]=>rfl
 |p::r=>by
  rw[Nr]
  by_cases e:p.1=k
  ·simp only[fS e,decide_eq_true e,Bool.true_or,TZ]
  ·rw[fT e,decide_eq_false e,QA];exact oO k r
theorem iM(kvs:List (κ×V))(k:κ)(v:V):(cj kvs k v).length<=kvs.length+1:=by
 unfold cj
 split
 ·rw[r0];lia
 ·rw[I7,Mf,ND];lia
theorem RelO.isSome_eq{o:Option V}{u:Option gV}(r:RelO o u):o.isSome=u.isSome:=by
 cases o with
 | none=>cases u with
   |none=>rfl
   |some _=>exact(show False from r).elim
 | some _=>cases u with
   |none=>exact(show False from r).elim
   |some _=>rfl
theorem RelO.getD{o:Option V}{u:Option gV}{d:V}{d':gV}(r:RelO o u)(rd:RelV d d'):RelV (o.getD d) (u.getD d'):=by
 cases o with
 | none=>cases u with
   |none=>exact rd
   |some _=>exact(show False from r).elim
 | some _=>cases u with
   |none=>exact(show False from r).elim
   |some _=>exact r
theorem KV.val{kvs:List (κ×V)}{vs:List (κ×gV)}(r:KV kvs vs)(k:κ):RelO (bW kvs k) (To vs k):=by
 unfold KV at r
 induction r with
 |nil=>exact Pj
 |@cons p q ps qs h t ih=>
  obtain⟨h1,h2⟩:=h
  by_cases e:p.1=k
  ·have e':q.1=k:=h1.symm.trans e;have b:To (q::qs) k=Z q.2:=by simp[To,N6,e']
   rw[fS e,b];exact h2
  ·have e':¬q.1=k:=λz=>e (h1.trans z);have b:To (q::qs) k=To qs k:=by simp[To,N6,e']
   rw[fT e,b];exact ih
theorem KV.any{kvs:List (κ×V)}{vs:List (κ×gV)}(r:KV kvs vs)(k:κ):(kvs.any λkv=>decide (kv.1=k))=vs.any λkv=>decide (kv.1=k):=by
 unfold KV at r
 induction r with
 |nil=>rfl
 |cons h t ih=>rw[Nr,Nr,ih,h.1]
theorem KV.repl{kvs:List (κ×V)}{vs:List (κ×gV)}(r:KV kvs vs)(k:κ)(ry:RelV y u):
 KV (kvs.map λkv=>if kv.1=k then(kv.1,y)else kv) (vs.map λkv=>if kv.1=k then(kv.1,u)else kv):=by
 unfold KV at r⊢
 induction r with
 |nil=>exact .nil
 |@cons p q ps qs h t ih=>
  rw[Lc,Lc];refine .cons ?_ ih;obtain⟨h1,h2⟩:=h
  by_cases e:p.1=k
  ·rw[if_pos e,if_pos (h1.symm.trans e)];exact⟨h1,ry⟩
  ·rw[if_neg e,if_neg (λz=>e (h1.trans z))];exact⟨h1,h2⟩
theorem KV.put{kvs:List (κ×V)}{vs:List (κ×gV)}(r:KV kvs vs)(k:κ)(ry:RelV y u):KV (cj kvs k y) (stored vs k u):=by
 unfold cj stored;rw[r.any k]
 by_cases e:(vs.any λkv=>decide (kv.1=k))=F2
 ·rw[if_pos e,if_pos e];exact r.repl k ry
 ·rw[if_neg e,if_neg e];exact Paired.snoc r ⟨rfl,ry⟩
theorem KV.length{kvs:List (κ×V)}{vs:List (κ×gV)}(r:KV kvs vs):kvs.length=vs.length:=Pz r
end
theorem ju{k:Key}(r:RelV (kV k) u):(aU P w).is k u=F2:=by
 cases k with
 |inl i=>obtain⟨t,e⟩:=(show ∃t,u=Uy i t from r);subst e;exact qU P w i t
 |inr x=>obtain⟨t,e⟩:=(show ∃t,u=Uz x t from r);subst e;exact qV P w x t
theorem lW{P:Ln}{w:LL}:∀{ks:List Key} {us:List gV},Vals (ks.map kV) us->ItemsAre (aU P w) ks us
 |[],_,r=>by rw[OR]at r;cases r;exact .nil
 |k::ks,_,r=>by
  rw[Lc]at r
  cases r with
  |cons h t=>exact .cons (ju h) (lW t)
noncomputable abbrev KT(H:Hp):List (List Key×V)->List (List Key×N2×gV)->Prop:=MK λp q=>p.1=q.1/\H q.2.1=Z (.tup (p.1.map kV))/\RelV p.2 q.2.2
theorem KT.val(r:KT H kvs xs)(k:List Key):RelO (bW kvs k) ((V3 xs k).map (·.2)):=by
 induction r with
 |nil=>exact Pj
 |@cons p q ps qs h t ih=>
  obtain⟨h1,_,h2⟩:=h
  by_cases e:p.1=k
  ·have e':q.1=k:=h1.symm.trans e;have b:V3 (q::qs) k=Z q.2:=by simp[V3,N6,e']
   rw[fS e,b];exact h2
  ·have e':¬q.1=k:=λz=>e (h1.trans z);have b:V3 (q::qs) k=V3 qs k:=by simp[V3,N6,e']
   rw[fT e,b];exact ih
theorem KT.repl(r:KT H kvs xs)(k:List Key)(ry:RelV y u):
 KT H (kvs.map λkv=>if kv.1=k then(kv.1,y)else kv) (xs.map (putAt k u)):=by
 induction r with
 |nil=>exact .nil
 |@cons p q ps qs h t ih=>
  rw[Lc,Lc];refine .cons ?_ ih;obtain⟨h1,h2,j⟩:=h;unfold putAt
  by_cases e:p.1=k
  ·rw[if_pos e,if_pos (h1.symm.trans e)];exact⟨h1,h2,ry⟩
  ·rw[if_neg e,if_neg (λz=>e (h1.trans z))];exact⟨h1,h2,j⟩
theorem KT.put(r:KT H kvs xs)(k:List Key)(j:H b=Z (.tup (k.map kV)))(ry:RelV y u):
 KT H (cj kvs k y) (storedH xs k b u):=by
 have e:(kvs.any λkv=>decide (kv.1=k))=(V3 xs k).isSome:=by rw[oO,(r.val k).isSome_eq,Ug]
 unfold cj storedH;rw[e]
 by_cases q:(V3 xs k).isSome=F2
 ·rw[if_pos q,if_pos q];exact r.repl k ry
 ·rw[if_neg q,if_neg q];exact Paired.snoc r ⟨rfl,j,ry⟩
theorem KT.keeps(r:KT H kvs xs)(j:∀b ys,H b=Z (.tup ys)->H' b=Z (.tup ys)):KT H' kvs xs:=VS r λ_ _ z=>⟨z.1,j _ _ z.2.1,z.2.2⟩
section
variable{P:Ln}{w:LL}{H:Hp}{h:Heap}{a:N2}
theorem A6{u:HO}(ok:HOk P w H h)(e:Rd H a u):ObjOk P w H h a u:=e.ok ok
theorem jv{kvs:List (Key×V)}(ok:HOk P w H h)(e:Rd H a (.dK kvs)):kvs.length<=L3/\(a==N9)=Md/\∃vs,KV kvs vs/\h.DictOf (aU P w) a vs:=show ObjOk P w H h a (.dK kvs)from A6 ok e
theorem ER{kvs:List (Key×V)}(ok:HOk P w H h)(e:H a=Z (.dK kvs)):kvs.length<=L3/\(a==N9)=Md/\∃vs,KV kvs vs/\h.DictOf (aU P w) a vs:=jv ok (.inl e)
theorem gI{ks:List Key}(ok:HOk P w H h)(e:H a=Z (.tup (ks.map kV))):(R8 (aU P w)).is h ks a:=by obtain⟨_,its,r,o,h1,h2,n,j⟩:=(show ObjOk P w H h a (.tup (ks.map kV))from ok a _ e);exact⟨o,its.toArray,n,h1,h2,j,by simpa using lW r⟩
theorem jw(ok:HOk P w H h)(e:Rd H a (.dT kvs)):kvs.length<=L3/\(a==N9)=Md /\
 ∃xs,KT H kvs xs/\h.DictOfH (R8 (aU P w)) a xs:=by
 obtain⟨z,y,xs,r,o,es,ep,h1,h2,j,B,F⟩:=(show ObjOk P w H h a (.dT kvs)from A6 ok e);refine⟨z,y,xs,r,o,es,ep,h1,h2,j,B,λx hx=>?_,F⟩;have all:∀{l:List (List Key×V)} {m:List (List Key×N2×gV)},KT H l m->∀x∈m,(R8 (aU P w)).is h x.1 x.2.1:=by
  intro l m q
  induction q with
  |nil=>intro x hx;exact nomatch hx
  |@cons p q ps qs hq t ih=>
   intro x hx
   rcases KZ.mp hx with e|hx
   ·subst e;exact gI ok (by rw[<-hq.1];exact hq.2.1)
   ·exact ih x hx
 exact all r x hx
theorem ES(ok:HOk P w H h)(e:H a=Z (.dT kvs)):kvs.length<=L3/\(a==N9)=Md /\
 ∃xs,KT H kvs xs/\h.DictOfH (R8 (aU P w)) a xs:=jw ok (.inl e)
end
def DGet(H:Hp)(a:N2)(y:V)(r:Option V):Prop:=(∃kvs k,Rd H a (.dK kvs)/\y=kV k/\r=bW kvs k)∨∃kvs k b,Rd H a (.dT kvs)/\y=.ref b/\H b=Z (.tup (k.map kV))/\r=bW kvs k
def DPut(H:Hp)(a:N2)(y v:V)(H':Hp):Prop:=
 (∃kvs k,H a=Z (.dK kvs)/\y=kV k/\kvs.length<L3/\H'=upd H a (.dK (cj kvs k v))) ∨
 ∃kvs k b,H a=Z (.dT kvs)/\y=.ref b/\H b=Z (.tup (k.map kV))/\kvs.length<L3/\H'=upd H a (.dT (cj kvs k v))
theorem DGet.k{kvs:List (Key×V)}{k:Key}(e:H a=Z (.dK kvs)):DGet H a (kV k) (bW kvs k):=.inl ⟨kvs,k,.inl e,rfl,rfl⟩
theorem DPut.k{kvs:List (Key×V)}{k:Key}{v:V}(e:H a=Z (.dK kvs))(j:kvs.length<L3):DPut H a (kV k) v (upd H a (.dK (cj kvs k v))):=.inl ⟨kvs,k,e,rfl,j,rfl⟩
theorem DPut.t{k:List Key}{v:V}(e:H a=Z (.dT kvs))(eb:H b=Z (.tup (k.map kV)))(j:kvs.length<L3):DPut H a (.ref b) v (upd H a (.dT (cj kvs k v))):=.inr ⟨kvs,k,b,e,rfl,eb,j,rfl⟩
section
variable{X:Cx}{pins:List (N2×Obj)}{σ:St}{H:Hp}{s:q7}{a:N2}{y v:V}{u r:gV}{o:Option V}{A:LQ}{E:gV->q7->Prop}
theorem Inv.big(I:Inv X pins σ H s):N9<s.heap.objs.size:=by have h:MB<s.heap.objs.size:=(I.mod.glob.keeps I.bk).lt;exact Nat.lt_trans (by decide) h
theorem vq{Q:gV->q7->Prop}(B:A.units+1<Om)(I:Inv X pins σ H s)(g:DGet H a y (Z v))(ry:RelV y u)(h:∀w' s',Inv X pins σ H s'->RelV v w'->Q w' s'):
 La (model X.prog X.w) A (RA (.ref a) u) Q E s:=by
 rcases g with⟨kvs,k,e,ey,l⟩|⟨kvs,k,b,e,ey,eb,l⟩
 ·subst ey;obtain⟨z,hd,vs,rel,dd⟩:=jv I.hok e;obtain⟨w',hw,rw'⟩:=W1 (v:=v) (o:=To vs k) (by rw[l];exact rel.val k)
  exact wpAny_getItem_of (ju ry) dd.mapOf hw (h w' _ (I.tok _) rw')
 ·subst ey
  cases(show u=LB b from ry)
  obtain⟨z,hd,xs,rel,dd⟩:=jw I.hok e;obtain⟨w',hw,rw'⟩:=W1 (v:=v) (o:=(V3 xs k).map (·.2)) (by rw[l];exact rel.val k)
  obtain⟨p,F,j⟩:=Ss.mp hw;refine wpAny_getItem_heap (PU B) (gI I.hok eb) dd F ?_;rw[j];exact h w' _ (I.tok _) rw'
theorem AL{Q:gV->q7->Prop}(j:A.units+1<Om)(I:Inv X pins σ H s)(g:DGet H a y o)(ry:RelV y u)(h:∀s',Inv X pins σ H s'->Q (.bool (!o.isSome)) s'):
 La (model X.prog X.w) A (NB .NotIn u (.ref a)) Q E s:=by
 rcases g with⟨kvs,k,e,ey,l⟩|⟨kvs,k,b,e,ey,eb,l⟩
 ·subst ey;obtain⟨z,hd,vs,rel,dd⟩:=jv I.hok e;refine wpAny_notIn_of (ju ry) hd dd.mapOf ?_;rw[<-(rel.val k).isSome_eq,<-l];exact h _ (I.tok _)
 ·subst ey
  cases(show u=LB b from ry)
  obtain⟨z,hd,xs,rel,dd⟩:=jw I.hok e;refine wpAny_notIn_heap (PU j) (gI I.hok eb) hd dd ?_;have q:=(rel.val k).isSome_eq;rw[Ug]at q;rw[<-q,<-l];exact h _ (I.tok _)
theorem rG{ob:HO}(I:Inv X pins σ H s)(mu:Mut (H a))(hs:MY a s.heap h')(he:∃q,h'.get? a=Z q)(new:ObjOk X.prog X.w (upd H a ob) h' a ob):
 Inv X pins σ (upd H a ob) {s with heap:=h',toks:=t'}:=
 I.write (x:=a) (e:=a) mu (.inl rfl) (λb q j z=>(hs.2 b j).trans z) he new
theorem D3{kvs:List (Key×V)}{vs:List (Key×gV)}(z:kvs.length<=L3)(hd:(a==N9)=Md)(rel:KV kvs vs)(dd:h'.DictOf (aU P w) a vs):ObjOk P w H' h' a (.dK kvs):=⟨z,hd,vs,rel,dd⟩
theorem vt{Q:Unit->q7->Prop}(G:A.units+1<Om)(I:Inv X pins σ H s)(g:DPut H a y v H')(ry:RelV y u)(rv:RelV v r)(h:∀s',Inv X pins σ H' s'->Q () s'):
 La (model X.prog X.w) A (Th (.ref a) u r) Q E s:=by
 rcases g with⟨kvs,k,e,ey,l,eH⟩|⟨kvs,k,b,e,ey,eb,l,eH⟩
 ·subst ey eH;obtain⟨z,hd,vs,rel,dd⟩:=ER I.hok e;have B:vs.length<=L3:=by rw[<-rel.length];exact z
  have F:(cj kvs k v).length<=L3:=by have:=iM kvs k v;lia
  refine wpAny_setItem_pairs (hsz:=B) (ju ry) dd λh' dd' hs=>h _ ?_;have he:∃q,h'.get? a=Z q:=let⟨q,_,_,j,_⟩:=dd'; ⟨q,j⟩;exact rG I (by rw[e];exact Pj) hs he (D3 F hd (rel.put k rv) dd')
 ·subst ey eH
  cases(show u=LB b from ry)
  obtain⟨z,hd,xs,rel,dd⟩:=ES I.hok e;have B:xs.length<=L3:=by rw[<-Pz rel];exact z
  have F:(cj kvs k v).length<=L3:=by have:=iM kvs k v;lia
  refine wpAny_setItem_heap (hsz:=B) (PU G) (gI I.hok eb) dd λh' dd' hs=>h _ ?_;obtain⟨q,es,ep,j,h2,J,L,_,O⟩:=dd';refine rG I (by rw[e];exact Pj) hs ⟨q,j⟩ ⟨F,hd,_,(rel.put k eb rv).keeps λc ys ec=>?_,q,es,ep,j,h2,J,L,O⟩
  rw[am (Ey ec e (λz=>nomatch z))];exact ec
end
theorem y3(h:Heap)(j:N9<h.objs.size):ObjOk P w H (h.push {cls:=.type "dict",data:=.dict #[]}) h.objs.size (.dK []):=⟨NF _,beq_eq_false_iff_ne.mpr (Ne.symm (Lr j)),[],.nil,Heap.DictOf.new h⟩
theorem y4(h:Heap)(j:N9<h.objs.size):ObjOk P w H (h.push {cls:=.type "dict",data:=.dict #[]}) h.objs.size (.dT []):=⟨NF _,beq_eq_false_iff_ne.mpr (Ne.symm (Lr j)),[],.nil,_,#[],0,KY _ rfl,⟨rfl,rfl,rfl⟩,rfl,rfl,List.nodup_nil⟩
noncomputable def D4:TE:=λ_ H Q=>∀p,H p=Y->Q (.ref p) (upd H p (.dK []))
noncomputable def D5:TE:=λ_ H Q=>∀p,H p=Y->Q (.ref p) (upd H p (.dT []))
section
variable{X:Cx}{pos:Pos}
theorem y7:PE X (.Dict [] [] pos) D4:=λpins s σ H Q I h=>UC ⟨.ref s.heap.objs.size,_,I.laid (a:=s.heap.objs.size) (o:=.dK []) (t':=s.toks) (λ_ _ q=>i0 _ q) (Le _) (y3 s.heap I.big),rfl,h _ (I.hok.fresh (Le _))⟩
theorem y8:PE X (.Dict [] [] pos) D5:=λpins s σ H Q I h=>UC ⟨.ref s.heap.objs.size,_,I.laid (a:=s.heap.objs.size) (o:=.dT []) (t':=s.toks) (λ_ _ q=>i0 _ q) (Le _) (y4 s.heap I.big),rfl,h _ (I.hok.fresh (Le _))⟩
end
structure M2(X:Cx)(o:Expr)(m:Str)(apos:Pos)(e f:Expr)(cpos:Pos):Prop where
 base:RH o m X.env (eval o X.env)=eval o X.env
 few:((OL cpos (Ll [e,f] X.env)).all (λx=>!x.1)&&(Vt cpos (T2 [] X.env)).all (λx=>x.1.isSome)
  && decide (([e,f]:List Expr).length+([]:List QX).length+(if([]:List QX).isEmpty then 0 else 1)<30))=F2
 line:(apos.endLine==cpos.line)=F2
 trees:OL cpos (Ll [e,f] X.env)=[(Md,eval e X.env),(Md,eval f X.env)]
def IsD(H:Hp)(a:N2):Prop:=(∃kvs,Rd H a (.dK kvs))∨∃kvs,Rd H a (.dT kvs)
theorem jx(I:Inv X pins σ H s)(d:IsD H a):
 s.TypeIs (.ref a) "dict"/\(∀b,LB a=.ref b->∃ob,s.heap.get? b=Z ob/\ob.dict=Y)/\(a==N9)=Md:=by
 rcases d with⟨kvs,e⟩|⟨kvs,e⟩
 ·obtain⟨_,hd,vs,_,dd⟩:=jv I.hok e;refine⟨dd.typeIs,λb q=>?_,hd⟩
  cases q
  obtain⟨ob,_,_,h1,h2,_⟩:=dd;exact⟨ob,h1,h2.2.1⟩
 ·obtain⟨_,hd,xs,_,dd⟩:=jw I.hok e;refine⟨dd.typeIs,λb q=>?_,hd⟩
  cases q
  obtain⟨ob,_,_,h1,h2,_⟩:=dd;exact⟨ob,h1,h2.2.1⟩
section
variable{X:Cx}{pins:List (N2×Obj)}{σ:St}{H:Hp}{s:q7}{a:N2}{y d:V}{u r:gV}{o:Option V}{A:LQ}{E:gV->q7->Prop}
theorem D6{Q:gV->q7->Prop}(j:A.units+1<Om)(I:Inv X pins σ H s)(g:DGet H a y o)(ry:RelV y u)(rd:RelV d r)(h:∀w' s',Inv X pins σ H s'->RelV (o.getD d) w'->Q w' s'):
 La (model X.prog X.w) A (call (.builtin "dict.get") [.ref a,u,r]) Q E s:=by
 rcases g with⟨kvs,k,e,ey,l⟩|⟨kvs,k,b,e,ey,eb,l⟩
 ·subst ey;obtain⟨z,hd,vs,rel,dd⟩:=jv I.hok e;refine call_meetsIn Qr dd.typeIs Su (S0 _ _ _) (meets_dict_get_default (aU X.prog X.w) a (ju ry) hd r) ⟨_,dd.mapOf,h _ _ (I.tok _) ?_⟩;rw[l];exact(rel.val k).getD rd
 ·subst ey
  cases(show u=LB b from ry)
  obtain⟨z,hd,xs,rel,dd⟩:=jw I.hok e;refine call_meetsIn Qr dd.typeIs Su (S0 _ _ _) (meetsH_dict_get_default (R8 (aU X.prog X.w)) a b hd r) ⟨PU j,k,xs,gI I.hok eb,dd,h _ _ (I.tok _) ?_⟩;rw[l];exact(rel.val k).getD rd
end
noncomputable def D7(td ty tx:TE):TE:=λσ H Q=>td σ H λx H1=>∃a,x=.ref a/\IsD H1 a/\ty σ H1 λy H2=>tx σ H2 λz H3=>∃o,DGet H3 a y o/\Q (o.getD z) H3
section
variable{X:Cx}{o e f:Expr}{apos cpos:Pos}{td ty tx:TE}
theorem y9(B:X.A.units+1<Om)(ho:PE X o td)(he:PE X e ty)(hf:PE X f tx)(m:M2 X o "get" apos e f cpos):PE X (.Call (.Attribute o "get" apos) [e,f] [] cpos) (D7 td ty tx):=by
 intro pins s σ H Q I h;refine wpAny_Call_method m.base m.few m.line PySem.F.plainAttrs_dict Qr PySem.F.type_dict_get (thn (ho pins s σ H _ I h) λu s1 G=>?_);obtain⟨x,H1,j,rx,a,ex,d,J⟩:=G;subst ex;obtain rfl:u=LB a:=rx;obtain⟨t1,L,_⟩:=jx j d;refine⟨t1,L,?_⟩;rw[m.trees];refine Qe rfl (QG (OM (thn (he pins s1 σ H1 _ j J) λiv s2 ⟨y,H2,O,ry,U⟩=>OM (thn (hf pins s2 σ H2 _ O U) λfv s3 ⟨z,Fn,fv,rz,ov,g,q3⟩=>Qb ?_))))
 exact D6 B fv g ry rz λw' s4 I4 rw'=>⟨_,Fn,I4,rw',q3⟩
end
end
variable{d:Nat}{ifs:List Expr}{elt target iter:Expr}{gens:List Ms}{scope:Scope}{pos pos':Pos}{acc:gV}{g:TG}{env:Env}{A:LQ}{wi:TI}{x:Str}
section
noncomputable def bj(elt:Expr)(gens:List Ms)(scope:Scope)(pos:Pos)(d:Nat)(acc:gV)(env:Env)(k:Sem Fin):Sem Fin:=
 match gens[d+1]? with
 |some g'=>eval g'.iter env>>=fun x=>Rz g'.iter.pos>>=fun _=>NP g'.iter env x>>=fun x=>holding [x] (SU x)>>=fun it'=>runOwn (.compStart (.ListComp elt gens scope pos) (d+1) it' acc env) env>>=λ_=>k
 |none=>(eval elt env>>=λx=>call (.builtin "list.append") [acc,x]>>=λ_=>pure ())>>=λ_=>k
noncomputable def bv(ifs:List Expr)(env:Env):Sem Bool:=forIn ifs F2 λc r=>if r=F2 then do let ok <-isTrue c env (eval c env);pure (OY ok)else pure (OY r)
theorem oP(elt target iter:Expr)(ifs:List Expr)(gens:List Ms)(scope:Scope)(pos:Pos)(d:Nat)(it acc:gV)(env:Env)(hd:gens[d]?=Z ⟨target,iter,ifs,0⟩)(j:∀g',gens[d+1]?=Z g'->g'.is_async=0):
 compTurn (.ListComp elt gens scope pos) d it acc env=(Rz iter.pos>>=λ_=>O9 it>>=λr=>match r with
  |none=>pure (.done .next)
  |some v=>QL target it v>>=fun _=>assign target env v>>=fun _=>bv ifs env>>=fun ok=>(if ok=F2 then bj elt gens scope pos d acc env (again (.compLoop (.ListComp elt gens scope pos) d it acc env))else again (.compLoop (.ListComp elt gens scope pos) d it acc env))):=by
 unfold compTurn;simp only[hd];unfold bj bv
 cases hn:gens[d+1]? with
 |none=>rfl
 |some g'=>obtain⟨t',i',f',a'⟩:=g';have e:a'=0:=j _ hn;subst e;rfl
noncomputable abbrev TC:=St->Hp->(St->Hp->Prop)->Prop
def cJ(J:It)(g:TG)(tb:TC)(N:St->Hp->Prop)(σ:St)(H:Hp):Prop:=
 ∃W:Nat->Nat->St->Hp->Prop,(∃m,W 0 m σ H)/\∀i m σ H,W i m σ H->
  (J.stop i H/\N σ H)∨(J.go i H/\∃N':St->Hp->Prop,(∀σ' H',N' σ' H'->∃m',m'<m/\W (i+1) m' σ' H')/\∀x H',J.yld i H x H'->g x σ H' λσ2 H2=>tb σ2 H2 N')
def PB(X:Cx)(F:Sem Fin->Sem Fin)(t:TC):Prop:=
 ∀(pins:List (N2×Obj)) (s:q7) (σ:St) (H:Hp) (N:St->Hp->Prop) (k:Sem Fin) (Q:Fin->q7->Prop) (E:gV->q7->Prop),Inv X pins σ H s->t σ H N->
  (∀s' σ' H',Inv X pins σ' H' s'->N σ' H'->La (model X.prog X.w) X.A k Q E s')->La (model X.prog X.w) X.A (F k) Q E s
section
variable{X:Cx}
theorem nox{α:Type}{m:Sem α}{Q:α->q7->Prop}{E:gV->q7->Prop}(hx:∀e s,X.xe e s->False)(h:La (model X.prog X.w) X.A m Q X.xe s):La (model X.prog X.w) X.A m Q E s:=Mz h (λ_ _ q=>q) λe s' q=>(hx e s' q).elim
noncomputable def jy(ts:List TT)(tb:TC):TC:=match ts with
 |[]=>tb
 |t::r=>λσ H N=>t σ H λb H1=>if b=F2 then jy r tb σ H1 N else N σ H1
theorem jz{env:Env}{M:Q9}{A:LQ}{Q:Bool->q7->Prop}{E:gV->q7->Prop}{s:q7}(h:Q Md s):∀ifs:List Expr,
 La M A (forIn ifs Md λc r=>if r=F2 then do let ok <-isTrue c env (eval c env);pure (OY ok)else pure (OY r)) Q E s
 |[]=>z0 h
 |c::r=>by rw[OZ];simp only[N3,if_false];exact g8 (z0 (jz h r))
theorem oQ(hx:∀e s,X.xe e s->False){tb:TC}{N:St->Hp->Prop}:∀{ifs:List Expr} {ts:List TT},MK (λc t=>PT X c t) ifs ts->
 ∀(pins:List (N2×Obj)) (s:q7) (σ:St) (H:Hp) (E:gV->q7->Prop),Inv X pins σ H s->jy ts tb σ H N->
 La (model X.prog X.w) X.A (bv ifs X.env) (λok s'=>∃H',Inv X pins σ H' s'/\if ok=F2 then tb σ H' N else N σ H') E s
 |_,_,.nil=>λpins s σ H E I h=>z0 ⟨H,I,by rw[if_pos rfl];exact h⟩
 |c::ifs,_,.cons (b:=t) B hr=>by
  intro pins s σ H E I h;have ih:=oQ hx hr (tb:=tb) (N:=N) pins;unfold bv at ih⊢;rw[OZ];simp only[if_true];refine g8 (g8 (nox hx (thn (B pins s σ H _ I h) λb s1 F=>?_)));obtain⟨H1,z,j⟩:=F;refine z0 ?_
  cases b with
  |false=>rw[if_neg KW]at j;exact jz ⟨H1,z,by rw[if_neg KW];exact j⟩ ifs
  |true=>rw[if_pos rfl]at j;exact ih s1 σ H1 E z j
theorem ya(hx:∀e s,X.xe e s->False){F:Sem Fin->Sem Fin}{tb:TC}(B:PB X F tb){ts:List TT}(G:MK (λc t=>PT X c t) ifs ts):
 PB X (λk=>bv ifs X.env>>=λok=>if ok=F2 then F k else k) (jy ts tb):=by
 intro pins s σ H N k Q E I h hk;refine g8 (thn (oQ hx G pins s σ H E I h) λok s1 J=>?_);obtain⟨H1,z,j⟩:=J
 cases ok with
 |false=>rw[if_neg KW]at j⊢;exact hk s1 σ H1 z j
 |true=>rw[if_pos rfl]at j⊢;exact B pins s1 σ H1 N k Q E z j hk
noncomputable def A7(p:N2)(te:TE):TC:=λσ H N=>te σ H λx H1=>∃xs,H1 p=Z (.lst xs)/\xs.length<L3/\N σ (upd H1 p (.lst (xs++[x])))
theorem kK(hx:∀e s,X.xe e s->False){p:N2}{te:TE}(he:PE X elt te)(hd:gens[d+1]?=Y):
 PB X (bj elt gens scope pos d (.ref p) X.env) (A7 p te):=by
 intro pins s σ H N k Q E I h z;unfold bj;rw[hd];refine g8 (g8 (nox hx (thn (he pins s σ H _ I h) λu s1 j=>?_)));obtain⟨x,H1,B,F,xs,e1,l1,G⟩:=j;refine g8 (nox hx (thn (lU (X:=X) pins s1 σ H1 (.ref p) [x] (.ref p) [u] (λ_ H2=>N σ H2) B rfl (.cons F .nil) ⟨p,xs,x,rfl,rfl,e1,l1,G⟩) λv s2 j=>?_));obtain⟨_,H2,J,_,L⟩:=j;exact z0 (z s2 σ H2 J L)
theorem lZ(hx:∀e s,X.xe e s->False)(hc:X.calm=F2)(hd:gens[d]?=Z ⟨target,iter,ifs,0⟩)(ha:∀g',gens[d+1]?=Z g'->g'.is_async=0)(hg:PG X target g){tb:TC}(j:PB X (λk=>bv ifs X.env>>=λok=>if ok=F2 then bj elt gens scope pos d acc X.env k else k) tb){N:St->Hp->Prop}{it:N2}{fp:List N2}{tn:Nat->Heap->Prop}{J:It}(I:Inv X pins σ H s)(T:iX X.prog X.w X.K target J fp it tn)(t0:tn 0 s.heap)(f2:∀b∈fp,cH X pins H b)(h:cJ J g tb N σ H):
 ON (model X.prog X.w) X.A (.compLoop (.ListComp elt gens scope pos) d (.ref it) acc X.env) (λr s'=>match r with|.ok _=>∃σ' H',Inv X pins σ' H' s'/\N σ' H'|.error _=>False) s:=by
 obtain⟨W,⟨m0,w0⟩,turn⟩:=h;have stat:∀{H':Hp},(∀b∈fp,H' b=Y)->∀b∈fp,cH X pins H' b:=λhn b j=>⟨hn b j,(f2 b j).2⟩;refine codeAny_loop rfl (λn s'=>∃i σ' H',Inv X pins σ' H' s'/\tn i s'.heap/\(∀b∈fp,H' b=Y)/\W i n σ' H') ?_ m0 ⟨0,σ,H,I,t0,λb j=>(f2 b j).1,w0⟩;rintro n s3 ⟨i,σ3,L,I3,F,G,w3⟩;show La _ _ ((compTurn (.ListComp elt gens scope pos) d (.ref it) acc X.env).onRaise (λx=>do noteFrame x X.env;theTreesLotGoes x)) _ _ s3
 refine wpAny_noted ?_;rw[oP elt target iter ifs gens scope pos d (.ref it) acc X.env hd ha];refine g8 (Ov (g8 ?_));show La (model X.prog X.w) X.A _ _ _ s3
 rcases turn i n σ3 L w3 with⟨stop,qn⟩|⟨go,N',hN,step⟩
 ·refine thn (T.done X rfl rfl rfl hc i pins s3 σ3 L _ I3 (stat G) F stop) λr s4 z=>?_;obtain⟨O,I4⟩:=z;subst O;exact z0 ⟨σ3,L,I4,qn⟩
 ·refine thn (T.item X rfl rfl rfl hc i pins s3 σ3 L _ I3 (stat G) F go) λr s4 z=>?_;obtain⟨u,O,h4⟩:=z;subst O;refine g8 (thn h4 λ_ s5 z=>?_);obtain⟨x,H5,I5,r5,y5,B,U⟩:=z;have Fn:=I5.pinned (stat U) (T.obj _ _ B);refine g8 (nox hx (thn (hg _ s5 σ3 H5 x u _ Fn r5 (step x H5 y5)) λ_ s6 z=>?_));obtain⟨σ6,H6,I6,q6⟩:=z;refine j _ s6 σ6 H6 N' (again (.compLoop (.ListComp elt gens scope pos) d (.ref it) acc X.env)) _ _ I6 q6 λs7 σ7 H7 fv n7=>?_;obtain⟨m',hm,w7⟩:=hN σ7 H7 n7;refine z0 ⟨rfl,m',hm,i+1,σ7,H7,fv.unpinned,T.keep _ _ _ B λb j o e=>(fv.pin (b,o) (Lo _ (Lo _ (dA j e)))).1,λb j=>?_,w7⟩;obtain⟨o,e,dd⟩:=T.obj _ _ B b j;exact(fv.pin (b,o) (Lo _ (Lo _ (dA j e)))).2.1
theorem jA {it:gV}{prog:Ln}{R:Vp->q7->Prop}(hd:gens[d]?=Z ⟨target,iter,ifs,0⟩)(h0:ON (model prog w) A (.compLoop (.ListComp elt gens scope pos) d it acc env) R s)(h:La (model prog w) A (SU it) (fun it' s'=>ON (model prog w) A (.compLoop (.ListComp elt gens scope pos) d it' acc env) R s')
   (notedBy (model prog w) A env λx s'=>R (.error x) s') s):
 ON (model prog w) A (.compStart (.ListComp elt gens scope pos) d it acc env) R s:=by
 refine codeAny_of_tree ?_;show La _ _ ((compStart (.ListComp elt gens scope pos) d it acc env).onRaise (λx=>do noteFrame x env;Rz theWindowsPlace)) _ _ s
 refine wpAny_notedAt ?_;unfold compStart;have j:(clausesOf (.ListComp elt gens scope pos))[d]?=Z ⟨target,iter,ifs,0⟩:=hd;rw[j];show La _ _ (ask>>=_) _ _ s;refine g8 (wpAny_askSetting (wpAny_ite ?_))
 split
 ·first
   |exact g8 (z0 (z0 (Pa rfl h0)))
   |exact z0 (Pa rfl h0)
 ·first
   |exact g8 (Nt (g8 (Ov (g8 (Mz h (λit' s' h'=>z0 (Pa rfl h')) λ_ _ x=>x)))))
   |(refine g8 (Nt ?_);show La _ _ (Rz iter.pos>>=_) _ _ s;exact g8 (Ov (g8 (Mz h (λit' s' h'=>z0 (Pa rfl h')) λ_ _ x=>x))))
theorem m8(hx:∀e s,X.xe e s->False)(B:X.calm=F2)(hd:gens[d+1]?=Z ⟨target,iter,ifs,0⟩)(F:∀g',gens[d+1+1]?=Z g'->g'.is_async=0)(hi:PI X target iter wi)(G:PG X target g){tb:TC}(L:PB X (λk=>bv ifs X.env>>=λok=>if ok=F2 then bj elt gens scope pos (d+1) acc X.env k else k) tb)(hs:∀x,NP iter X.env x=pure x):
 PB X (bj elt gens scope pos d acc X.env) (λσ H N=>wi σ H λJ H1=>cJ J g tb N σ H1):=by
 intro pins s σ H N k Q E I h hk;unfold bj;rw[hd];refine g8 (nox hx (thn (hi pins s σ H _ I h) λv s1 h1=>?_));refine g8 (Ov (g8 (Oq (hs v) ?_)));refine g8 (Mj (nox hx (thn h1 λitv s2 h2=>?_)));obtain⟨it,fp,tn,J,H2,e,O,T,j,f2,hw⟩:=h2;subst e;have loop:=lZ (acc:=acc) hx B hd F G L O T j f2 hw;refine g8 (wpAny_runOwn (Oo (jA (R:=λr s'=>match r with|.ok _=>∃σ' H',Inv X pins σ' H' s'/\N σ' H'|.error _=>False) hd loop (T.self _ 0 _ _ _ j loop)) λr s3 z=>?_))
 cases r with
 |error e=>exact z.elim
 |ok f=>obtain⟨σ3,U,Fn,fv⟩:=z;exact hk s3 σ3 U Fn fv
noncomputable def az(cells:List (Str×N2)):List (Str×Ob)->List (Str×N2)->List (Str×N2)
 |[],acc=>acc
 |(n,k)::r,acc=>if k==.free then(match cells.lookup n with|some c=>az cells r ((n,c)::acc)|none=>az cells r acc)else az cells r acc
theorem iN{env:Env}:∀(names:List (Str×Ob)) (acc:List (Str×N2)),(∀x∈names,x.2=.free->(env.cells.lookup x.1).isSome=F2)->
 (forIn names acc λ(x:Str×Ob) (r:List (Str×N2))=>(match x with|(name,kind)=>if(kind==LN)=F2 then do let c <-cellOf env name;pure (OY ((name,c)::r))else pure (OY r):Sem (ForInStep (List (Str×N2)))))=(pure (az env.cells names acc):Sem (List (Str×N2)))
 |[],acc,_=>rfl
 |(n,k)::r,acc,h=>by
  rw[OZ];have ih:=λacc'=>iN r acc' λx hx=>h x (Lq _ hx);unfold az
  by_cases hk:(k==LN)=F2
  ·obtain⟨c,z⟩:=Ox.mp (h (n,k) LH (beq_iff_eq.mp hk));have j:env.cells.lookup n=Z c:=z;have e1:cellOf env n=pure c:=by unfold cellOf;rw[j]
   simp only[hk,if_true,e1,j,UD];exact ih _
  ·simp only[hk,if_false,UD];exact ih _
theorem fU(h:∀x∈scope.names,x.2=.free->(env.cells.lookup x.1).isSome=F2):closureFor scope env=pure (az env.cells scope.names []):=by unfold closureFor;have e:=iN (env:=env) scope.names [] h;simp only[bind_pure];exact e
theorem cK{cells:List (Str×N2)}{y:Str}{c:N2}:∀{names:List (Str×Ob)} {acc:List (Str×N2)},(y,c)∈az cells names acc->(y,c)∈acc∨(cells.lookup y=Z c/\(y,LN)∈names)
 |[],acc,h=>.inl h
 |(n,k)::r,acc,h=>by
  unfold az at h
  by_cases hk:(k==LN)=F2
  ·rw[if_pos hk]at h;have F:k=.free:=beq_iff_eq.mp hk;subst F
   cases G:cells.lookup n with
   |none=>
    rw[G]at h
    rcases cK h with z|⟨j,B⟩
    ·exact .inl z
    ·exact .inr ⟨j,Lq _ B⟩
   |some c'=>
    rw[G]at h
    rcases cK h with z|⟨j,B⟩
    ·rcases KZ.mp z with e|z
     ·cases e
      exact .inr ⟨G,LH⟩
     ·exact .inl z
    ·exact .inr ⟨j,Lq _ B⟩
  ·rw[if_neg hk]at h
   rcases cK h with z|⟨j,B⟩
   ·exact .inl z
   ·exact .inr ⟨j,Lq _ B⟩
theorem cL{cells:List (Str×N2)}{y:Str}{c:N2}(j:cells.lookup y=Z c):∀{names:List (Str×Ob)} {acc:List (Str×N2)},((y,c)∈acc∨(y,LN)∈names)->(y,c)∈az cells names acc
 |[],acc,h=>by
  rcases h with h|h
  ·exact h
  ·simp at h
 |(n,k)::r,acc,h=>by
  unfold az
  by_cases hk:(k==LN)=F2
  ·rw[if_pos hk];have z:k=.free:=beq_iff_eq.mp hk;subst z
   cases hl:cells.lookup n with
   |none=>
    refine cL j ?_
    rcases h with h|h
    ·exact .inl h
    ·rcases KZ.mp h with e|h
     ·cases e;rw[hl]at j;cases j
     ·exact .inr h
   |some c'=>
    refine cL j ?_
    rcases h with h|h
    ·exact .inl (Lq _ h)
    ·rcases KZ.mp h with e|h
     ·cases e;rw[hl]at j;cases j;exact .inl LH
     ·exact .inr h
  ·rw[if_neg hk];refine cL j ?_
   rcases h with h|h
   ·exact .inl h
   ·rcases KZ.mp h with e|h
    ·cases e;exact absurd rfl hk
    ·exact .inr h
theorem dw:∀(names:List (Str×Ob)) (n:Nat) (acc acc':List (Str×N2)),NI n names (acc++acc')=NI n names acc++acc'
 |[],_,_,_=>rfl
 |(x,k)::r,n,acc,acc'=>by
  unfold NI
  by_cases j:(k==NN)=F2
  ·rw[if_pos j,if_pos j];exact dw r (n+1) ((x,n)::acc) acc'
  ·rw[if_neg j,if_neg j];exact dw r n acc acc'
theorem dy:∀{names:List (Str×Ob)} {n:Nat} {acc:List (Str×N2)} {y:Str} {c:N2},(y,c)∈NI n names acc->(y,c)∈acc∨(n<=c/\(y,NN)∈names)
 |[],_,_,_,_,h=>.inl h
 |(x,k)::r,n,acc,y,c,h=>by
  unfold NI at h
  by_cases hk:(k==NN)=F2
  ·rw[if_pos hk]at h;have j:k=.cell:=beq_iff_eq.mp hk;subst j
   rcases dy h with z|⟨B,F⟩
   ·rcases KZ.mp z with e|z
    ·cases e;exact .inr ⟨Le _,LH⟩
    ·exact .inl z
   ·exact .inr ⟨Nat.le_of_succ_le B,Lq _ F⟩
  ·rw[if_neg hk]at h
   rcases dy h with z|⟨B,F⟩
   ·exact .inl z
   ·exact .inr ⟨B,Lq _ F⟩
structure bn(sc osc:Scope)(oN N':List Str)(fr:List (Option Nat)):Prop where
 kind:sc.kind=.function
 nd:(sc.names.map (·.1)).Nodup
 ndN:N'.Nodup
 free:∀x∈sc.names,x.2=.free->osc.names.lookup x.1=Z .cell∨osc.names.lookup x.1=Z .free
 len:fr.length=N'.length
 fr:∀(i j:Nat) (x:Str),N'[i]?=Z x->fr[i]?=Z (Z j)->oN[j]?=Z x/\(x,LN)∈sc.names
noncomputable def inh(fr:List (Option Nat))(σ:St):St:=fr.map λo=>o.bind λj=>(σ[j]?).join
noncomputable def bo(X:Cx)(sc:Scope)(L:N2):Env:={scope:=relabel sc X.env,locals:=L,globals:=X.env.globals,cells:=NI (L+1) sc.names (az X.env.cells sc.names []),qual:=X.env.qual,func:=Y,code:=X.env.code,frame:=X.env.frame,builtins:=X.env.builtins}
noncomputable def aO(X:Cx)(sc:Scope)(N':List Str)(s:q7)(H:Hp)(fp:List N2):Cx:={X with N:=N',s₀:=s,H₀:=H,env:=bo X sc s.heap.objs.size,outer:=X.stack,stack:=X.stack,ex:=fp,fn:=λx=>sc.names.lookup x==Z .cell,pn:=[],xe:=λ_ _=>False}
theorem aY:∀{l:List (Str×Ob)} {x:Str} {k:Ob},(l.map (·.1)).Nodup->(x,k)∈l->l.lookup x=Z k
 |(y,k')::r,x,k,nd,h=>by
  have nd':(y::r.map (·.1)).Nodup:=nd;obtain⟨z,B⟩:=MV.mp nd';rw[O6]
  rcases KZ.mp h with e|hm
  ·cases e;simp
  ·have j:(x==y)=Md:=by
    refine beq_eq_false_iff_ne.mpr λe=>?_;subst e;exact z (L9.mpr ⟨(x,k),hm,rfl⟩)
   rw[j];exact aY B hm
theorem cM{env:Env}:∀{names:List (Str×Ob)} {x:Str},
 (names.map fun (n,k)=>if(k==LN&&env.scope.kind==.function&&env.kindOf n==Z .cell)then(n,NN)else(n,k)).lookup x =
   (names.lookup x).map λk=>if(k==LN&&env.scope.kind==.function&&env.kindOf x==Z .cell)then NN else k
 |[],_=>rfl
 |(n,k)::r,x=>by
  have ih:=cM (env:=env) (names:=r) (x:=x);show Pm x ((if(k==LN&&env.scope.kind==.function&&env.kindOf n==Z .cell)=F2 then(n,NN)else(n,k))::_)=_
  rw[O6 (a:=x) (b:=k)]
  by_cases hx:x=n
  ·subst hx;simp only[beq_self_eq_true];show _=Z (if(k==LN&&env.scope.kind==.function&&env.kindOf x==Z .cell)=F2 then NN else k)
   by_cases j:(k==LN&&env.scope.kind==.function&&env.kindOf x==Z .cell)=F2
   ·rw[if_pos j,if_pos j,O6];simp only[beq_self_eq_true]
   ·rw[if_neg j,if_neg j,O6];simp only[beq_self_eq_true]
  ·have z:(x==n)=Md:=beq_eq_false_iff_ne.mpr hx;rw[z]
   by_cases j:(k==LN&&env.scope.kind==.function&&env.kindOf n==Z .cell)=F2
   ·rw[if_pos j,O6,z];exact ih
   ·rw[if_neg j,O6,z];exact ih
section
variable{pins:List (N2×Obj)}{σ:St}{H:Hp}{s:q7}{sc:Scope}{N':List Str}{fr:List (Option Nat)}{fp:List N2}
theorem gJ(I:Inv X pins σ H s)(B:bn sc X.env.scope X.N N' fr):∀x∈sc.names,x.2=.free->(X.env.cells.lookup x.1).isSome=F2:=λx hx e=>by obtain⟨c,j⟩:=I.ok.has x.1 (B.free x hx e);rw[j];rfl
theorem vw(I:Inv X pins σ H s)(f2:∀b∈fp,cH X pins H b)(fv:∀b∈fp,b<s.heap.objs.size)(B:bn sc X.env.scope X.N N' fr):
 Inv (aO X sc N' s H fp) [] (inh fr σ) H {s with heap:=UE (s.heap.push {cls:=.type "dict",data:=.dict #[]}) sc.names}:=by
 have G:∀b o,s.heap.get? b=Z o->(UE (s.heap.push {cls:=.type "dict",data:=.dict #[]}) sc.names).get? b=Z o:=λb o e=>SE _ _ b o (i0 _ e);have ok:=cellsFrom_ok sc.names (s.heap.push {cls:=.type "dict",data:=.dict #[]}) (s.heap.objs.size+1) [] ⟨λ_ _ hm=>(nomatch hm),RB⟩ (by rw[Nf];exact Le _)
 rw[Nf]at ok;have capp:NI (s.heap.objs.size+1) sc.names (az X.env.cells sc.names [])=NI (s.heap.objs.size+1) sc.names []++az X.env.cells sc.names []:=dw sc.names _ [] _;have cof:∀x c,(bo X sc s.heap.objs.size).cells.lookup x=Z c->((x,c)∈NI (s.heap.objs.size+1) sc.names []/\s.heap.objs.size<c)∨(X.env.cells.lookup x=Z c/\(x,LN)∈sc.names):=λx c e=>by
  have m:=Me e;have m':(x,c)∈NI (s.heap.objs.size+1) sc.names (az X.env.cells sc.names []):=m;rw[capp]at m'
  rcases Ld.mp m' with z|z
  ·exact .inl ⟨z,(ok.empty x c z).2⟩
  ·rcases cK z with q|q
   ·simp at q
   ·exact .inr q
 have cOld:∀x c,X.env.cells.lookup x=Z c->c<s.heap.objs.size:=λx c e=>by obtain⟨v,q⟩:=I.cell x c e;exact q.lt
 have kindF:∀x,(x,LN)∈sc.names->(bo X sc s.heap.objs.size).kindOf x=Z .cell∨(bo X sc s.heap.objs.size).kindOf x=Z .free:=λx hx=>by
  have e1:sc.names.lookup x=Z .free:=aY B.nd hx;have e2:(bo X sc s.heap.objs.size).kindOf x=_:=cM (env:=X.env) (names:=sc.names) (x:=x);rw[e1]at e2;rw[e2]
  by_cases J:(LN==LN&&X.env.scope.kind==.function&&X.env.kindOf x==Z .cell)=F2
  ·exact .inl (by simp only[Oj,if_pos J])
  ·exact .inr (by simp only[Oj,if_neg J])
 have cellF:∀x c,(x,LN)∈sc.names->X.env.cells.lookup x=Z c->(bo X sc s.heap.objs.size).cells.lookup x=Z c:=λx c hx J=>by
  have m:=cL (acc:=[]) J (.inr hx);have m2:(x,c)∈(bo X sc s.heap.objs.size).cells:=by show(x,c)∈NI (s.heap.objs.size+1) sc.names (az X.env.cells sc.names []);rw[capp];exact Lo _ m
  cases F:(bo X sc s.heap.objs.size).cells.lookup x with
  |none=>
   exfalso
   have:∀{l:List (Str×N2)},(x,c)∈l->l.lookup x=Y->False:=by
    intro l
    induction l with
    |nil=>intro h;simp at h
    |cons a r ih=>
     intro h e;obtain⟨y,d⟩:=a;rw[O6]at e
     rcases KZ.mp h with z|z
     ·cases z;simp at e
     ·by_cases hxy:(x==y)=F2
      ·rw[hxy]at e;cases e
      ·simp only[Qw]at hxy;rw[hxy]at e;exact ih z e
   exact this m2 F
  |some c'=>
   rcases cof x c' F with⟨z,_⟩|⟨z,_⟩
   ·rcases dy z with q|⟨_,q⟩
    ·simp at q
    ·have a1:=aY B.nd hx;have a2:=aY B.nd q;rw[a1]at a2;cases a2
   ·rw[J]at z;rw[z]
 have kindC:∀x,(bo X sc s.heap.objs.size).kindOf x=Z .cell->(x,NN)∈sc.names∨(x,LN)∈sc.names:=λx e=>by
  have e2:(bo X sc s.heap.objs.size).kindOf x=_:=cM (env:=X.env) (names:=sc.names) (x:=x);rw[e2]at e
  cases F:sc.names.lookup x with
  |none=>rw[F]at e;cases e
  |some k=>
   rw[F]at e;have m:=Me F
   cases k with
   |cell=>exact .inl m
   |free=>exact .inr m
   |«local»=>simp at e
   |globalImplicit=>simp at e
   |globalExplicit=>simp at e
 have kindFr:∀x,(bo X sc s.heap.objs.size).kindOf x=Z .free->(x,LN)∈sc.names:=λx e=>by
  have e2:(bo X sc s.heap.objs.size).kindOf x=_:=cM (env:=X.env) (names:=sc.names) (x:=x);rw[e2]at e
  cases F:sc.names.lookup x with
  |none=>rw[F]at e;cases e
  |some k=>
   rw[F]at e;have m:=Me F
   cases k with
   |free=>exact m
   |cell=>simp at e
   |«local»=>simp at e
   |globalImplicit=>simp at e
   |globalExplicit=>simp at e
 refine⟨⟨I.ok.mod,B.kind,I.ok.glob,I.ok.blt,Le _,λy z c h1 h2=>?_,λy hy=>?_,λy c hf h=>?_,I.ok.hd,I.ok.frames,.inl rfl,λb O=>⟨?_,λx c e=>?_⟩,λb o e=>I.bs b o e,?_,λb o e O=>?_,λb O=>?_,I.stack,I.stkFree⟩,
  rfl,I.bare,Un.kept G,⟨_,(Heap.Ns.new s.heap (.type "dict")).keeps (SE _ _),λi x v h1 h2 h3=>?_⟩,λy c h=>?_,I.hok.fresh (Le _),λy c h=>?_,λp hp=>absurd (show p∈([]:List (N2×Obj))from hp) (by simp),I.hok.kept G,?_⟩
 ·rcases cof y c h1 with⟨a1,a2⟩|⟨a1,a2⟩
  ·rcases cof z c h2 with⟨Fn,b2⟩|⟨Fn,b2⟩
   ·exact name_of_addr ok.apart a1 Fn
   ·exact absurd (cOld z c Fn) (Vv.mpr (OK a2))
  ·rcases cof z c h2 with⟨Fn,b2⟩|⟨Fn,b2⟩
   ·exact absurd (cOld y c a1) (Vv.mpr (OK b2))
   ·exact I.ok.inj y z c a1 Fn
 ·have II:(y,NN)∈sc.names∨(y,LN)∈sc.names:=by
   rcases hy with hy|hy
   ·exact kindC y hy
   ·exact .inr (kindFr y hy)
  rcases II with q|q
  ·exact Ox.mp (OO sc.names _ _ (.inl (aY B.nd q)))
  ·obtain⟨c,J⟩:=Ox.mp (gJ I B _ q rfl);exact⟨c,cellF y c q J⟩
 ·have IJ:(sc.names.lookup y==Z .cell)=F2:=hf;have IG:sc.names.lookup y=Z .cell:=by simpa using IJ
  rcases cof y c h with⟨_,a2⟩|⟨_,a2⟩
  ·exact OK a2
  ·rw[aY B.nd a2]at IG;cases IG
 ·exact Lr (fv b O)
 ·rcases cof x c e with⟨_,a2⟩|⟨a1,_⟩
  ·exact MD (Nat.lt_trans (fv b O) a2)
  ·exact(f2 b O).2.2.2.2.1 x c a1
 ·exact Mu I.ok.bsz I.sz
 ·obtain⟨f0,f1,f3,f4,f5,f6⟩:=f2 b O
  rcases f4 with z|z
  ·exact I.ok.noex b o e z
  ·exact absurd (Lz (Lz (KR e) I.ok.bsz) z) (My _)
 ·obtain⟨f0,f1,f3,f4,f5,f6⟩:=f2 b O;exactλz=>(KZ.mp (I.stkSub b z)).elim f1 f3
 ·have hi:∃j,fr[i]?=Z (Z j)/\σ[j]?=Z (Z v):=by
   unfold inh at h2;rw[L8]at h2
   cases e:fr[i]? with
   |none=>rw[e]at h2;cases h2
   |some o=>
    rw[e]at h2
    cases o with
    |none=>cases h2
    |some j=>
     refine⟨j,rfl,?_⟩;have L:Z ((σ[j]?).join)=Z (Z v):=h2
     cases e':σ[j]? with
     |none=>rw[e']at L;cases L
     |some w=>rw[e']at L;cases L;rfl
  obtain⟨j,e1,e2⟩:=hi;obtain⟨n1,n2⟩:=B.fr i j x h1 e1;obtain⟨m,hn,F⟩:=I.loc;have hv:Vis X.env.scope x:=.inr (B.free (x,.free) n2 rfl);obtain⟨u,ru,lk⟩:=F j x v n1 e2 hv;refine⟨u,ru,.inr ⟨kindF x n2,?_⟩⟩
  rcases lk with⟨k1,_⟩|⟨_,c,J,U⟩
  ·have IH:X.env.scope.names.lookup x=Z .local:=k1
   rcases B.free (x,.free) n2 rfl with z|z
   ·rw[IH]at z;cases z
   ·rw[IH]at z;cases z
  ·exact⟨c,cellF x c n2 J,U.keeps G⟩
 ·rcases cof y c h with⟨a1,a2⟩|⟨a1,a2⟩
  ·exact⟨_,(ok.empty y c a1).1⟩
  ·obtain⟨v,q⟩:=I.cell y c a1;exact⟨v,q.keeps G⟩
 ·rcases cof y c h with⟨a1,a2⟩|⟨a1,a2⟩
  ·exact I.hok.fresh (OK a2)
  ·exact I.freeC y c a1
 ·show(inh fr σ).length=N'.length;unfold inh;rw[r0];exact B.len
theorem m9{σ':St}{s':q7}(I:Inv X pins σ H s)(f2:∀b∈fp,cH X pins H b)(J:Inv (aO X sc N' s H fp) [] σ' H' s')(hs:MY s.heap.objs.size s'.heap h'):
 Inv X pins σ H' {s' with heap:=h'}:=by
 have u:Un (frs X.stack) fp H H' s.heap s'.heap:=J.base;have ne:∀b o,s.heap.get? b=Z o->b≠s.heap.objs.size:=λb o e=>Lr (KR e);refine I.call' (s':={s' with heap:=h'}) (ch:=fp) J.os ⟨λb o e n j hx=>?_,λb o e n j hx=>?_,u.free,λb o e hx=>?_,u.tups,u.frzs,u.tbls⟩ (λb v e=>?_) J.bare λb j=>?_
 ·exact(hs.2 b (ne b o e)).trans (u.keep b o e n j hx)
 ·obtain⟨sl,q⟩:=u.slot b o e n j hx;exact⟨sl,(hs.2 b (ne b o e)).trans q⟩
 ·obtain⟨o',q⟩:=u.there b o e hx;exact⟨o',(hs.2 b (ne b o e)).trans q⟩
 ·refine(J.hok b v e).stay (λc w F q=>(hs.2 c ?_).trans q) (λ_ q=>q) λ_ _ q=>q;have fr:H' s.heap.objs.size=Y:=J.free
  rcases F with z|z
  ·rw[z];intro B;rw[B,fr]at e;cases e
  ·intro B;rw[B,fr]at z;cases z
 ·obtain⟨f0,f1,O,f4,G,L⟩:=f2 b j;exact⟨f4,f1,G,L⟩
theorem nF {Q:Env->q7->Prop}{E:gV->q7->Prop}{M:Q9}(h:Q {scope:=sc,locals:=s.heap.objs.size,globals:=X.env.globals,cells:=NI (s.heap.objs.size+1) sc.names (az X.env.cells sc.names []),qual:=X.env.qual,func:=Y,code:=X.env.code,frame:=X.env.frame,builtins:=X.env.builtins}
   {s with heap:=UE (s.heap.push {cls:=.type "dict",data:=.dict #[]}) sc.names}):
 La M A (T3 sc X.env.globals (az X.env.cells sc.names []) [] X.env.qual Y .none (Z X.env)) Q E s:=by
 simp only[T3,TZ,if_true];refine g8 (wpAny_alloc ?_);refine g8 (wpAny_layCells _ (λname kind cells=>by cases hkc:kind==NN<;>simp[hkc]) _ _ _ _ ?_)
 rw[show({s with heap:=s.heap.push {cls:=.type "dict",data:=.dict #[]}}:q7).heap.objs.size=s.heap.objs.size+1 from Nf ..]
 exact g8 (z0 (z0 h))
theorem oR(hc:X.calm=F2){rest:List Ms}{E:gV->q7->Prop}(hx:∀e s,X.xe e s->False)(B:bn sc X.env.scope X.N N' fr)(ha:∀g',rest[0]?=Z g'->g'.is_async=0)(hi:PI X target iter wi){tb:N2->TC}(hg:∀s H fp,PG (aO X sc N' s H fp) target g)(j:∀s H fp p,PB (aO X sc N' s H fp) (λk=>bv ifs (aO X sc N' s H fp).env>>=λok=>if ok=F2 then bj elt (⟨target,iter,ifs,0⟩::rest) sc pos 0 (.ref p) (aO X sc N' s H fp).env k else k) (tb p)){Nn:N2->St->Hp->Prop}{RR:gV->N2->Vp->q7->Prop}(I:Inv X pins σ H s)(h:wi σ H λJ H1=>∀p,H1 p=Y->cJ J g (tb p) (Nn p) (inh fr σ) (upd H1 p (.lst [])))(hR:∀p fp s3 O s' σ' H' f,Inv X pins σ O s3->(∀b∈fp,cH X pins O b)->Inv (aO X sc N' s3 O fp) [] σ' H' s'->Nn p σ' H'->RR (.ref p) s3.heap.objs.size (.ok f) s'):
 La (model X.prog X.w) X.A (eval iter X.env) (λx s₁=>La (model X.prog X.w) X.A (SU x) (λit s₂=>La (model X.prog X.w) X.A (newList []) (λacc s₃=>
  La (model X.prog X.w) X.A (T3 sc X.env.globals (az X.env.cells sc.names []) [] X.env.qual Y .none (Z X.env)) (λcenv s₄=>ON (model X.prog X.w) X.A (.compStart (.ListComp elt (⟨target,iter,ifs,0⟩::rest) sc pos) 0 it acc {cenv with scope:=relabel sc X.env}) (RR acc cenv.locals) s₄) E s₃) E s₂) E s₁) E s:=by
 refine nox hx (thn (hi pins s σ H _ I h) λv s1 h1=>nox hx (thn h1 λitv s2 h2=>?_));obtain⟨it,fp,tn,J,H2,e,I2,T,F,f2,hw⟩:=h2;subst e;have hf:H2 s2.heap.objs.size=Y:=I2.hok.fresh (Le _);refine QB ?_;have I3:Inv X pins σ (upd H2 s2.heap.objs.size (.lst [])) {s2 with heap:=s2.heap.push {cls:=.type "list",dict:=Y,data:=.seq ([]:List gV).toArray}}:=I2.laid (t':=s2.toks) (λb u e=>i0 _ e) (Le _) ⟨NF _,[],0,.nil,KY _ rfl⟩
 have fneq:∀b∈fp,b≠s2.heap.objs.size:=λb j z=>by obtain⟨o,e,_⟩:=T.obj _ _ F b j;exact absurd (KR e) (by rw[z];exact My _)
 have U:∀b∈fp,cH X pins (upd H2 s2.heap.objs.size (.lst [])) b:=λb j=>⟨by rw[am (fneq b j)];exact(f2 b j).1,(f2 b j).2⟩
 have Fn:∀b∈fp,b<(s2.heap.push {cls:=.type "list",dict:=Y,data:=.seq ([]:List gV).toArray}).objs.size:=λb j=>by obtain⟨o,e,_⟩:=T.obj _ _ F b j;rw[Nf];exact Nat.lt_succ_of_lt (KR e)
 have fv:tn 0 (s2.heap.push {cls:=.type "list",dict:=Y,data:=.seq ([]:List gV).toArray}):=T.keep _ _ _ F λb _ o e=>i0 _ e;refine nF ?_;have L:=vw (N':=N') I3 U Fn B;have G:=T.keep _ (h':=UE (({s2 with heap:=s2.heap.push {cls:=.type "list",dict:=Y,data:=.seq ([]:List gV).toArray}}:q7).heap.push {cls:=.type "dict",data:=.dict #[]}) sc.names) _ fv λb _ o e=>SE _ _ b o (i0 _ e)
 have f4:∀b∈fp,cH (aO X sc N' {s2 with heap:=s2.heap.push {cls:=.type "list",dict:=Y,data:=.seq ([]:List gV).toArray}} (upd H2 s2.heap.objs.size (.lst [])) fp) [] (upd H2 s2.heap.objs.size (.lst [])) b:=λb j=>⟨(U b j).1,(L.ok.exf b j).1,L.ok.exfs b j,.inl j,(L.ok.exf b j).2,λp hp=>absurd (show p∈([]:List (N2×Obj))from hp) (by simp)⟩
 have loop:=lZ (X:=aO X sc N' {s2 with heap:=s2.heap.push {cls:=.type "list",dict:=Y,data:=.seq ([]:List gV).toArray}} (upd H2 s2.heap.objs.size (.lst [])) fp) (λ_ _ z=>z) hc
  (elt:=elt) (pos:=pos) (scope:=sc) (gens:=⟨target,iter,ifs,0⟩::rest) (d:=0) (acc:=.ref s2.heap.objs.size) rfl (λg' e=>ha g' (by simpa using e)) (hg _ _ _) (j _ _ _ _) L T G f4 (hw _ hf)
 refine Oo (jA (R:=λr s'=>match r with|.ok _=>∃σ' H',Inv (aO X sc N' {s2 with heap:=s2.heap.push {cls:=.type "list",dict:=Y,data:=.seq ([]:List gV).toArray}} (upd H2 s2.heap.objs.size (.lst [])) fp) [] σ' H' s'/\Nn s2.heap.objs.size σ' H'|.error _=>False)
  (gens:=⟨target,iter,ifs,0⟩::rest) (d:=0) rfl loop (T.self _ 0 _ _ _ G loop)) λr s5 hr=>?_
 cases r with
 |error e=>exact hr.elim
 |ok f=>obtain⟨σ5,H5,I5,n5⟩:=hr;exact hR _ fp _ _ s5 σ5 H5 f I3 U I5 n5
noncomputable def tG(wi:TI)(g:TG)(tb:N2->TC)(fr:List (Option Nat)):TE:=λσ H Q=>wi σ H λJ H1=>∀p,H1 p=Y->cJ J g (tb p) (λ_ H2=>Q (.ref p) H2) (inh fr σ) (upd H1 p (.lst []))
theorem md(B:bn sc X.env.scope X.N N' fr):∀x∈sc.names,x.2=.local->sc.names.lookup x.1=Z .local:=λx hx e=>by obtain⟨n,k⟩:=x;have e':k=.local:=e;subst e';exact aY B.nd hx
theorem iP(z:X.calm=F2){rest:List Ms}(hx:∀e s,X.xe e s->False)(B:bn sc X.env.scope X.N N' fr)(F:∀g',rest[0]?=Z g'->g'.is_async=0)(hi:PI X target iter wi){tb:N2->TC}(G:∀s H fp,PG (aO X sc N' s H fp) target g)(L:∀s H fp p,PB (aO X sc N' s H fp) (λk=>bv ifs (aO X sc N' s H fp).env>>=λok=>if ok=F2 then bj elt (⟨target,iter,ifs,0⟩::rest) sc pos 0 (.ref p) (aO X sc N' s H fp).env k else k) (tb p))(hs:∀x,NP iter X.env x=pure x):
 PE X (.ListComp elt (⟨target,iter,ifs,0⟩::rest) sc pos) (tG wi g tb fr):=by
 intro pins s σ H Q I h;rw[eval_ListComp];refine RJ (use:=Y) rfl hs (fU (gJ I B)) B.kind (md B) (oR (Nn:=λp _ H2=>Q (.ref p) H2) (RR:=λacc C=>compPost (model X.prog X.w) X.A X.xe Y (EP X pins σ Q) acc C) z hx B F hi G L I h ?_);intro p fp s3 fv s' σ' H' f O U J q;obtain⟨m,Fn,_⟩:=J.loc;exact⟨m,Fn,λh' j=>⟨.ref p,H',m9 O U J j,rfl,q⟩⟩
theorem jB(hc:X.calm=F2){rest:List Ms}{spos:Pos}{i:Nat}(hx:∀e s,X.xe e s->False)(B:bn sc X.env.scope X.N N' fr)(ha:∀g',rest[0]?=Z g'->g'.is_async=0)(hi:PI X target iter wi){tb:N2->TC}(hg:∀s H fp,PG (aO X sc N' s H fp) target g)(F:∀s H fp p,PB (aO X sc N' s H fp) (λk=>bv ifs (aO X sc N' s H fp).env>>=λok=>if ok=F2 then bj elt (⟨target,iter,ifs,0⟩::rest) sc pos 0 (.ref p) (aO X sc N' s H fp).env k else k) (tb p))(hs:∀x,NP iter X.env x=pure x)(G:PG X (.Name x pos') (jl i))(L:Pp (.ListComp elt (⟨target,iter,ifs,0⟩::rest) sc pos) (Z (.Name x pos')) spos.line X.env=pure F2):
 PS X (.Assign [.Name x pos'] (.ListComp elt (⟨target,iter,ifs,0⟩::rest) sc pos) spos) (oE (tG wi g tb fr) (jl i)):=by
 intro pins s σ H D I h;rw[exec_Assign_Name_used _ _ _ _ L];refine g8 (Ov (g8 ?_));show La _ X.A (do let _ <-comprehension (.ListComp elt (⟨target,iter,ifs,0⟩::rest) sc pos) sc X.env _ (newList []) Md (eval iter X.env) (Z (assign (.Name x pos') X.env))) _ _ s
 refine g8 (Mz (RJ (use:=Z (assign (.Name x pos') X.env)) (Q:=λ_ s'=>SP X pins D .next s') rfl hs (fU (gJ I B)) B.kind (md B)
  (oR (Nn:=λp _ H2=>D.nx (σ.set i (Z (.ref p))) H2) (RR:=λacc C=>compPost (model X.prog X.w) X.A X.xe (Z (assign (.Name x pos') X.env)) (λ_ s'=>SP X pins D .next s') acc C) hc hx B ha hi hg F I h ?_)) (λ_ s' hq=>z0 (z0 hq)) λ_ _ e=>e)
 intro p fp s3 H3 s' σ' H' f j f3 J q;obtain⟨m,⟨o,es,ep,ho,hd,hk,hm⟩,_⟩:=J.loc;have I4:Inv X pins σ H' s':=m9 (h':=s'.heap) j f3 J ⟨rfl,λ_ _=>rfl⟩;have hL:(aO X sc N' s3 H3 fp).env.locals=s3.heap.objs.size:=rfl;rw[hL]at ho;have O:H' s3.heap.objs.size=Y:=J.free;have neL:s3.heap.objs.size≠X.env.locals:=MD j.lt;have nfs:s3.heap.objs.size∉X.fs:=j.nofs (Le _);have I5:Inv X (pins++[(s3.heap.objs.size,o)]) σ H' s':=I4.pins_of λpr U=>by
  rcases Ld.mp U with z|z
  ·exact I4.pin pr (Lo _ z)
  ·have e:pr=(s3.heap.objs.size,o):=by simpa using z
   subst e;exact⟨ho,O,neL,nfs,λv z=>by rw[hd]at z;cases z⟩
 show La _ X.A (assign (.Name x pos') X.env (.ref p)) _ _ _;refine thn (G _ s' σ H' (.ref p) (.ref p) D.nx I5 rfl q) λ_ s6 g9=>?_;obtain⟨σ6,H6,I6,q6⟩:=g9;obtain⟨Fn,fv,_⟩:=I6.pin (s3.heap.objs.size,o) (Lo _ (Lo _ (by simp)))
 refine⟨m,⟨o,es,ep,Fn,hd,hk,hm⟩,λh' IG=>⟨σ6,H6,?_,q6⟩⟩;refine(I6.unpinned).turned (t':=s6.toks) (it:=s3.heap.objs.size) (λb o F e=>(IG.2 b F).trans e) fv neL (.inr j.sz) (λy c e z=>?_) λpr U z=>?_
 ·obtain⟨v,q⟩:=j.cell y c e;exact absurd q.lt (by rw[z];exact My _)
 ·exact absurd (KR (j.pin pr U).1) (by rw[z];exact My _)
end
end
end
section
open PySem.W (CodeHd tabObj kla_fn kla_obj)
noncomputable def fzO(a:N2)(o:Obj):HO:=.frz o (.ext λh=>h.get? a=Z o)
theorem vx{h:Heap}{o:Obj}(e:h.get? a=Z o):ObjOk P w H h a (fzO a o):=⟨e,e,⟨o,e⟩,λ_ _ z k=>k _ z⟩
def oS(H:Hp)(P:N2)(pos:Pos)(q:Str):Prop:=∃ps,H P=Z (.tbl ps)/\(ps=#[]∨∃c' oc vs t,ps=#[NH pos.line,NH pos.col,.ref c']/\H c'=Z (fzO c' oc)/\oc.data=.fields vs/\vs[1]?=Z (.str q t))
def FnAt(H:Hp)(a:N2)(q:Str)(params:P9)(body:Expr)(scope:Scope)(cl:List (Str×N2)):Prop:=∃pm c' ctv oc vs t,H a=Z (fzO a (kla_obj "<lambda>" q params body scope cl pm c' ctv))/\H c'=Z (fzO c' oc)/\oc.data=.fields vs/\vs[1]?=Z (.str q t)
def fb(mg:Str->Option gV)(base:Heap):Prop:=∃bm ob,mg "__builtins__"=Z (.ref bm)/\bm≠Sg/\base.get? bm=Z ob/\ob.cls=.type "module"/\ob.dict=Z Sg/\ob.data=.plain
section
variable{X:Cx}{pins:List (N2×Obj)}{σ:St}{H:Hp}{s:q7}{c P:N2}{params:P9}{body:Expr}{scope:Scope}{pos:Pos}{Q:gV->q7->Prop}{E:gV->q7->Prop}{q:Str}
theorem yb(I:Inv X pins σ H s)(Fn:X.env.code=.ref c)(hC:CodeHd X.base c P)(hB:fb X.mg X.base)(hq:X.env.qual++"<lambda>"=q)(T:oS H P pos q)(O:∀x∈scope.names,x.2=.free->(X.env.cells.lookup x.1).isSome=F2)(fv:defaultsOf params X.env=([],[]))(h:∀(a:N2) (H':Hp) (s':q7),Inv X pins σ H' s'->H a=Y->(∀b o,b≠P->H b=Z o->H' b=Z o)->oS H' P pos q->FnAt H' a q params body scope (az X.env.cells scope.names [])->Q (.ref a) s'):
 La (model X.prog X.w) X.A (eval (.Lambda params body scope pos) X.env) Q E s:=by
 obtain⟨ps,B,IK⟩:=T;obtain⟨bm,ob,b1,b2,b3,b4,b5,b6⟩:=hB;have F:s.heap.get? P=Z (tabObj ps):=I.hok P _ B;have hg:s.heap.Ns MB X.mg:=I.mod.glob.keeps I.bk;have IM:MB≠P:=λz=>by obtain⟨o,es,ep,e,hd,_⟩:=hg;rw[z,F]at e;cases e;cases hd
 have G:=I.bk _ _ b3;have IN:bm≠P:=λz=>by rw[z,F]at G;cases G;cases b4
 have IO:bm≠MB:=λz=>by obtain⟨o,es,ep,e,hd,_⟩:=hg;rw[<-z,G]at e;cases e;rw[hd]at b6;cases b6
 have IG:s.heap.BuiltinsAt X.mg P:=⟨bm,ob,b1,b2,IO,IN,G,b4,b5,b6⟩;refine PySem.W.kla_eval fv ?_;rw[hq];have fin:∀(h':Heap) (tk:Tok) (c':N2) (oc:Obj) (vs:Array gV) (t:Tok) (pm ctv:gV) (ps':Array gV),(∀b o,b≠P->s.heap.get? b=Z o->h'.get? b=Z o)->s.heap.objs.size<=h'.objs.size->h'.get? P=Z (tabObj ps')->(∃more,ps'=ps++more)->
  h'.get? c'=Z oc->oc.data=.fields vs->vs[1]?=Z (.str q t)->(H c'=Y/\s.heap.objs.size<=c'∨H c'=Z (fzO c' oc))->(ps'=#[NH pos.line,NH pos.col,.ref c'])->
  Q (.ref h'.objs.size) {s with heap:=h'.push (kla_obj "<lambda>" q params body scope (az X.env.cells scope.names []) pm c' ctv),toks:=tk}:=by
  intro h' tk c' oc vs t pm ctv ps' hx hsz J hm j hd ht hc IH;generalize ho:kla_obj "<lambda>" q params body scope (az X.env.cells scope.names []) pm c' ctv=fo;obtain⟨more,rfl⟩:=hm;have na:H h'.objs.size=Y:=I.hok.fresh hsz;have IP:c'≠h'.objs.size:=Lr (KR j);have IQ:c'≠P:=λz=>by rw[z,J]at j;cases j;rcases hc with⟨n,_⟩|n<;>(rw[z,B]at n;cases n)
  have IR:P≠h'.objs.size:=Lr (KR J);have pu:∀{b o},h'.get? b=Z o->(h'.push fo).get? b=Z o:=λe=>i0 _ e
  let H':Hp:=upd (upd (upd H P (.tbl (ps++more))) c' (fzO c' oc)) h'.objs.size (fzO h'.objs.size fo)
  have eP:H' P=Z (.tbl (ps++more)):=by show upd _ _ _ P=_;rw[am IR,am (Ne.symm IQ),aC]
  have ec:H' c'=Z (fzO c' oc):=by show upd _ _ _ c'=_;rw[am IP,aC]
  have ea:H' h'.objs.size=Z (fzO h'.objs.size fo):=aC;have eo:∀b,b≠P->b≠c'->b≠h'.objs.size->H' b=H b:=λb h1 h2 L=>by show upd _ _ _ b=_;rw[am L,am h2,am h1]
  have kp:∀b o,b≠P->H b=Z o->H' b=Z o:=λb o h1 e=>by
   by_cases L:b=h'.objs.size
   ·subst L;rw[na]at e;cases e
   by_cases h2:b=c'
   ·subst h2
    rcases hc with⟨n,_⟩|n
    ·rw[n]at e;cases e
    ·rw[n]at e;cases e;exact ec
   ·rw[eo b h1 h2 L];exact e
  have nn:∀b o,s.heap.get? b=Z o->H b=Y->H' b=Y:=λb o e n=>by
   have h1:b≠P:=λz=>by rw[z,B]at n;cases n
   have L:b≠h'.objs.size:=Lr (Lz (KR e) hsz);have h2:b≠c':=λz=>by
    rcases hc with⟨_,l⟩|m
    ·rw[z]at e;exact absurd (Lz (KR e) l) (My _)
    ·rw[z,m]at n;cases n
   rw[eo b h1 h2 L];exact n
  have un:Un X.fs [] H H' s.heap (h'.push fo):=by
   refine⟨λb o e n _ _=>pu (hx b o (λz=>by rw[z,B]at n;cases n) e),λb o e n _ _=>⟨o.slots,pu (hx b o (λz=>by rw[z,B]at n;cases n) e)⟩,λb o e n _=>nn b o e n,λb o e _=>?_,λb xs e=>kp b _ (λz=>by rw[z,B]at e;cases e) e,λb o u e=>kp b _ (λz=>by rw[z,B]at e;cases e) e,λb IV e=>?_⟩
   ·by_cases z:b=P
    ·exact⟨_,z▸pu J⟩
    ·exact⟨o,pu (hx b o z e)⟩
   ·by_cases z:b=P
    ·subst z;rw[B]at e;cases e;exact⟨more,eP⟩
    ·exact⟨#[],by rw[kp b _ z e];simp⟩
  have hok:HOk X.prog X.w H' (h'.push fo):=λb o e=>by
   by_cases L:b=h'.objs.size
   ·subst L;rw[ea]at e;cases e;exact vx (KY _ (by rw[<-ho];rfl))
   by_cases h2:b=c'
   ·subst h2;rw[ec]at e;cases e;exact vx (pu j)
   by_cases h1:b=P
   ·subst h1;rw[eP]at e;cases e;exact pu J
   rw[eo b h1 h2 L]at e;refine(I.hok b o e).stay (λb' u hb z=>pu (hx b' u (λy=>?_) z)) (λb' z=>kp b' _ (λy=>by rw[y,B]at z;cases z) z) λb' xs z=>kp b' _ (λy=>by rw[y,B]at z;cases z) z
   rcases hb with rfl|hb
   ·exact h1 y
   ·rw[y,B]at hb;cases hb
  refine h _ H' _ (I.un un hok) na kp ⟨_,eP,.inr ⟨c',oc,vs,t,IH,ec,hd,ht⟩⟩ ⟨pm,c',ctv,oc,vs,t,?_,ec,hd,ht⟩;rw[ho];exact ea
 have II:=fU (scope:=scope) (env:=X.env) O
 rcases IK with rfl|⟨c',oc,vs,t,rfl,j,hd,ht⟩
 ·refine PySem.W.kla_makeFunction (mg:=X.mg) II I.ok.glob hg Fn (hC.keeps I.bk) F trivial rfl IM IG λc' ctv h' tk hx U IS IJ IT=>?_;obtain⟨c2,oc,vs,t,e2,IU,hd,hv⟩:=IJ
  cases e2
  exact fin h' tk c' oc vs t _ ctv _ (λb o n e=>hx b o n e) (Mu U (OK IS)) IT ⟨_,rfl⟩ IU hd hv (.inl ⟨I.hok.fresh U,U⟩) rfl
 ·refine PySem.W.kla_makeFunctionHit (cv:=.ref c') (mg:=X.mg) II I.ok.glob hg Fn (hC.keeps I.bk) F trivial ?_ IG λctv h' tk hk hsz=>?_
  ·simp[codeAmong,NH]
  ·exact fin h' tk c' oc vs t _ ctv _ (λb o _ e=>hk b o e) hsz (hk _ _ F) ⟨#[],by simp⟩ (hk _ _ (I.hok c' _ j).1) hd ht (.inr j) rfl
end
open PySem.W (envX)
noncomputable def cxL(CX:CXT)(P:Ln)(w:LL)(K:Frag)(mg:Str->Option gV)(base:Heap)(N:List Str)(q:Str)(scope:Scope)(a:N2)(cd:gV)(cl:List (Str×N2))(A:LQ)(outer:List Env)(s:q7)(H:Hp)(E:XK):Cx where
 prog:=P
 w:=w
 K:=K
 mg:=mg
 base:=base
 A:=A.deeper (envX q scope s.heap.objs.size a cd cl)
 N:=N
 s₀:=s
 H₀:=H
 env:=envX q scope s.heap.objs.size a cd cl
 outer:=outer
 stack:=envX q scope s.heap.objs.size a cd cl::outer
 ex:=[]
 calm:=F2
 fn:=λ_=>Md
 pn:=[]
 xe:=λe s'=>La (model P w) (A.deeper (envX q scope s.heap.objs.size a cd cl)) (leaving (envX q scope s.heap.objs.size a cd cl) e) (λ_ s''=>CX outer H s E e s'') (λe' s''=>CX outer H s E e' s'') s'
structure fV(xs:List Str)(y1 y2:Str)(sc:Scope):Prop where
 kind:sc.kind=.function
 co:sc.isCoroutine=Md
 gen:sc.isGenerator=Md
 ne:y1≠y2
 l1:sc.names.lookup y1=Z .local
 l2:sc.names.lookup y2=Z .local
 fr:∀x∈xs,sc.names.lookup x=Z .free
 nc:∀x∈sc.names,x.2≠.cell
 all:∀x,sc.names.lookup x=Z .free->x∈xs
structure rH(H:Hp)(h:Heap)(cl:List (Str×N2))(xs:List Str)(gs:List V):Prop where
 inj:∀x y c,cl.lookup x=Z c->cl.lookup y=Z c->x=y
 free:∀x c,cl.lookup x=Z c->H c=Y
 isC:∀x c,cl.lookup x=Z c->∃v,h.IsCell c v
 val:∀(i:Nat) (x:Str) (v:V),xs[i]?=Z x->gs[i]?=Z v->∃c u,cl.lookup x=Z c/\h.IsCell c (Z u)/\RelV v u
 has:∀x∈xs,∃c,cl.lookup x=Z c
 len:gs.length=xs.length
section
variable{CX:CXT}{P:Ln}{w:LL}{K:Frag}{mg:Str->Option gV}{base:Heap}{xs:List Str}{y1 y2 q:Str}{scope:Scope}{a:N2}{cd:gV}{cl:List (Str×N2)}{A:LQ}{outer:List Env}{s:q7}{H:Hp}{E:XK}{u1 u2:gV}{v1 v2:V}{gs:List V}{h₁:Heap}{k:Nat}
theorem AM(S:fV xs y1 y2 scope)(hd:A.handled=Y)(e0:gD P w K mg base A outer s H)(C:rH H s.heap cl xs gs)(O:RelV v1 u1)(U:RelV v2 u2)(J:h₁.Ns s.heap.objs.size λx=>([(y1,u1),(y2,u2)]:List (Str×gV)).reverse.lookup x)(G:∀b o,s.heap.get? b=Z o->h₁.get? b=Z o):
 Inv (cxL CX P w K mg base (xs++[y1,y2]) q scope a cd cl A outer s H E) [] ((gs++[v1,v2]).map Z) H {s with heap:=h₁,toks:=s.toks+2}:=by
 have noA:∀b:N2,b∉(cxL CX P w K mg base (xs++[y1,y2]) q scope a cd cl A outer s H E).ex:=λb z=>absurd (show b∈([]:List N2)from z) (by simp)
 refine⟨⟨e0.mod,S.kind,rfl,rfl,Le _,C.inj,λy F=>?_,λy c z _=>(by cases z),λ_=>hd,SX e0.frames,.inr ⟨rfl,rfl⟩,λb z=>absurd z (noA b),e0.bs,e0.bsz,λb _ _=>noA b,λb z=>absurd z (noA b),e0.funs,e0.frf⟩,
  rfl,e0.bare,Un.kept G,⟨_,J,λi y v h1 h2 h3=>?_⟩,λy c h=>?_,e0.hok.fresh (Le _),λy c h=>C.free y c h,λp Fn=>absurd (show p∈([]:List (N2×Obj))from Fn) (by simp),e0.hok.kept G,?_⟩
 ·have F:scope.names.lookup y=Z .cell∨scope.names.lookup y=Z .free:=F
  rcases F with F|F
  ·exact absurd rfl (S.nc _ (Me F))
  ·exact C.has y (S.all y F)
 ·rw[L8,Ss]at h2;obtain⟨v',h2,e⟩:=h2
  cases e
  by_cases hi:i<xs.length
  ·have B:xs[i]?=Z y:=by rw[<-Lb (l₂:=[y1,y2]) hi];exact h1
   rw[Lb (by rw[C.len];exact hi)]at h2
   obtain⟨c,u,e1,⟨o,e2,L⟩,fv⟩:=C.val i y v B h2;exact⟨u,fv,.inr ⟨.inr (S.fr y (Lj B)),c,e1,o,G _ _ e2,L⟩⟩
  ·have B:([y1,y2]:List Str)[i-xs.length]?=Z y:=by rw[<-D0 (l₁:=xs) ∅];exact h1
   rw[D0 (by rw[C.len];lia),C.len]at h2
   generalize i-xs.length=j at B h2
   match j with
   |0=>
    cases B;cases h2
    refine⟨u1,O,.inl ⟨S.l1,?_⟩⟩;simp[Pm,S.ne,beq_eq_false_iff_ne.mpr S.ne]
   |1=>
    cases B;cases h2
    exact⟨u2,U,.inl ⟨S.l2,by simp[Pm]⟩⟩
   |_+2=>simp at B
 ·obtain⟨v,o,e2,L⟩:=C.isC y c h;exact⟨v,o,G _ _ e2,L⟩
 ·show((gs++[v1,v2]).map Z).length=(xs++[y1,y2]).length;simp[C.len]
theorem AN{params:P9}{body:Expr}{Q:VK}(B:Room (k+1) A)(e0:gD P w K mg base A outer s H)(F:FnAt H a q params body scope cl)(S:fV xs y1 y2 scope)(C:rH H s.heap cl xs gs)(Fn:∀fd:Nk,fd.params=params->fd.defaults=.none->fd.kwdefaults=.none->SW fd ⟨[u1,u2],[]⟩=pure [(y1,u1),(y2,u2)])(fv:RelV v1 u1)(r2:RelV v2 u2)(j:∀cd,Room k (A.deeper (envX q scope s.heap.objs.size a cd cl))->∃t,PE (cxL CX P w K mg base (xs++[y1,y2]) q scope a cd cl A outer s H E) body t/\t ((gs++[v1,v2]).map Z) H Q):
 ON (model P w) A (.call (.ref a) ⟨[u1,u2],[]⟩) (CR CX outer P w H s Q E) s:=by
 obtain⟨pm,c',ctv,oc,vs',t',ea,ec,hd,ht⟩:=F;have G:=(e0.hok a _ ea).1;have L:=(e0.hok c' _ ec).1;have lim:s.heap.NoLimit:=e0.mod.nolimit.keeps λb o e=>(e0.bs b o e).1;refine PySem.W.kla_callFunE B.depth G rfl S.co S.gen rfl ⟨c',oc,vs',t',rfl,L,hd,ht⟩ ?_;rw[Fn _ rfl rfl rfl];refine z0 (wpAny_newFunctionEnv S.nc (λy U=>?_) (λh₁ O z=>⟨lim.fresh _ z,?_⟩) S.kind)
 ·simp only[KZ,LK,or_false]at U
  rcases U with rfl|rfl
  ·exact S.l1
  ·exact S.l2
 show ON _ _ (.expr body (envX q scope s.heap.objs.size a (.ref c') cl)) _ _;have hk:∀b o,s.heap.get? b=Z o->h₁.get? b=Z o:=λb o e=>z.extBut b o (Lr (KR e)) (i0 _ e);obtain⟨t,hp,hq⟩:=j (.ref c') (B.deeper _);have I:=AM (CX:=CX) (E:=E) (q:=q) (a:=a) (cd:=.ref c') S B.hd e0 C fv r2 O hk;refine PySem.W.kla_codeExpr (Mz (hp [] _ _ H _ I hq) (λv s' hs=>?_) λe s' hs=>hs);obtain⟨v,H',J,rv,q⟩:=hs;exact⟨v,H',J.os,J.bare,J.base,J.hok,rv,q⟩
end
structure ie(P:Ln)(w:LL)(K:Frag)(mg:Str->Option gV)(base:Heap)(k:Nat)(fs:List N2)(a:N2)(sp:Sp)(H:Hp)(h:Heap):Prop where
 fn:∃o fd,H a=Z (fzO a o)/\o.data=.func fd
 run:∀(A:LQ) (outer:List Env) (s1:q7) (H1:Hp) (u1 u2:gV) (v1 v2:V) (Q:VK),Un fs [] H H1 h s1.heap->Room k A->gD P w K mg base A outer s1 H1->RelV v1 u1->RelV v2 u2->sp [v1,v2] H1 Q E0->
  ON (model P w) A (.call (.ref a) ⟨[u1,u2],[]⟩) (CR CX0 outer P w H1 s1 Q E0) s1
structure nH(P:Ln)(w:LL)(K:Frag)(mg:Str->Option gV)(base:Heap)(k:Nat)(f:N2)(fd:Nk)(ps:List Str)(sp:List Env->q7->Sp):Prop where
 len:∀o s vs H Q E,sp o s vs H Q E->vs.length=ps.length
 run:∀(A:LQ) (outer:List Env) (s:q7) (H:Hp) (args:Args) (us:List gV) (vs:List V) (Q:VK) (E:XK),Room k A->gD P w K mg base A outer s H->Ti s fd args (ps.zip us)->Vals vs us->sp outer s vs H Q E->
  ON (model P w) A (.call (.ref f) args) (CR CX0 outer P w H s Q E) s
end
variable{K:Frag}{f:N2}{qual:Str}{N ps:List Str}
section
theorem D8 {mg:Str->Option gV}{base:Heap}{k:Nat}{name:Str}{params:P9}{body:List Stmt}{dV kV doc pm cdv ct oc:gV}{an od:Option N2}{osl:Array (Option gV)}{sp:List Env->q7->Sp}(lk:K.lookup f=Z ⟨oc,od,.func (NL name qual params body scope dV kV doc pm an cdv ct),osl⟩)(F:Pk K cdv qual=F2)(S:cE N ps scope)(len:∀o s vs H Q E,sp o s vs H Q E->vs.length=ps.length)(j:∀(A:LQ) (outer:List Env) (s:q7) (H:Hp) (vs:List V) (Q:VK) (E:XK),Room k (A.deeper (Qs qual scope s.heap.objs.size f cdv))->sp outer s vs H Q E->
   ∃t,PSs (cA CX0 P w K mg base N qual scope f cdv A outer s H E) body t/\t {nx:=λ_ H'=>Q .non H',rt:=Q} (bC N vs) H):
 nH P w K mg base (k+1) f (NL name qual params body scope dV kV doc pm an cdv ct) ps sp:=by
 refine⟨len,λA outer s H args us vs Q E G e0 L r B=>?_⟩;have O:=len _ _ _ _ _ _ B;have KX:K.In s.heap:=e0.mod.kin.keeps λb o e=>(e0.bs b o e).1;have lim:s.heap.NoLimit:=e0.mod.nolimit.keeps λb o e=>(e0.bs b o e).1;have z:∀y∈ps.zip us,scope.names.lookup y.1=Z .local∨(scope.names.lookup y.1=Z .cell/\((NI (s.heap.objs.size+1) scope.names []).lookup y.1).isSome=F2):=λ⟨n,v⟩ hy=>by
  rcases S.par n (OX hy).1 with q|q
  ·exact .inl q
  ·exact .inr ⟨q,OO _ _ _ (.inl q)⟩
 refine SK G.depth (KX _ _ lk) rfl S.co S.gen rfl (TX KX F) (L _ _ _ _ ?_);refine Rc S.kind z λenv he s1 x=>?_;subst he;refine⟨lim.keeps x.toInCall.keep,codeAny_func ?_⟩;obtain⟨t,U,Fn⟩:=j A outer s H vs Q E (G.deeper _) B;have I:Inv (cA CX0 P w K mg base N qual scope f cdv A outer s H E) [] (bC N vs) H s1:=lQ S G.hd e0 O r x;refine Mz (U [] s1 (bC N vs) H _ I Fn) (λfl s' hs=>?_) λe s' hs=>hs;have fin:∀{σ':St} {H':Hp} {v:V} {u:gV},Inv (cA CX0 P w K mg base N qual scope f cdv A outer s H E) [] σ' H' s'->RelV v u->Q v H'->CE outer P w H s Q u s':=λ{σ' H' v u} J rv q=>⟨v,H',J.os,J.bare,J.base,J.hok,rv,q⟩
 cases fl with
 |ret u=>obtain⟨v,σ',H',J,rv,q⟩:=hs;exact fin J rv q
 |next=>obtain⟨σ',H',J,q⟩:=hs;exact fin (v:=V.non) (u:=Ni) J rfl q
 |brk=>obtain⟨_,_,_,q⟩:=hs;exact False.elim q
 |cont=>obtain⟨_,_,_,q⟩:=hs;exact False.elim q
end
variable{fd:Nk}
section
open PySem.W (envX)
structure FunP(K:Frag)(x qual:Str)(st:Stmt)(f:N2)(fd:Nk)(P:N2):Prop where
 ex:∃(oc:gV) (od:Option N2) (kV doc pm:gV) (an:Option N2) (c:N2) (ct:gV) (osl:Array (Option gV)),
  fd=NL x qual (cW st) (bu st) (ao st) .none kV doc pm an (.ref c) ct/\K.lookup f=Z ⟨oc,od,.func fd,osl⟩/\Pk K (.ref c) qual=F2/\N8 K c P=F2
section
variable{P:Ln}{w:LL}{K:Frag}{mg:Str->Option gV}{base:Heap}{k:Nat}
theorem Fun.okS {st:Stmt}{sp:List Env->q7->Sp}(F:Fun K x qual st f fd)(S:cE N ps (ao st))(len:∀o s vs H Q E,sp o s vs H Q E->vs.length=ps.length)(j:∀(cdv:gV) (A:LQ) (outer:List Env) (s:q7) (H:Hp) (vs:List V) (Q:VK) (E:XK),Room k (A.deeper (Qs qual (ao st) s.heap.objs.size f cdv))->sp outer s vs H Q E->
   ∃t,PSs (cA CX0 P w K mg base N qual (ao st) f cdv A outer s H E).nox (bu st) t/\t {nx:=λ_ H'=>Q .non H',rt:=Q} (bC N vs) H):nH P w K mg base (k+1) f fd ps sp:=by
 obtain⟨oc,od,kV,doc,pm,an,cdv,ct,osl,rfl,lk,z⟩:=F.ex;refine D8 lk z S len λA outer s H vs Q E G B=>?_;obtain⟨t,h,q⟩:=j cdv A outer s H vs Q E G B;exact⟨t,h.nox,q⟩
theorem FunP.ok {st:Stmt}{sp:Sp}{T:N2}(F:FunP K x qual st f fd T)(S:cE N ps (ao st))(len:∀vs H Q E,sp vs H Q E->vs.length=ps.length)(j:∀(c:N2) (A:LQ) (outer:List Env) (s:q7) (H:Hp) (vs:List V) (Q:VK) (E:XK),N8 K c T=F2->Room k (A.deeper (Qs qual (ao st) s.heap.objs.size f (.ref c)))->sp vs H Q E->
   ∃t,PSs (cA CX0 P w K mg base N qual (ao st) f (.ref c) A outer s H E).nox (bu st) t/\t {nx:=λ_ H'=>Q .non H',rt:=Q} (bC N vs) H):FnOk P w K mg base CX0 (k+1) f fd ps sp:=by
 obtain⟨oc,od,kV,doc,pm,an,c,ct,osl,rfl,lk,z,hd⟩:=F.ex;refine A0 lk z S len λA outer s H vs Q E G B=>?_;obtain⟨t,h,q⟩:=j c A outer s H vs Q E hd G B;exact⟨t,h.nox,q⟩
end
section
variable{X:Cx}{pins:List (N2×Obj)}{σ:St}{H:Hp}{s:q7}{a:N2}{q:Str}{params:P9}{body:Expr}{scope:Scope}{xs:List Str}{y1 y2:Str}{js:List Nat}{gs:List V}{sp:Sp}{k:Nat}
theorem bN{cells:List (Str×N2)}{names:List (Str×Ob)}{c:N2}(h:(az cells names []).lookup x=Z c):cells.lookup x=Z c:=by
 rcases cK (Me h)with z|z
 ·simp at z
 ·exact z.1
theorem mf{cells:List (Str×N2)}{names:List (Str×Ob)}{c:N2}(j:cells.lookup x=Z c)(hx:(x,LN)∈names):(az cells names []).lookup x=Z c:=by
 have hm:=cL (acc:=[]) j (.inr hx)
 cases e:(az cells names []).lookup x with
 |some c'=>have:=bN e;rw[j]at this;cases this;rfl
 |none=>rw[List.lookup_eq_none_iff]at e;have:=e _ hm;simp at this
theorem ET{a1 a2:Arg}{u1 u2:gV}(j:a1.arg≠a2.arg)(z:fd.params=⟨[],[a1,a2],Y,[],[],Y,[]⟩)(hd:fd.defaults=.none)(B:fd.kwdefaults=.none):SW fd ⟨[u1,u2],[]⟩=pure [(a1.arg,u1),(a2.arg,u2)]:=by
 unfold SW;have e1:∀(x y:Str) (u v:gV),(([(x,u),(y,v)]:List (Str×gV)).lookup x).isNone=Md:=λx y u v=>by simp[Pm]
 have e2:∀(x y:Str) (u v:gV),(([(x,u),(y,v)]:List (Str×gV)).lookup y).isNone=Md:=λx y u v=>by
  simp only[Pm]
  split<;>simp
 have F:seqItems? Ni=pure Y:=rfl;simp only[Ri,z,hd,B,OR,Lc,PN,PV,List.zip_nil_right,UD,F,RZ,Mf,ND,List.drop_nil,List.filter_cons,List.filter_nil,List.take,e1,e2];have G:(a2.arg==a1.arg)=Md:=beq_eq_false_iff_ne.mpr (Ne.symm j);simp[Pm,G]
theorem yc (I:Inv X pins σ H s)(F:FnAt H a q params body scope (az X.env.cells scope.names []))(S:fV xs y1 y2 scope)(z:∀x∈xs,X.env.scope.names.lookup x=Z .cell)(G:∀(i:Nat) (x:Str),xs[i]?=Z x->∃j:Nat,X.N[j]?=Z x/\∀v:V,gs[i]?=Z v->σ[j]?=Z (Z v))(hlen:gs.length=xs.length)(Fn:∀(fd:Nk) (u1 u2:gV),fd.params=params->fd.defaults=.none->fd.kwdefaults=.none->SW fd ⟨[u1,u2],[]⟩=pure [(y1,u1),(y2,u2)])(B:∀(A:LQ) (outer:List Env) (s1:q7) (H1:Hp) (v1 v2:V) (Q:VK) (cd:gV),Un (frs X.stack) [] H H1 s.heap s1.heap->sp [v1,v2] H1 Q E0->Room k (A.deeper (envX q scope s1.heap.objs.size a cd (az X.env.cells scope.names [])))->
   ∃t,PE (cxL CX0 X.prog X.w X.K X.mg X.base (xs++[y1,y2]) q scope a cd (az X.env.cells scope.names []) A outer s1 H1 E0) body t/\t ((gs++[v1,v2]).map Z) H1 Q):
 ie X.prog X.w X.K X.mg X.base (k+1) (frs X.stack) a sp H s.heap:=by
 refine⟨(by obtain⟨pm,c',ctv,oc,vs,t,e1,_⟩:=F;exact⟨_,_,e1,rfl⟩),?_⟩
 intro A outer s1 H1 u1 u2 v1 v2 Q un fv e0 r1 r2 J;have nf:∀{c:N2} {v:Option gV},s.heap.IsCell c v->H c=Y->s1.heap.IsCell c v/\H1 c=Y:=λ{c v} g9 n=>by
  obtain⟨o,ho,hd⟩:=g9;obtain⟨sl,e⟩:=un.any ho n (by simp)
  exact⟨⟨_,e,hd⟩,un.free c o ho n (by simp)⟩
 have F1:FnAt H1 a q params body scope (az X.env.cells scope.names []):=by obtain⟨pm,c',ctv,oc,vs,t,e1,e2,r⟩:=F;exact⟨pm,c',ctv,oc,vs,t,un.frzs _ _ _ e1,un.frzs _ _ _ e2,r⟩
 refine AN fv e0 F1 S ⟨λx y c h1 h2=>I.ok.inj x y c (bN h1) (bN h2),λx c h=>?_,λx c h=>?_,λi x v h1 h2=>?_,λx hx=>?_,hlen⟩ (λfd h=>Fn fd u1 u2 h) r1 r2 λcd L=>B A outer s1 H1 v1 v2 Q cd un J L
 ·obtain⟨v,O⟩:=I.cell x c (bN h);exact(nf O (I.freeC x c (bN h))).2
 ·obtain⟨v,O⟩:=I.cell x c (bN h);exact⟨v,(nf O (I.freeC x c (bN h))).1⟩
 ·obtain⟨j,n1,n2⟩:=G i x h1;obtain⟨m,_,hl⟩:=I.loc;have U:=z x (Lj h1);obtain⟨u,rv,l⟩:=hl j x v n1 (n2 v h2) (.inr (.inl U))
  rcases l with⟨l,_⟩|⟨_,c,e1,e2⟩
  ·have l:X.env.scope.names.lookup x=Z .local:=l;rw[U]at l;cases l
  ·exact⟨c,u,mf e1 (Me (S.fr x (Lj h1))),(nf e2 (I.freeC x c e1)).1,rv⟩
 ·obtain⟨c,e1⟩:=I.ok.has x (.inl (z x hx));exact⟨c,mf e1 (Me (S.fr x hx))⟩
theorem yd(hex:X.ex=[])(B:Room k X.A)(C:ie X.prog X.w X.K X.mg X.base k X.fs a sp X.H₀ X.s₀.heap):∀(pins:List (N2×Obj)) (s:q7) (σ:St) (H:Hp) (v1 v2:V) (us:List gV) (Q:VK),Inv X pins σ H s->Vals [v1,v2] us->sp [v1,v2] H Q E0->Uh a s.heap/\La (model X.prog X.w) X.A (call (.ref a) us) (EP X pins σ Q) X.xe s:=by
 intro pins s σ H v1 v2 us Q I r hsp;obtain⟨u1,j,rfl,F,r'⟩:∃u1 j,us=u1::j/\RelV v1 u1/\Vals [v2] j:=by cases r with|cons h t=>exact⟨_,_,rfl,h,t⟩
 obtain⟨u2,rfl,G⟩:∃u2,j=[u2]/\RelV v2 u2:=by cases r' with|cons h t=>cases t;exact⟨_,rfl,h⟩
 have un:Un X.fs [] X.H₀ H X.s₀.heap s.heap:=by have:=I.base;rw[hex]at this;exact this
 obtain⟨⟨o,fd,ea,hd⟩,C⟩:=C;have ea:=(I.hok a _ (un.frzs _ _ _ ea)).1;refine⟨by obtain⟨oc,od,dt,sl⟩:=o;cases hd;exact⟨oc,od,fd,sl,ea⟩,?_⟩
 refine TU (Oo (C X.A X.stack s H u1 u2 v1 v2 Q un B I.env0 F G hsp) λr s' z=>?_)
 cases r with
 |error e=>exact z.elim
 |ok fl=>
  cases fl with
  |ret u=>exact I.after z
  |next=>exact False.elim z
  |brk=>exact False.elim z
  |cont=>exact False.elim z
end
end
section
open PySem.W (CodeHd tabObj)
structure nI(ts:List (N2×N2))(H:Hp):Prop where
 tab:∀q∈ts,H q.2=Z (.tbl #[])
 oth:∀b,H b=Y∨(∃o xs,H b=Z (.frz o (.lst xs)))∨∃q∈ts,b=q.2
def Scr(K:Frag)(H:Hp)(a:N2)(xs:List V):Prop:=(∃o,H a=Z (.frz o (.lst xs)))∨∃(o:Obj) (its:Array gV) (n:Nat),K.lookup a=Z o/\o.cls=.type "list"/\o.dict=Y/\o.data=.seq its n/\its.size<=L3/\Vals xs its.toList
theorem vy{mg mb:Str->Option gV}{k:Nat}{fa:N2}{sp:Sp}{vs:List gV}{ns:List Int}{ts:List (N2×N2)}(KX:K.In s.heap)(Fn:s.heap.Ns MB mg)(B:s.heap.Ns Sg mb)(II:∀x:Str,x≠"__name__"->mb x=OJ x)(fv:s.heap.NoLimit)(hg:s.gens=#[])(hB:fb mg s.heap)(U:s.heap.get? a=Z {cls:=.type "list",data:=.seq vs.toArray})(hi:Vk vs ns)(hl:ns.length<=L3)(hr:Room k Tj)(J:∀q∈ts,CodeHd s.heap q.1 q.2/\s.heap.get? q.2=Z (tabObj #[])/\K.lookup q.2=Y)(F:∀base:Heap,K.In base->base.Ns MB mg->fb mg base->FnOk P w K mg base CX0 k fa fd [x] sp)(O:∀(s:q7) (u:gV),Ti s fd ⟨[u],[]⟩ [(x,u)])(IJ:∀H:Hp,nI ts H->Scr K H a (ns.map V.int)->sp [.ref a] H (λv _=>v=.bl F2) λ_ _ _=>False):
 ON (model P w) Tj (.call (.ref fa) ⟨[.ref a],[]⟩) (λr s'=>r=.ok (.ret (.bool F2))/\OldK s.heap s'.heap/\s'.os=s.os/\Ry s'.gens) s:=by
 have rv:=lV hi;have lenV:=hi.length;have IG:∀q∈ts,a≠q.2:=λq j z=>by have e:=(J q j).2.1;rw[<-z,U]at e;cases e
 have core:∀H:Hp,nI ts H->Scr K H a (ns.map V.int)->HOk P w H s.heap->(∀b,H b≠Y->(b=a/\K.lookup a=Y)∨∃q∈ts,b=q.2)->
  ON (model P w) Tj (.call (.ref fa) ⟨[.ref a],[]⟩) (λr s'=>r=.ok (.ret (.bool F2))/\OldK s.heap s'.heap/\s'.os=s.os/\Ry s'.gens) s:=by
  intro H hO hS hok hA;have free:∀{b:N2} {o:Obj},s.heap.get? b=Z o->(o.cls≠.none)->(b≠a∨K.lookup a≠Y)->H b=Y:=λ{b o} e hc hn=>by
   cases q:H b with
   |none=>rfl
   |some u=>
    rcases hA b (by rw[q];simp)with⟨z,z2⟩|⟨p,G,z⟩
    ·rcases hn with n|n
     ·exact absurd z n
     ·exact absurd z2 n
    ·rw[z,(J p G).2.1]at e;cases e;exact absurd rfl hc
  have dfree:∀{b:N2} {o:Obj} {es:Array Mt} {ep:Nat},s.heap.get? b=Z o->o.data=.dict es ep->H b=Y:=λ{b o es ep} e d=>by
   cases q:H b with
   |none=>rfl
   |some u=>
    rcases hA b (by rw[q];simp)with⟨z,_⟩|⟨p,G,z⟩
    ·rw[z,U]at e;cases e;cases d
    ·rw[z,(J p G).2.1]at e;cases e;cases d
  have nsK:∀{b:N2} {m:Str->Option gV},s.heap.Ns b m->(fQ s.heap H).Ns b m:=λ{b m} g9=>(by obtain⟨o,es,ep,e,d,r⟩:=g9;exact⟨o,es,ep,iW e (dfree e d),d,r⟩)
  have IH:K.In (fQ s.heap H):=λb o e=>iW (KX b o e) (by
   cases q:H b with
   |none=>rfl
   |some u=>
    rcases hA b (by rw[q];simp)with⟨z,z2⟩|⟨p,G,z⟩
    ·rw[z,z2]at e;cases e
    ·rw[z,(J p G).2.2]at e;cases e)
  have IK:fb mg (fQ s.heap H):=by
   obtain⟨bm,ob,b1,b2,b3,b4,b5,b6⟩:=hB;refine⟨bm,ob,b1,b2,iW b3 (free b3 (by rw[b4];intro z;cases z) (.inl λz=>?_)),b4,b5,b6⟩
   rw[z,U]at b3;cases b3;cases b6
  have hM:Mod K mg (fQ s.heap H):=⟨IH,nsK Fn,⟨mb,nsK B,II⟩,let⟨mc,h1,h2⟩:=fv; ⟨mc,nsK h1,h2⟩⟩;have e0:gD P w K mg (fQ s.heap H) Tj [] s H:=⟨rfl,hM,λb o e=>Au e,Nat.le_of_eq (uW _ _),trivial,λb B=>absurd (show b∈([]:List N2)from B) (by simp),hok,.of_eq hg⟩
  refine Oo ((F _ IH (nsK Fn) IK).run Tj [] s H ⟨[.ref a],[]⟩ [.ref a] [.ref a] _ _ hr e0 (O s (.ref a)) (.cons rfl .nil) (IJ H hO hS)) λr s' h=>?_
  cases r with
  |error e=>exact h.elim
  |ok fl=>
   cases fl with
   |next=>exact False.elim h
   |brk=>exact False.elim h
   |cont=>exact False.elim h
   |ret u=>
    obtain⟨v,H',os,bare,un,L,r',q⟩:=h;have q':v=.bl F2:=q;subst q';obtain rfl:u=TQ F2:=r';refine⟨rfl,⟨λb o e=>?_,λb o e=>un.there b o e (by simp)⟩,os,bare⟩
    cases q:H b with
    |none=>exact .inl (un.keep b o e q (by intro z;exact absurd (show b∈([]:List N2)from z) (by simp)) (by simp))
    |some u=>
     rcases hO.oth b with z|⟨ob,xs,z⟩|⟨p,G,rfl⟩
     ·rw[q]at z;cases z
     ·have z2:=un.frzs b ob _ z;obtain⟨e1,_⟩:=hok b _ z;obtain⟨e2,_⟩:=L b _ z2;rw[e]at e1;cases e1;exact .inl e2
     ·obtain⟨more,e2⟩:=un.tbls _ _ (hO.tab p G);have e3:s'.heap.get? p.2=Z (tabObj (#[]++more)):=L _ _ e2;have e4:=(J p G).2.1;rw[e]at e4;cases e4;exact .inr (.inl ⟨((J p G).1.tab (J p G).2.1).isCodeTable,rfl,#[],more,rfl,e3⟩)
 let T0:Hp:=λb=>if ts.any (λq=>decide (q.2=b))=F2 then Z (.tbl #[])else Y
 have t1:∀b,(∃q∈ts,b=q.2)->T0 b=Z (.tbl #[]):=λb ⟨q,j,z⟩=>if_pos (MN.mpr ⟨q,j,decide_eq_true z.symm⟩);have t2:∀b,(¬∃q∈ts,b=q.2)->T0 b=Y:=λb hn=>if_neg λz=>by obtain⟨q,j,e⟩:=MN.mp z;exact hn ⟨q,j,(of_decide_eq_true e).symm⟩
 have tok:∀{H:Hp} {b:N2} {o:HO},T0 b=Z o->ObjOk P w H s.heap b o:=λ{H b o} e=>by
  by_cases z:∃q∈ts,b=q.2
  ·rw[t1 b z]at e;cases e;obtain⟨q,j,rfl⟩:=z;exact(J q j).2.1
  ·rw[t2 b z]at e;cases e
 have aT:¬∃q∈ts,a=q.2:=λ⟨q,j,z⟩=>IG q j z
 cases hk:K.lookup a with
 |some o=>
  have e:=KX a o hk;rw[U]at e
  cases e
  refine core T0 ⟨λq j=>t1 _ ⟨q,j,rfl⟩,λb=>?_⟩ (.inr ⟨_,vs.toArray,_,hk,rfl,rfl,rfl,by rw[L5,lenV];exact hl,by simpa using rv⟩) (λb u z=>tok z) λb z=>?_
  ·by_cases z:∃q∈ts,b=q.2
   ·exact .inr (.inr z)
   ·exact .inl (t2 b z)
  ·by_cases y:∃q∈ts,b=q.2
   ·exact .inr y
   ·exact absurd (t2 b y) z
 |none=>
  refine core (upd T0 a (.frz {cls:=.type "list",data:=.seq vs.toArray} (.lst (ns.map V.int)))) ⟨λq j=>by rw[am (Ne.symm (IG q j))];exact t1 _ ⟨q,j,rfl⟩,λb=>?_⟩ (.inl ⟨_,aC⟩) (λb u z=>?_) λb z=>?_
  ·by_cases B:b=a
   ·subst B;exact .inr (.inl ⟨_,_,aC⟩)
   ·rw[am B]
    by_cases z:∃q∈ts,b=q.2
    ·exact .inr (.inr z)
    ·exact .inl (t2 b z)
  ·by_cases B:b=a
   ·subst B;rw[aC]at z;cases z;exact⟨U,by rw[r0];exact hl,vs,_,rv,U⟩
   ·rw[am B]at z;exact tok z
  ·by_cases B:b=a
   ·exact .inl ⟨B,hk⟩
   ·rw[am B]at z
    by_cases y:∃q∈ts,b=q.2
    ·exact .inr y
    ·exact absurd (t2 b y) z
theorem walk_ofT {l:SF}{n k:Nat}{q:Ln}{loose:List Str}{XP:(Str->Option gV)->Heap->Prop}{YP:LL->Heap->Prop}{d:DefRec}{K:Params->Frag}{sp:LL->Sp}{ts:List (N2×N2)}(fv:l.most=Z n)(B:n<=L3)(J:d.params.defaults=[])(hr:Room k Tj)(hY:∀(w:LL) (h:Heap),YP w h->(K w.params).In h/\∀p∈ts.map (·.2),h.get? p=Z (tabObj #[]))(j:∀(w:LL),∀q∈ts,N8 (K w.params) q.1 q.2=F2/\(K w.params).lookup q.2=Y)(F:∀(w:LL) (mg:Str->Option gV) (fa:N2) (h:Heap),(K w.params).In h->h.Ns MB mg->mg d.name=Z (.ref fa)->
   ∃fd:Nk,(∀(s:q7) (u:gV),Ti s fd ⟨[u],[]⟩ [(x,u)]) /\
    ∀base:Heap,(K w.params).In base->base.Ns MB mg->fb mg base->FnOk l.prog w (K w.params) mg base CX0 k fa fd [x] (sp w))(L:∀(w:LL) (H:Hp) (a:N2) (ns:List Int),ns.length<=n->nI ts H->Scr (K w.params) H a (ns.map V.int)->sp w [.ref a] H (λv _=>v=.bl F2) λ_ _ _=>False):
 PySem.W.WalkO q loose XP YP l.row.toRowW d [] (λf vs=>Vu f vs):=by
 refine Att.attach_call fv J λw s₀ s₁ mg mb fa o pm cd doc a vs ns G Fn ho hd IG O z hints hlen hg=>?_;obtain⟨KX,hT⟩:=hY w _ Fn;obtain⟨fd,hb,hF⟩:=F w mg fa _ KX G.T.g O;exact vy KX G.T.g G.T.b G.T.builtins G.T.nolimit hg G.T.bmain z hints (Mu hlen B) hr (λq U=>⟨Tr KX (j w q U).1,hT q.2 (Lm U),(j w q U).2⟩) hF hb λH hO hS=>L w H a ns hlen hO hS
end
namespace Zp
def At(t:Bool)(h:Heap)(i l:N2)(k:Nat):Prop:=match t with|true=>h.IsTupleIter i l k|false=>h.IsListIter i l k
def Sq(t:Bool)(h:Heap)(l:N2)(xs:Array gV):Prop:=match t with|true=>h.IsTuple l xs|false=>h.IsList l xs
variable{h:Heap}{i l:N2}
theorem At.up{t:Bool}{h':Heap}{k:Nat}(x:At t h i l k)(e:∀o,h.get? i=Z o->h'.get? i=Z o):At t h' i l k:=by cases t<;>(obtain⟨o,ho,r⟩:=x;exact⟨o,e o ho,r⟩)
variable{xs:Array gV}
theorem Sq.up{t:Bool}{h':Heap}(x:Sq t h l xs)(e:∀o,h.get? l=Z o->h'.get? l=Z o):Sq t h' l xs:=by cases t<;>(obtain⟨o,ho,r⟩:=x;exact⟨o,e o ho,r⟩)
theorem At.lt{t:Bool}{k:Nat}(x:At t h i l k):∃o,h.get? i=Z o/\∀v,o.data≠.cell v:=by cases t<;>(obtain⟨o,ho,j,hd⟩:=x;exact⟨o,ho,λv z=>by rw[hd]at z;cases z⟩)
variable{x p r:gV}{z T j a b:N2}{u:Bool}{ys:Array gV}
section
variable{prog:Ln}{w:LL}{A:LQ}{E:gV->q7->Prop}{s:q7}
open Builtin.SmallTypes in
theorem ye{k:Nat}{Q:gV->q7->Prop}(hi:s.heap.IsTupleIter i l k)(L:s.heap.IsTuple l xs)(hx:xs[k]?=Z x)(q:∀h',h'.IsTupleIter i l (k+1)->MY i s.heap h'->Q x {s with heap:=h'}):La (model prog w) A (nextOf (.ref i)) Q E s:=by
 obtain⟨ob,z,B,j⟩:=id hi;obtain⟨oq,G,_,nq,J⟩:=L;unfold nextOf;refine g8 (LG (name:=Lw "__next__") hi.typeIs Oc (LR Oc hi.typeIs QZ ?_ (QO _)));refine g8 (m:=field (.ref i) 0) (LV z j (x:=.ref l) rfl ?_);refine(if_neg (c:=(LB l==Ni)=F2) KW)▸?_;refine g8 (m:=field (.ref i) 1) (LV z j (x:=.int k 0) rfl ?_);refine g8 (m:=seqItems? (.ref l)) (Od G J ?_);simp only[L6,hx];refine g8 (wpAny_setField z j (by simp) (z0 ⟨x,rfl,z0 (q _ ⟨_,SM _ z (Obj.isFreed_of_fields (U0 j _)),(Obj.cls_mapFields ..).trans B,?_⟩ (Ts ..))⟩))
 rw[U0 j];simp[NH]
open Builtin.SmallTypes in
theorem AO{k:Nat}{Q:gV->q7->Prop}(J:A.handled=Y)(hi:s.heap.IsTupleIter i l k)(L:s.heap.IsTuple l xs)(hx:xs[k]?=Y)(q:∀h' e,V4 i s.heap h'->(∃o,h'.get? e=Z o/\o.cls=.type "StopIteration")->E (.ref e) {s with heap:=h'}):La (model prog w) A (nextOf (.ref i)) Q E s:=by
 obtain⟨ob,j,O,z⟩:=id hi;obtain⟨oq,B,_,nq,G⟩:=L;unfold nextOf;refine g8 (LG (name:=Lw "__next__") hi.typeIs Oc (LR Oc hi.typeIs QZ ?_ (QO _)));refine g8 (m:=field (.ref i) 0) (LV j z (x:=.ref l) rfl ?_);refine(if_neg (c:=(LB l==Ni)=F2) KW)▸?_;refine g8 (m:=field (.ref i) 1) (LV j z (x:=.int k 0) rfl ?_);refine g8 (m:=seqItems? (.ref l)) (Od B G ?_);simp only[L6,hx];refine g8 (Nt (g8 (wpAny_setField j z (by simp) ?_)))
 refine g8 (m:=Vw (.type "StopIteration") []) ?_;simp only[Vw,Vx];refine g8 (MQ ?_ (by size_fits))
 refine g8 (m:=Pn _ _) (Oq (a:=Ni) (by first|rfl|(simp only[Pn];rfl)) (MQ ?_ (by size_fits)))
 simp only[raiseNew];refine g8 (Tw ?_)
 first|rw[show A.in1.handled=Y from J]|rw[J]
 exact g8 (z0 (V5 (q _ _ (((Ts ..).extBut.push _).push _) ⟨_,KY _ rfl,rfl⟩)))
open Builtin.SmallTypes in
theorem dM{t:Bool}{k:Nat}{Q:gV->q7->Prop}(hi:At t s.heap i l k)(j:Sq t s.heap l xs)(hx:xs[k]?=Z x)(q:∀h',At t h' i l (k+1)->MY i s.heap h'->Q x {s with heap:=h'}):La (model prog w) A (nextOf (.ref i)) Q E s:=by
 cases t with
 |true=>exact ye hi j hx q
 |false=>exact wpAny_nextOf_list_item hi j hx q
open Builtin.SmallTypes in
theorem nx_end{t:Bool}{k:Nat}{Q:gV->q7->Prop}(j:A.handled=Y)(hi:At t s.heap i l k)(z:Sq t s.heap l xs)(hx:xs[k]?=Y)(q:∀h' e,V4 i s.heap h'->(∃o,h'.get? e=Z o/\o.cls=.type "StopIteration")->E (.ref e) {s with heap:=h'}):La (model prog w) A (nextOf (.ref i)) Q E s:=by
 cases t with
 |true=>exact AO j hi z hx q
 |false=>exact wpAny_nextOf_list_end j hi z hx q
open Builtin.SmallTypes in
theorem D9 {O:N2}{t:Bool}{k:Nat}{y:gV}{Q:gV->q7->Prop}(D:T5 z T O i j a b)(G:RC s.heap z T O .none)(hT:OA s.heap T (.ref i) (.ref j))(hO:OA s.heap O p r)(hi:At t s.heap i a k)(hj:At u s.heap j b k)(ha:Sq t s.heap a xs)(hb:Sq u s.heap b ys)(hx:xs[k]?=Z x)(hy:ys[k]?=Z y)(q:∀h',RC h' z T O (NH s.heap.objs.size)->OA h' O x y->At t h' i a (k+1)->At u h' j b (k+1)->OA h' s.heap.objs.size x y->
   (∀c o,c≠z->c≠O->c≠i->c≠j->s.heap.get? c=Z o->h'.get? c=Z o)->Q (.ref s.heap.objs.size) {s with heap:=h'}):
 La (model prog w) A (Nq.«zip.__next__» ⟨[.ref z],[]⟩) (λfin s'=>∃v,fin=.done (.ret v)/\Q v s') E s:=by
 refine g8 (m:=field (.ref z) 2) (LV G rfl (x:=.bool Md) rfl ?_);refine g8 (m:=field (.ref z) 3) (LV G rfl (x:=.ref T) rfl ?_);refine g8 (Od hT rfl ?_);refine g8 (m:=ownedTupleIsFree (.ref z)) ?_;unfold ownedTupleIsFree;refine g8 (LV G rfl (x:=.none) rfl (z0 ?_));simp only[if_true];refine g8 (Nt (g8 (LV G rfl (x:=.ref O) rfl (g8 (Lv G (by simp) λg1 z1 s1=>?_)))))
 have Z1:RC g1 z T O .ellipsis:=z1;clear z1;refine g8 ?_;simp only[S2,Ve,OZ,Ri];refine g8 (g8 (RN (g8 (m:=nextOf (.ref i)) ?_)));refine dM (hi.up λo e=>s1.extBut _ o D.i1z e) (ha.up λo e=>s1.extBut _ o D.l1z e) hx λg2 U s2=>z0 ?_;have O2:OA g2 O p r:=s2.extBut _ _ D.TOi1 (s1.extBut _ _ D.TOz hO);refine g8 (Od O2 rfl (g8 (QH O2 λg3 o3 s3=>?_)));have O3:OA g3 O x r:=o3;clear o3;refine g8 (RE (z0 (g8 (g8 (RN (g8 (m:=nextOf (.ref j)) ?_))))));refine dM (hj.up λo e=>s3.extBut _ o D.TOi2.symm (s2.extBut _ o D.i12.symm (s1.extBut _ o D.i2z e))) (hb.up λo e=>s3.extBut _ o D.l2TO (s2.extBut _ o D.l2i1 (s1.extBut _ o D.l2z e))) hy λg4 Fn s4=>z0 ?_;have O4:OA g4 O x r:=s4.extBut _ _ D.TOi2 O3;refine g8 (Od O4 rfl (g8 (QH O4 λB o5 s5=>?_)));have O5:OA B O x y:=o5;clear o5;refine g8 (RE (z0 (z0 (g8 (Od O5 rfl (g8 (Qf ?_)))))));have sz:B.objs.size=s.heap.objs.size:=by rw[s5.1,s4.1,s3.1,s2.1,s1.1]
 have k5:∀c o,c≠z->c≠O->c≠i->c≠j->s.heap.get? c=Z o->B.get? c=Z o:=λc o F J fv c4 e=>s5.extBut _ _ J (s4.extBut _ _ c4 (s3.extBut _ _ J (s2.extBut _ _ fv (s1.extBut _ _ F e))))
 have Z5:RC B z T O .ellipsis:=s5.extBut _ _ D.TOz.symm (s4.extBut _ _ D.i2z.symm (s3.extBut _ _ D.TOz.symm (s2.extBut _ _ D.i1z.symm Z1)));have I5:At t B i a (k+1):=U.up λo e=>s5.extBut _ o D.TOi1.symm (s4.extBut _ o D.i12 (s3.extBut _ o D.TOi1.symm e));have J5:At u B j b (k+1):=Fn.up λo e=>s5.extBut _ o D.TOi2.symm e;have zl:z<B.objs.size:=KR Z5;refine g8 (m:=ownedTupleHandOut (.ref z) (.ref B.objs.size)) ?_;unfold ownedTupleHandOut;refine g8 (Lv (i0 _ Z5) (by simp) λg7 z7 s7=>?_)
 have Z7:RC g7 z T O (NH B.objs.size):=z7;clear z7;refine Lv Z7 (by simp) λL z8 s8=>?_
 have Z8:RC L z T O (NH B.objs.size):=z8;clear z8;have up:∀c o,c≠z->B.get? c=Z o->L.get? c=Z o:=λc o F e=>s8.extBut _ _ F (s7.extBut _ _ F (i0 _ e));have P8:OA L B.objs.size x y:=s8.extBut _ _ (MD zl) (s7.extBut _ _ (MD zl) (KY _ rfl));rw[sz]at Z8 P8;refine z0 ⟨_,rfl,?_⟩;show Q (.ref B.objs.size) _;rw[sz];exact q L Z8 (up _ _ D.TOz O5) (I5.up λo e=>up _ o D.i1z e) (J5.up λo e=>up _ o D.i2z e) P8 λc o F J fv c4 e=>up c o F (k5 c o F J fv c4 e)
open Builtin.SmallTypes in
theorem EU{O:N2}{t:Bool}{k:Nat}{Q:Fin->q7->Prop}(hn:A.handled=Y)(D:T5 z T O i j a b)(G:RC s.heap z T O .none)(hT:OA s.heap T (.ref i) (.ref j))(hO:OA s.heap O p r)(hi:At t s.heap i a k)(hj:At u s.heap j b k)(ha:Sq t s.heap a xs)(hb:Sq u s.heap b ys)(J:xs[k]?=Y∨ys[k]?=Y)(q:∀h' e,(∀c o,c≠z->c≠O->c≠i->c≠j->s.heap.get? c=Z o->h'.get? c=Z o)->(∃o,h'.get? e=Z o/\o.cls=.type "StopIteration")->E (.ref e) {s with heap:=h'}):
 La (model prog w) A (Nq.«zip.__next__» ⟨[.ref z],[]⟩) Q E s:=by
 refine g8 (m:=field (.ref z) 2) (LV G rfl (x:=.bool Md) rfl ?_);refine g8 (m:=field (.ref z) 3) (LV G rfl (x:=.ref T) rfl ?_);refine g8 (Od hT rfl ?_);refine g8 (m:=ownedTupleIsFree (.ref z)) ?_;unfold ownedTupleIsFree;refine g8 (LV G rfl (x:=.none) rfl (z0 ?_));simp only[if_true];refine g8 (Nt (g8 (LV G rfl (x:=.ref O) rfl (g8 (Lv G (by simp) λg1 z1 s1=>?_)))))
 have Z1:RC g1 z T O .ellipsis:=z1;clear z1;refine g8 ?_;simp only[S2,Ve,OZ,Ri];refine g8 (g8 (RN (g8 (m:=nextOf (.ref i)) ?_)));have L:At t g1 i a k:=hi.up λo e=>s1.extBut _ o D.i1z e;have U:Sq t g1 a xs:=ha.up λo e=>s1.extBut _ o D.l1z e
 cases hx:xs[k]? with
 |none=>
  refine nx_end hn L U hx λg2 e s2 he=>?_;obtain⟨oe,B,F⟩:=he;have Z2:RC g2 z T O .ellipsis:=s2 _ _ D.i1z.symm Z1;have ez:e≠z:=λx=>by subst x;rw[Z2]at B;cases B;simp at F
  exact Lv Z2 (by simp) λg3 _ s3=>q g3 e (λc o Fn _ fv _ x=>s3.extBut _ _ Fn (s2 _ _ fv (s1.extBut _ _ Fn x))) ⟨oe,s3.extBut _ _ ez B,F⟩
 |some x=>
  have hy:ys[k]?=Y:=J.elim (λz=>by rw[hx]at z;cases z) id
  refine dM L U hx λg2 IG s2=>z0 ?_;have O2:OA g2 O p r:=s2.extBut _ _ D.TOi1 (s1.extBut _ _ D.TOz hO);refine g8 (Od O2 rfl (g8 (QH O2 λg3 o3 s3=>?_)));refine g8 (RE (z0 (g8 (g8 (RN (g8 (m:=nextOf (.ref j)) ?_))))));refine nx_end hn (hj.up λo e=>s3.extBut _ o D.TOi2.symm (s2.extBut _ o D.i12.symm (s1.extBut _ o D.i2z e))) (hb.up λo e=>s3.extBut _ o D.l2TO (s2.extBut _ o D.l2i1 (s1.extBut _ o D.l2z e))) hy λg4 e s4 he=>?_;obtain⟨oe,B,F⟩:=he;have Z4:RC g4 z T O .ellipsis:=s4 _ _ D.i2z.symm (s3.extBut _ _ D.TOz.symm (s2.extBut _ _ D.i1z.symm Z1));have ez:e≠z:=λx=>by subst x;rw[Z4]at B;cases B;simp at F
  exact Lv Z4 (by simp) λg5 _ s5=>q g5 e (λc o Fn c2 fv c4 x=>s5.extBut _ _ Fn (s4 _ _ c4 (s3.extBut _ _ c2 (s2.extBut _ _ fv (s1.extBut _ _ Fn x))))) ⟨oe,s5.extBut _ _ ez B,F⟩
theorem nxt_item {O:N2}{t:Bool}{k:Nat}{y:gV}{Q:Option gV->q7->Prop}(D:T5 z T O i j a b)(B:RC s.heap z T O .none)(G:OA s.heap T (.ref i) (.ref j))(J:OA s.heap O p r)(hi:At t s.heap i a k)(L:At u s.heap j b k)(U:Sq t s.heap a xs)(Fn:Sq u s.heap b ys)(hx:xs[k]?=Z x)(fv:ys[k]?=Z y)(q:∀h',RC h' z T O (NH s.heap.objs.size)->OA h' O x y->At t h' i a (k+1)->At u h' j b (k+1)->OA h' s.heap.objs.size x y->
   (∀c o,c≠z->c≠O->c≠i->c≠j->s.heap.get? c=Z o->h'.get? c=Z o)->Q (Z (.ref s.heap.objs.size)) {s with heap:=h'}):
 La (model prog w) A (O9 (.ref z)) Q E s:=by
 have ty:s.TypeIs (.ref z) "zip":=⟨_,B,rfl⟩;unfold O9;exact g8 (NZ (LG (name:=Lw "__next__") ty QP (LR QP ty UG
  (D9 D B G J hi L U Fn hx fv λh' a1 a2 a3 a4 a5 a6=>z0 (q h' a1 a2 a3 a4 a5 a6)) (Ui _))))
theorem nxt_end{O:N2}{t:Bool}{k:Nat}{Q:Option gV->q7->Prop}(J:A.handled=Y)(D:T5 z T O i j a b)(G:RC s.heap z T O .none)(L:OA s.heap T (.ref i) (.ref j))(U:OA s.heap O p r)(hi:At t s.heap i a k)(Fn:At u s.heap j b k)(fv:Sq t s.heap a xs)(hb:Sq u s.heap b ys)(B:xs[k]?=Y∨ys[k]?=Y)(q:∀h',(∀c o,c≠z->c≠O->c≠i->c≠j->s.heap.get? c=Z o->h'.get? c=Z o)->Q Y {s with heap:=h'}):La (model prog w) A (O9 (.ref z)) Q E s:=by
 have ty:s.TypeIs (.ref z) "zip":=⟨_,G,rfl⟩;unfold O9;refine g8 (NZ (LG (name:=Lw "__next__") ty QP (LR QP ty UG
  (EU J D G L U hi Fn fv hb B λh' e hk he=>?_) (Ui _))))
 obtain⟨o,ho,hc⟩:=he;exact g8 (OE (T:="StopIteration") (b:=F2) ⟨o,ho,hc⟩ Rj (z0 (q _ hk)))
noncomputable def itO(t:Bool)(l:N2):Obj:=match t with|true=>{cls:=.type "tuple_iterator",data:=.fields #[.ref l,.int 0 0]}|false=>{cls:=.type "list_iterator",data:=.fields #[.ref l,.int 0 0]}
noncomputable def zH1(h:Heap)(t:Bool)(a:N2):Heap:=h.push (itO t a)
noncomputable def zH2(h:Heap)(t u:Bool)(a b:N2):Heap:=(zH1 h t a).push (itO u b)
noncomputable def zH3(h:Heap)(t u:Bool)(a b:N2):Heap:=(zH2 h t u a b).push {cls:=.type "tuple",data:=.seq #[.ref h.objs.size,.ref (zH1 h t a).objs.size]}
noncomputable def zH4(h:Heap)(t u:Bool)(a b:N2):Heap:=(zH3 h t u a b).push {cls:=.type "tuple",data:=.seq #[.none,.none]}
noncomputable def zH5(h:Heap)(t u:Bool)(a b:N2):Heap:=(zH4 h t u a b).push {cls:=.type "zip",data:=.fields #[.none,.bool Md,.bool Md,.ref (zH2 h t u a b).objs.size,.ref (zH3 h t u a b).objs.size]}
theorem vz(t u:Bool)(a b:N2)(xs ys:Array gV):
 Meets (Nq.«zip.__new__» ⟨[.type "zip",.ref a,.ref b],[]⟩) (λ_ R s=>Sq t s.heap a xs/\Sq u s.heap b ys/\R (.ok (.ret (.ref (zH4 s.heap t u a b).objs.size))) {s with heap:=zH5 s.heap t u a b}):=
 .of_wp λprog w A R s h=>by
  obtain⟨j,g,d,tk,os⟩:=s;obtain⟨z,B,h⟩:=h;have hs:=sub_zip
  cases t<;>cases u
  ·have e1:T6 (OI ⟨j,g,d,tk,os⟩) a xs:=z;have e2:T6 (OI ⟨j.push {cls:=.type "list_iterator",data:=.fields #[.ref a,.int 0 0]},g,d,tk,os⟩) b ys:=UH B _
   wp_walk using NQ e1,NQ e2
   exact⟨_,rfl,h⟩
  ·have e1:T6 (OI ⟨j,g,d,tk,os⟩) a xs:=z;have e2:R0 (OI ⟨j.push {cls:=.type "list_iterator",data:=.fields #[.ref a,.int 0 0]},g,d,tk,os⟩) b ys:=Uj B _
   wp_walk using NQ e1,Nj e2
   exact⟨_,rfl,h⟩
  ·have e1:R0 (OI ⟨j,g,d,tk,os⟩) a xs:=z;have e2:T6 (OI ⟨j.push {cls:=.type "tuple_iterator",data:=.fields #[.ref a,.int 0 0]},g,d,tk,os⟩) b ys:=UH B _
   wp_walk using Nj e1,NQ e2
   exact⟨_,rfl,h⟩
  ·have e1:R0 (OI ⟨j,g,d,tk,os⟩) a xs:=z;have e2:R0 (OI ⟨j.push {cls:=.type "tuple_iterator",data:=.fields #[.ref a,.int 0 0]},g,d,tk,os⟩) b ys:=Uj B _
   wp_walk using Nj e1,Nj e2
   exact⟨_,rfl,h⟩
theorem at_new{t:Bool}(e:h.get? i=Z (itO t l)):At t h i l 0:=by cases t<;>exact⟨_,e,rfl,rfl⟩
theorem call_zip {t:Bool}{Q:gV->q7->Prop}(ha:Sq t s.heap a xs)(hb:Sq u s.heap b ys)(q:∀h',RC h' (s.heap.objs.size+4) (s.heap.objs.size+2) (s.heap.objs.size+3) .none->OA h' (s.heap.objs.size+2) (.ref s.heap.objs.size) (.ref (s.heap.objs.size+1))->
   OA h' (s.heap.objs.size+3) .none .none->At t h' s.heap.objs.size a 0->At u h' (s.heap.objs.size+1) b 0->h'.objs.size=s.heap.objs.size+5->
   (∀c o,s.heap.get? c=Z o->h'.get? c=Z o)->Q (.ref (s.heap.objs.size+4)) {s with heap:=h'}):
 La (model prog w) A (call (.type "zip") [.ref a,.ref b]) Q E s:=by
 refine callType_new F.called_zip (by decide) (F.typeCall_zip_2 _ _) (F.newCall_zip_2 _ _) (λobj=>F.args_object_init_3 obj _ _) F.entry_zip_new (vz t u a b xs ys) ⟨ha,hb,?_⟩
 have B:(zH1 s.heap t a).objs.size=s.heap.objs.size+1:=Nf ..;have G:(zH2 s.heap t u a b).objs.size=s.heap.objs.size+2:=by unfold zH2;rw[Nf,B]
 have J:(zH3 s.heap t u a b).objs.size=s.heap.objs.size+3:=by unfold zH3;rw[Nf,G]
 have L:(zH4 s.heap t u a b).objs.size=s.heap.objs.size+4:=by unfold zH4;rw[Nf,J]
 have z5:(zH5 s.heap t u a b).objs.size=s.heap.objs.size+5:=by unfold zH5;rw[Nf,L]
 have j:∀{c o},(zH4 s.heap t u a b).get? c=Z o->(zH5 s.heap t u a b).get? c=Z o:=λe=>i0 _ e;have z:∀{c o},(zH3 s.heap t u a b).get? c=Z o->(zH4 s.heap t u a b).get? c=Z o:=λe=>i0 _ e;have O:∀{c o},(zH2 s.heap t u a b).get? c=Z o->(zH3 s.heap t u a b).get? c=Z o:=λe=>i0 _ e;have Fn:∀{c o},(zH1 s.heap t a).get? c=Z o->(zH2 s.heap t u a b).get? c=Z o:=λe=>i0 _ e;have k1:∀{c o},s.heap.get? c=Z o->(zH1 s.heap t a).get? c=Z o:=λe=>i0 _ e;have f:∀t l,(itO t l).isFreed=Md:=λt l=>by cases t<;>rfl
 have U:(zH5 s.heap t u a b).get? (zH4 s.heap t u a b).objs.size=Z _:=KY _ rfl;have fv:(zH5 s.heap t u a b).get? (zH3 s.heap t u a b).objs.size=Z _:=j (KY _ rfl);have g3:(zH5 s.heap t u a b).get? (zH2 s.heap t u a b).objs.size=Z _:=j (z (KY _ rfl));have g2:(zH5 s.heap t u a b).get? (zH1 s.heap t a).objs.size=Z _:=j (z (O (KY _ (f u b))));have g1:(zH5 s.heap t u a b).get? s.heap.objs.size=Z _:=j (z (O (Fn (KY _ (f t a)))));show _/\_;rw[G,J,L]at U;rw[B,G]at g3;rw[J]at fv;rw[B]at g2;rw[L];exact⟨⟨_,U,rfl⟩,q _ U g3 fv (at_new g1) (at_new g2) z5 λc o x=>j (z (O (Fn (k1 x))))⟩
end
end Zp
variable{p:Pos}{elts:List Expr}{ta:TA}
section
section
variable{X:Cx}{pins:List (N2×Obj)}{σ:St}{H:Hp}{s:q7}{h':Heap}
theorem Inv.turnedL{fp:List N2}(I:Inv X pins σ H s)(hf:∀b∈fp,cH X pins H b)(k:∀b o,b∉fp->s.heap.get? b=Z o->h'.get? b=Z o):Inv X pins σ H {s with heap:=h',toks:=t'}:=by
 have nit:∀b u,H b=Z u->b∉fp:=λb u e z=>by rw[(hf b z).1]at e;cases e
 refine I.step (g':=s.gens) (d':=s.drawn) (ch:=fp) (λb B=>?_) (λb o _ _ j e _=>k b o j e) (λb o _ _ j e _=>⟨o.slots,k b o j e⟩) (λ_ _ _ _ n=>n)
  (λb o j e=>⟨o,k b o j e⟩) (λ_ _ e=>e) (λ_ _ _ e=>e) (λb ps e=>⟨#[],by rw[e];simp⟩) (λm hm=>?_) (λb u e=>?_) I.bare
 ·obtain⟨_,f1,_,F,f4,G⟩:=hf b B;exact⟨F,f1,f4,G⟩
 ·obtain⟨o,es,ep,ho,r⟩:=hm;exact⟨o,es,ep,k _ o (λz=>(hf _ z).2.1 rfl) ho,r⟩
 ·refine(I.hok b u e).stay (λc v j q=>k c v ?_ q) (λ_ q=>q) λ_ _ q=>q
  rcases j with z|z
  ·rw[z];exact nit b u e
  ·exact nit c _ z
end
def SqV(K:Frag)(t:Bool)(H:Hp)(a:N2)(xs:List V):Prop:=match t with|true=>SqT K H a xs|false=>SqL K H a xs
theorem Inv.sqv{t:Bool}{xs:List V}(I:Inv X pins σ H s)(h:SqV X.K t H a xs):∃its:List gV,Vals xs its/\Zp.Sq t s.heap a its.toArray:=by
 cases t with
 |true=>obtain⟨its,r,p,_⟩:=I.tuple h;exact⟨its,r,p⟩
 |false=>obtain⟨its,r,p,_⟩:=I.list h;exact⟨its,r,p.isList⟩
theorem Inv.sqv_inj{t:Bool}{xs ys:List V}(I:Inv X pins σ H s)(h:SqV X.K t H a xs)(h':SqV X.K t H a ys):xs=ys:=by
 cases t with
 |true=>exact I.tuple_inj h h'
 |false=>exact I.list_inj h h'
noncomputable def Itz(K:Frag)(t u:Bool)(a b:N2):It:=
 ⟨λi H=>∃xs ys x y,SqV K t H a xs/\SqV K u H b ys/\xs[i]?=Z x/\ys[i]?=Z y,
  λi H v H'=>∃p x y,H p=Y/\v=.ref p/\H'=upd H p (.tup [x,y])/\∀xs ys,SqV K t H a xs->SqV K u H b ys->xs[i]?=Z x/\ys[i]?=Z y,
  λi H=>∃xs ys,SqV K t H a xs/\SqV K u H b ys/\(xs.length<=i∨ys.length<=i)⟩
theorem yf{cx}{t u:Bool}{z T O i j:N2}(D:T5 z T O i j a b):
 iX P w K (.Tuple elts cx pos) (Itz K t u a b) [z,T,O,i,j] z (λk h=>RC h z T O .none/\OA h T (.ref i) (.ref j)/\(∃p r,OA h O p r)/\Zp.At t h i a k/\Zp.At u h j b k) where
 mem:=by simp
 obj:=λk h ⟨F,G,⟨p,r,J⟩,hi,L⟩ c B=>by
  simp only[KZ,LK,or_false]at B
  rcases B with rfl|rfl|rfl|rfl|rfl
  ·exact⟨_,F,λv e=>by cases e⟩
  ·exact⟨_,G,λv e=>by cases e⟩
  ·exact⟨_,J,λv e=>by cases e⟩
  ·exact hi.lt
  ·exact L.lt
 keep:=λk h h' g9 kk=>(by obtain⟨F,G,⟨p,r,J⟩,hi,L⟩:=g9;exact⟨kk z (by simp) _ F,kk T (by simp) _ G,⟨p,r,kk O (by simp) _ J⟩,hi.up λo e=>kk i (by simp) o e,L.up λo e=>kk j (by simp) o e⟩)
 item:=by
  intro X fv hw hK B k pins s σ H E I hf st hg;subst fv hw hK;obtain⟨F,G,⟨p,r,J⟩,hi,L⟩:=st;obtain⟨xs,ys,x,y,qx,qy,ex,ey⟩:=hg;obtain⟨is,rx,px⟩:=I.sqv qx;obtain⟨js,ry,py⟩:=I.sqv qy;obtain⟨ux,IG,rux⟩:=rx.get ex;obtain⟨uy,IH,ruy⟩:=ry.get ey;refine Zp.nxt_item D F G J hi L px py (by simpa using IG) (by simpa using IH) λh1 z1 o1 i1 j1 p1 Fn=>⟨_,rfl,?_⟩
  refine wpAny_letOwnedTupleGo_zip (s:={s with heap:=h1}) z1 λh2 z2 s2=>?_
  have lt:∀{c o},s.heap.get? c=Z o->c≠s.heap.objs.size:=λe=>Lr (KR e);have nz:s.heap.objs.size≠z:=(lt F).symm;have II:∃o,s.heap.get? i=Z o:=hi.lt.imp λ_ h=>h.1;have IJ:∃o,s.heap.get? j=Z o:=L.lt.imp λ_ h=>h.1;have up:∀c o,c≠z->h1.get? c=Z o->h2.get? c=Z o:=λc o n e=>s2.extBut _ _ n e;have IL:Inv X pins σ (upd H s.heap.objs.size (.tup [x,y])) {s with heap:=s.heap.push {cls:=.type "tuple",data:=.seq #[ux,uy]},toks:=s.toks}:=I.laid (λb o e=>i0 _ e) (Le _) ⟨by rw[D2];simp,[ux,uy],.cons rux (.cons ruy .nil),R9 _ _⟩
  have fr:∀c∈[z,T,O,i,j],c≠s.heap.objs.size:=λc B=>by
   simp only[KZ,LK,or_false]at B
   rcases B with rfl|rfl|rfl|rfl|rfl
   ·exact lt F
   ·exact lt G
   ·exact lt J
   ·obtain⟨o,e⟩:=II;exact lt e
   ·obtain⟨o,e⟩:=IJ;exact lt e
  have un:∀c∈[z,T,O,i,j],upd H s.heap.objs.size (.tup [x,y]) c=Y:=λc B=>by rw[am (fr c B)];exact(hf c B).1
  have kk:∀c o,c∉[z,T,O,i,j]->(s.heap.push {cls:=.type "tuple",data:=.seq #[ux,uy]}).get? c=Z o->h2.get? c=Z o:=λc o B e=>by
   simp only[KZ,LK,or_false,not_or]at B
   rcases T7 e with⟨rfl,rfl⟩|e
   ·exact up _ _ nz p1
   ·exact up _ _ B.1 (Fn c o B.1 B.2.2.1 B.2.2.2.1 B.2.2.2.2 e)
  have I2:Inv X pins σ (upd H s.heap.objs.size (.tup [x,y])) {s with heap:=h2,toks:=s.toks}:=(Inv.turnedL (s:={s with heap:=s.heap.push {cls:=.type "tuple",data:=.seq #[ux,uy]},toks:=s.toks}) (h':=h2) (t':=s.toks) (fp:=[z,T,O,i,j]) IL (λc B=>⟨un c B,(hf c B).2⟩) kk)
  refine⟨.ref s.heap.objs.size,_,I2,rfl,⟨_,x,y,I.hok.fresh (Le _),rfl,rfl,λxs' ys' q1 q2=>?_⟩,⟨z2,up _ _ D.TIz (Fn _ _ D.TIz D.TITO D.TIi1 D.TIi2 G),⟨_,_,up _ _ D.TOz o1⟩,i1.up λo e=>up _ o D.i1z e,j1.up λo e=>up _ o D.i2z e⟩,un⟩;rw[I.sqv_inj q1 qx,I.sqv_inj q2 qy];exact⟨ex,ey⟩
 done:=by
  intro X fv hw hK B k pins s σ H E I hf st hg;subst fv hw hK;obtain⟨F,G,⟨p,r,J⟩,hi,L⟩:=st;obtain⟨xs,ys,qx,qy,U⟩:=hg;obtain⟨is,rx,px⟩:=I.sqv qx;obtain⟨js,ry,py⟩:=I.sqv qy;have lx:=rx.length;have ly:=ry.length;refine Zp.nxt_end (I.ok.hd B) D F G J hi L px py (U.imp (λe=>by simp;lia) (λe=>by simp;lia)) λh1 Fn=>⟨rfl,I.turnedL (t':=s.toks) hf λc o B e=>?_⟩
  simp only[KZ,LK,or_false,not_or]at B;exact Fn c o B.1 B.2.2.1 B.2.2.2.1 B.2.2.2.2 e
 self:=λA k s Q E st h=>UI st.1 h
section
variable{X:Cx}
noncomputable def Gj(K:Frag)(ta:TA):TI:=λσ H R=>ta σ H λvs H1=>∃a b t u xs ys,vs=[.ref a,.ref b]/\SqV K t H1 a xs/\SqV K u H1 b ys/\R (Itz K t u a b) H1
theorem Da{cx}{a b:Expr}(G:Gl X "zip")(hm:X.mg "zip"=Y)(J:PA X [a,b] ta)(hs:Ll [a,b] X.env=[(Md,eval a X.env),(Md,eval b X.env)])(j:Ll [b] X.env=[(Md,eval b X.env)]):
 PI X (.Tuple elts cx pos) (.Call (.Name "zip" p) [a,b] [] pos') (Gj X.K ta):=by
 intro pins s σ H R I h;refine Call_ (cm I G hm (u:=.type "zip") (by decide +kernel) (MA (thn (J pos' pins s σ H _ I h) λus s1 g9=>?_) (by rw[hs,j]) (by rw[j];rfl)));obtain⟨vs,H1,z,L,O⟩:=g9
 obtain⟨a',b',t,u,xs,ys,rfl,qx,qy,q⟩:=O
 cases L with
 |cons r rr=>
  cases rr with
  |cons r' rr=>
   cases rr
   cases r
   cases r'
   obtain⟨is,rx,px⟩:=z.sqv qx;obtain⟨js,ry,py⟩:=z.sqv qy;refine Zp.call_zip px py λh1 B t1 U Fn fv sz k1=>?_;refine UI B ?_;have la:a'<s1.heap.objs.size:=by cases t<;>(obtain⟨o,e,_⟩:=px;exact KR e)
   have lb:b'<s1.heap.objs.size:=by cases u<;>(obtain⟨o,e,_⟩:=py;exact KR e)
   have D:T5 (s1.heap.objs.size+4) (s1.heap.objs.size+2) (s1.heap.objs.size+3) s1.heap.objs.size (s1.heap.objs.size+1) a' b':=by constructor<;>(intro e;subst_vars;first|lia|(simp only[N2]at *;lia))
   refine⟨_,_,_,_,H1,rfl,z.kept (t':=s1.toks) k1,yf (t:=t) (u:=u) D,⟨B,t1,⟨_,_,U⟩,Fn,fv⟩,λc F=>?_,q⟩;have hle:s1.heap.objs.size<=c:=by
    simp only[KZ,LK,or_false]at F
    rcases F with rfl|rfl|rfl|rfl|rfl<;>lia
   exact z.fpOk hle (z.hok.fresh hle)
end
end
namespace Zp
end Zp
namespace En
variable{z i a:N2}{xs:Array gV}{old:gV}
section
variable{prog:Ln}{w:LL}{A:LQ}{E:gV->q7->Prop}{s:q7}
open Builtin.SmallTypes Zp in
theorem Db {t:Bool}{k:Nat}{x:gV}{Q:gV->q7->Prop}(U:Sv s.heap z i k old)(hi:At t s.heap i a k)(ha:Sq t s.heap a xs)(hx:xs[k]?=Z x)(j:z≠i)(q:∀h',UJ h' z i ((k:Int)+1) x s.heap.objs.size->At t h' i a (k+1)->h'.get? s.heap.objs.size=Z {cls:=.type "tuple",data:=.seq #[.int k s.toks,x]}->
   (∀b o,b≠z->b≠i->s.heap.get? b=Z o->h'.get? b=Z o)->Q (.ref s.heap.objs.size) {s with heap:=h',toks:=s.toks+1}):
 La (model prog w) A (Nq.«enumerate.__next__» ⟨[.ref z],[]⟩) (λfin s'=>∃v,fin=.done (.ret v)/\Q v s') E s:=by
 obtain⟨B,g,d,tk,os⟩:=s;refine g8 (m:=field (.ref z) 2) (LV U rfl (x:=.ref i) rfl (g8 (dM hi ha hx λg1 i1 s1=>?_)));have S1:MY i B g1:=s1;clear s1;have Fn:Sv g1 z i k old:=(S1.2 z j).trans U;refine g8 (m:=field (.ref z) 3) (LV (s:=⟨g1,g,d,tk,os⟩) Fn rfl (x:=NH k) rfl ?_);refine g8 (m:=field (.ref z) 4) (LV (s:=⟨g1,g,d,tk,os⟩) Fn rfl (x:=.none) rfl ?_);refine g8 (m:=mkInt k) (wpAny_mkInt ?_);refine g8 (m:=setField (.ref z) 3 (NH ((k:Int)+1))) (Lv (s:=⟨g1,g,d,tk+1,os⟩) Fn (by simp) λg2 z2 s2=>?_)
 have fv:MY z g1 g2:=s2;have Z2:Sv g2 z i ((k:Int)+1) old:=z2;clear s2 z2;refine g8 (m:=setField (.ref z) 4 .none) (Lv (s:=⟨g2,g,d,tk+1,os⟩) Z2 (by simp) λg3 z3 s3=>?_)
 have S3:MY z g2 g3:=s3;have Z3:Sv g3 z i ((k:Int)+1) old:=z3;clear s3 z3;refine g8 (m:=Vx [.int k tk,x]) (Qf ?_);have G:Sv (g3.push {cls:=.type "tuple",data:=.seq #[.int k tk,x]}) z i ((k:Int)+1) old:=i0 _ Z3;have sz:g3.objs.size=B.objs.size:=by rw[S3.1,fv.1,S1.1]
 have zl:z<B.objs.size:=KR U;have T4:(g3.push {cls:=.type "tuple",data:=.seq #[.int k tk,x]}).get? B.objs.size=Z {cls:=.type "tuple",data:=.seq #[.int k tk,x]}:=by rw[<-sz];exact KY _ rfl
 have K4:∀b o,b≠z->b≠i->B.get? b=Z o->(g3.push {cls:=.type "tuple",data:=.seq #[.int k tk,x]}).get? b=Z o:=λb o bz bi e=>i0 _ (S3.extBut b o bz (fv.extBut b o bz (S1.extBut b o bi e)))
 have I4:At t (g3.push {cls:=.type "tuple",data:=.seq #[.int k tk,x]}) i a (k+1):=i1.up λo e=>i0 _ (S3.extBut i o j.symm (fv.extBut i o j.symm e));rw[sz];generalize g3.push {cls:=.type "tuple",data:=.seq #[.int k tk,x]}=F at G T4 K4 I4;refine g8 (m:=ownedTupleIsFree (.ref z)) ?_;unfold ownedTupleIsFree;refine g8 (LV (s:=⟨F,g,d,tk+1,os⟩) G rfl (x:=.none) rfl (z0 ?_));simp only[if_true];refine g8 (Nt (g8 (LV (s:=⟨F,g,d,tk+1,os⟩) G rfl (x:=old) rfl (g8 (Lv (s:=⟨F,g,d,tk+1,os⟩) G (by simp) λJ z5 s5=>?_)))))
 have S5:MY z F J:=s5;have Z5:Sv J z i ((k:Int)+1) x:=z5;clear s5 z5;refine g8 (m:=ownedTupleHandOut (.ref z) (.ref B.objs.size)) ?_;unfold ownedTupleHandOut;refine g8 (Lv (s:=⟨J,g,d,tk+1,os⟩) Z5 (by simp) λL z6 s6=>?_)
 have S6:MY z J L:=s6;have Z6:UJ L z i ((k:Int)+1) x B.objs.size:=z6;clear s6 z6;refine Lv (s:=⟨L,g,d,tk+1,os⟩) Z6 (by simp) λO z7 s7=>?_
 have S7:MY z L O:=s7;have Z7:UJ O z i ((k:Int)+1) x B.objs.size:=z7;clear s7 z7;have up:∀b o,b≠z->F.get? b=Z o->O.get? b=Z o:=λb o bz e=>S7.extBut b o bz (S6.extBut b o bz (S5.extBut b o bz e));exact g8 (RE (z0 ⟨_,rfl,q O Z7 (I4.up λo e=>up i o j.symm e) (up _ _ (MD zl) T4) λb o bz bi e=>up b o bz (K4 b o bz bi e)⟩))
theorem nxt_item {t:Bool}{k:Nat}{x:gV}{Q:Option gV->q7->Prop}(B:Sv s.heap z i k old)(hi:Zp.At t s.heap i a k)(G:Zp.Sq t s.heap a xs)(hx:xs[k]?=Z x)(j:z≠i)(q:∀h',UJ h' z i ((k:Int)+1) x s.heap.objs.size->Zp.At t h' i a (k+1)->h'.get? s.heap.objs.size=Z {cls:=.type "tuple",data:=.seq #[.int k s.toks,x]}->
   (∀b o,b≠z->b≠i->s.heap.get? b=Z o->h'.get? b=Z o)->Q (Z (.ref s.heap.objs.size)) {s with heap:=h',toks:=s.toks+1}):
 La (model prog w) A (O9 (.ref z)) Q E s:=by
 have ty:s.TypeIs (.ref z) "enumerate":=⟨_,B,rfl⟩;unfold O9;exact g8 (NZ (LG (name:=Lw "__next__") ty Pb (LR Pb ty Sw
  (Db B hi G hx j λh' a1 a2 J L=>z0 (q h' a1 a2 J L)) (S4 _))))
theorem nxt_end{t:Bool}{k:Nat}{Q:Option gV->q7->Prop}(B:A.handled=Y)(j:Sv s.heap z i k old)(hi:Zp.At t s.heap i a k)(G:Zp.Sq t s.heap a xs)(hx:xs[k]?=Y)(q:∀h',V4 i s.heap h'->Q Y {s with heap:=h'}):La (model prog w) A (O9 (.ref z)) Q E s:=by have ty:s.TypeIs (.ref z) "enumerate":=⟨_,j,rfl⟩;unfold O9;refine g8 (NZ (LG (name:=Lw "__next__") ty Pb (LR Pb ty Sw ?_ (S4 _))));refine g8 (m:=field (.ref z) 2) (LV j rfl (x:=.ref i) rfl (g8 (Zp.nx_end B hi G hx λh' x he hs=>?_)));obtain⟨o,ho,J⟩:=hs;exact g8 (OE (T:="StopIteration") (b:=F2) ⟨o,ho,J⟩ Rj (z0 (q _ he)))
open AutoSeq1 (wpAny_loadPart') in
theorem AQ(l:N2)(items:Array gV)(n:Nat)(dct:Option N2)(sl:Array (Option gV)):
 Meets (Nq.«enumerate.__new__» ⟨[.type "enumerate",.ref l],[]⟩) (λ_ R s=>s.heap.get? l=Z {cls:=.type "tuple",dict:=dct,data:=.seq items n,slots:=sl} /\
  R (.ok (.ret (.ref (s.heap.push (Zp.itO F2 l)).objs.size))) {s with heap:=(s.heap.push (Zp.itO F2 l)).push {cls:=.type "enumerate",data:=.fields #[.none,.bool Md,.ref s.heap.objs.size,NH 0,.none,.none]}}):=
 .of_wp λprog w A R s h=>by
  obtain⟨F,g,d,tk,os⟩:=s;obtain⟨j,h⟩:=h;have z:=sub_enumerate;have B:R0 (OI ⟨F,g,d,tk,os⟩) l items:=⟨_,j,rfl,n,rfl⟩
  wp_walk using P0 j
  refine wpAny_stack_any λst=>z0 ?_
  split
  ·rename_i c _ _ _ _ _
   cases(c==LZ "enumerate")<;>(wp_walk using P0 j,Nj B;exact⟨_,rfl,h⟩)
  ·wp_walk using P0 j,Nj B
   exact⟨_,rfl,h⟩
theorem call_enum{t:Bool}{l:N2}{items:Array gV}{Q:gV->q7->Prop}(B:Zp.Sq t s.heap l items)(q:∀h',Sv h' (s.heap.objs.size+1) s.heap.objs.size 0 .none->Zp.At t h' s.heap.objs.size l 0->(∀b o,s.heap.get? b=Z o->h'.get? b=Z o)->Q (.ref (s.heap.objs.size+1)) {s with heap:=h'}):
 La (model prog w) A (call (.type "enumerate") [.ref l]) Q E s:=by
 cases t with
 |false=>exact call_enumerate_list B λh' a b _ k=>q h' a b k
 |true=>
  obtain⟨⟨c,dct,dt,sl⟩,J,L,n,hd⟩:=B;have j:c=.type "tuple":=L;have z:dt=.seq items n:=hd;subst j z;refine callType_new F.called_enumerate (by decide) (F.typeCall_enumerate_1 _) (F.newCall_enumerate_1 _) (λobj=>F.args_object_init_2 obj _) F.entry_enumerate_new (AQ l items n dct sl) ⟨J,?_⟩
  have G:(s.heap.push (Zp.itO F2 l)).objs.size=s.heap.objs.size+1:=Nf ..;have e:((s.heap.push (Zp.itO F2 l)).push {cls:=.type "enumerate",data:=.fields #[.none,.bool Md,.ref s.heap.objs.size,NH 0,.none,.none]}).get? (s.heap.push (Zp.itO F2 l)).objs.size=Z _:=KY _ rfl;rw[G]at e;show _/\_;rw[G];exact⟨⟨_,e,rfl⟩,q _ e (Zp.at_new (i0 _ (KY _ rfl))) λb o x=>i0 _ (i0 _ x)⟩
end
end En
noncomputable def Ite(K:Frag)(t:Bool)(a:N2):It:=
 ⟨λi H=>∃xs x,SqV K t H a xs/\xs[i]?=Z x,
  λi H v H'=>∃p x,H p=Y/\v=.ref p/\H'=upd H p (.tup [.int (i:Nat),x])/\∀xs,SqV K t H a xs->xs[i]?=Z x,
  λi H=>∃xs,SqV K t H a xs/\xs.length<=i⟩
theorem vA{cx}{t:Bool}{z i:N2}(F:z≠i):
 iX P w K (.Tuple elts cx pos) (Ite K t a) [z,i] z (λk h=>(∃old,Sv h z i k old)/\Zp.At t h i a k) where
 mem:=by simp
 obj:=λk h ⟨⟨old,B⟩,hi⟩ c j=>by
  simp only[KZ,LK,or_false]at j
  rcases j with rfl|rfl
  ·exact⟨_,B,λv e=>by cases e⟩
  ·exact hi.lt
 keep:=λk h h' G kk=>(by obtain⟨⟨old,B⟩,hi⟩:=G;exact⟨⟨old,kk z (by simp) _ B⟩,hi.up λo e=>kk i (by simp) o e⟩)
 item:=by
  intro X J hw L j k pins s σ H E I hf st hg;subst J hw L;obtain⟨⟨old,B⟩,hi⟩:=st;obtain⟨xs,x,qx,ex⟩:=hg;obtain⟨is,rx,px⟩:=I.sqv qx;obtain⟨ux,O,rux⟩:=rx.get ex;refine En.nxt_item B hi px (by simpa using O) F λh1 z1 i1 p1 U=>⟨_,rfl,?_⟩
  refine wpAny_letOwnedTupleGo_enum (s:={s with heap:=h1,toks:=s.toks+1}) z1 λh2 z2 s2=>?_
  have lt:∀{c o},s.heap.get? c=Z o->c≠s.heap.objs.size:=λe=>Lr (KR e);have nz:s.heap.objs.size≠z:=(lt B).symm;have Fn:∃o,s.heap.get? i=Z o:=hi.lt.imp λ_ h=>h.1;have up:∀c o,c≠z->h1.get? c=Z o->h2.get? c=Z o:=λc o n e=>s2.extBut _ _ n e;have IL:Inv X pins σ (upd H s.heap.objs.size (.tup [.int (k:Nat),x])) {s with heap:=s.heap.push {cls:=.type "tuple",data:=.seq #[.int k s.toks,ux]},toks:=s.toks+1}:=I.laid (λb o e=>i0 _ e) (Le _) ⟨by rw[D2];simp,[.int k s.toks,ux],.cons ⟨_,rfl⟩ (.cons rux .nil),R9 _ _⟩
  have fr:∀c∈[z,i],c≠s.heap.objs.size:=λc j=>by
   simp only[KZ,LK,or_false]at j
   rcases j with rfl|rfl
   ·exact lt B
   ·obtain⟨o,e⟩:=Fn;exact lt e
  have un:∀c∈[z,i],upd H s.heap.objs.size (.tup [.int (k:Nat),x]) c=Y:=λc j=>by rw[am (fr c j)];exact(hf c j).1
  have kk:∀c o,c∉[z,i]->(s.heap.push {cls:=.type "tuple",data:=.seq #[.int k s.toks,ux]}).get? c=Z o->h2.get? c=Z o:=λc o j e=>by
   simp only[KZ,LK,or_false,not_or]at j
   rcases T7 e with⟨rfl,rfl⟩|e
   ·exact up _ _ nz p1
   ·exact up _ _ j.1 (U c o j.1 j.2 e)
  have I2:Inv X pins σ (upd H s.heap.objs.size (.tup [.int (k:Nat),x])) {s with heap:=h2,toks:=s.toks+1}:=Inv.turnedL (s:={s with heap:=s.heap.push {cls:=.type "tuple",data:=.seq #[.int k s.toks,ux]},toks:=s.toks+1}) (h':=h2) (t':=s.toks+1) (fp:=[z,i]) IL (λc j=>⟨un c j,(hf c j).2⟩) kk
  refine⟨.ref s.heap.objs.size,_,I2,rfl,⟨_,x,I.hok.fresh (Le _),rfl,rfl,λxs' q1=>?_⟩,⟨⟨ux,by simpa using z2⟩,i1.up λo e=>up _ o F.symm e⟩,un⟩
  rw[I.sqv_inj q1 qx];exact ex
 done:=by
  intro X J hw L j k pins s σ H E I hf st hg;subst J hw L;obtain⟨⟨old,B⟩,hi⟩:=st;obtain⟨xs,qx,fv⟩:=hg;obtain⟨is,rx,px⟩:=I.sqv qx;have lx:=rx.length;refine En.nxt_end (I.ok.hd j) B hi px (by simp;lia) λh1 U=>⟨rfl,I.turnedL (t':=s.toks) hf λc o j e=>?_⟩
  simp only[KZ,LK,or_false,not_or]at j;exact U c o j.2 e
 self:=λA k s Q E G h=>(by obtain⟨⟨old,B⟩,_⟩:=G;exact Uk B h)
section
variable{X:Cx}
noncomputable def EV(K:Frag)(ta:TA):TI:=λσ H R=>ta σ H λvs H1=>∃a t xs,vs=[.ref a]/\SqV K t H1 a xs/\R (Ite K t a) H1
theorem AR{cx}{a:Expr}(F:Gl X "enumerate")(hm:X.mg "enumerate"=Y)(G:PA X [a] ta)(hs:Ll [a] X.env=[(Md,eval a X.env)]):
 PI X (.Tuple elts cx pos) (.Call (.Name "enumerate" p) [a] [] pos') (EV X.K ta):=by
 intro pins s σ H R I h;refine Call_ (cm I F hm (u:=.type "enumerate") boot_enumerate (MA (thn (G pos' pins s σ H _ I h) λus s1 g9=>?_) hs rfl));obtain⟨vs,H1,j,J,L⟩:=g9;obtain⟨a',t,xs,rfl,qx,q⟩:=L
 cases J with
 |cons r rr=>
  cases rr
  cases r
  obtain⟨is,rx,px⟩:=j.sqv qx;refine En.call_enum px λh1 z O U=>?_;refine Uk z ?_;refine⟨_,_,_,_,H1,rfl,j.kept (t':=s1.toks) U,vA (t:=t) (a:=a') (by simp),⟨⟨_,z⟩,O⟩,λc B=>?_,q⟩
  have hle:s1.heap.objs.size<=c:=by
   simp only[KZ,LK,or_false]at B
   rcases B with rfl|rfl<;>lia
  exact j.fpOk hle (j.hok.fresh hle)
end
namespace Rv
end Rv
section
noncomputable abbrev NK:=List (Int ⊕ List Int)
noncomputable def EW(ks:List Int):Int:=reduceHash (Rt (ks.map hashInt))
noncomputable def EX:Int ⊕ List Int->Int
 |.inl i=>hashInt i
 |.inr ks=>EW ks
noncomputable def EY(ks:NK):Int:=reduceHash (Rt (ks.map EX))
noncomputable def A8(a:N2)(xs:List (NK×N2×gV)):Heap->Prop:=λh=>xs.length<=L3/\(a==N9)=Md /\
 ∃o es ep,h.get? a=Z o/\o.ExactDict/\o.data=.dict es ep/\es.toList=xs.map (λx=>(⟨EY x.1,.ref x.2.1,x.2.2⟩:Mt))/\(xs.map (·.1)).Nodup
noncomputable def Kt1(H:Hp):Int ⊕ List Int->V->Prop
 |.inl i,v=>v=.int i
 |.inr ks,v=>∃b,v=.ref b/\H b=Z (.tup (ks.map V.int))
def Kt(H:Hp)(k:NK)(b:N2):Prop:=∃vs,H b=Z (.tup vs)/\MK (Kt1 H) k vs
theorem Kt.keeps{k:NK}(x:Kt H k b)(j:∀b ys,H b=Z (.tup ys)->H' b=Z (.tup ys)):Kt H' k b:=by
 obtain⟨vs,e,p⟩:=x;refine⟨vs,j _ _ e,VS p λq v z=>?_⟩
 cases q with
 |inl i=>exact z
 |inr ks=>obtain⟨c,e,q⟩:=z;exact⟨c,e,j _ _ q⟩
end
namespace Mi
variable{a p:N2}{K:Frag}{H H':Hp}{xs vs:List V}{i:Nat}{v:V}{σ:St}{ho:HO}{X:Cx}{e:Expr}
section
inductive D where
 |non|bl (b:Bool)|int (i:Int)|str (x:Str)|tup (ds:List D)|con (ds:List D)|ref (a:N2)|fn (x:Str)
inductive O where
 |lst (ds:List D)
 |dct (t:Bool) (kvs:List (D×D))
 |fdc (kvs:List (D×D))
 |dcn (kvs:List (NK×D))
 |fdn (kvs:List (NK×D))
 |tab (pos:Pos) (q:Str)
noncomputable abbrev Mem:=N2->Option O
noncomputable def fz:Option O->Bool
 |some (.lst _)=>Md
 |some (.dct _ _)=>Md
 |some (.dcn _)=>Md
 |some (.tab _ _)=>Md
 |_=>F2
noncomputable abbrev au:=List (Option D)
noncomputable def af(M:Mem)(a:N2)(o:O):Mem:=λb=>if b=a then Z o else M b
theorem ab{M:Mem}{o:O}:af M a o a=Z o:=by unfold af;rw[if_pos rfl]
theorem aD{M:Mem}{b:N2}{o:O}(h:b≠a):af M a o b=M b:=by unfold af;rw[if_neg h]
def SqF(K:Frag)(H:Hp)(a:N2)(xs:List V):Prop:=
 (∃o,H a=Z (.frz o (.lst xs))) ∨
  ∃(o:Obj) (its:Array gV) (n:Nat),K.lookup a=Z o/\o.cls=.type "list"/\o.dict=Y/\o.data=.seq its n/\its.size<=L3/\Vals xs its.toList
theorem SqF.sq(h:SqF K H a xs):SqL K H a xs:=by
 rcases h with⟨o,h⟩|h
 ·exact .inl (.inr ⟨o,h⟩)
 ·exact .inr h
noncomputable def fk2:Bool:=F2
noncomputable def fk3:Bool:=Md
noncomputable def fk:List D->Bool
 |[.int _,.int _,.int _]=>F2
 |[.tup _,_]=>F2
 |[.int _,_]=>fk2
 |[]=>Md
 |_=>fk3
def TupR(K:Frag)(H:Hp)(ds:List D)(a:N2)(vs:List V):Prop:=H a=Z (.tup vs)∨(fk ds=Md/\SqT K H a vs)
theorem TupR.sq{ds:List D}(h:TupR K H ds a vs):SqT K H a vs:=h.elim SqT.of (·.2)
mutual
noncomputable def RD(K:Frag)(H:Hp):D->V->Prop
 |.non,v=>v=.non
 |.bl b,v=>v=.bl b
 |.int i,v=>v=.int i
 |.str x,v=>v=.str x
 |.tup ds,v=>∃a vs,v=.ref a/\TupR K H ds a vs/\RDs K H ds vs
 |.con ds,v=>∃a vs,v=.ref a/\SqF K H a vs/\RDs K H ds vs
 |.ref a,v=>v=.ref a
 |.fn x,v=>∃f,v=.ref f/\R3 K MB x=Z (Z (.ref f))
noncomputable def RDs(K:Frag)(H:Hp):List D->List V->Prop
 |[],vs=>vs=[]
 |d::ds,vs=>∃v r,vs=v::r/\RD K H d v/\RDs K H ds r
end
structure Stab(H H':Hp):Prop where
 tup:∀a xs,H a=Z (.tup xs)->H' a=Z (.tup xs)
 frz:∀a o u,H a=Z (.frz o u)->H' a=Z (.frz o u)
theorem Stab.sqT(st:Stab H H')(h:SqT K H a xs):SqT K H' a xs:=by
 rcases h with(h|⟨o,h⟩)|h
 ·exact .inl (.inl (st.tup _ _ h))
 ·exact .inl (.inr ⟨o,st.frz _ _ _ h⟩)
 ·exact .inr h
theorem Stab.sqF(st:Stab H H')(h:SqF K H a xs):SqF K H' a xs:=by
 rcases h with⟨o,h⟩|h
 ·exact .inl ⟨o,st.frz _ _ _ h⟩
 ·exact .inr h
mutual
theorem RD.mono{K:Frag}{H H':Hp}(st:Stab H H'):∀{d:D} {v:V},RD K H d v->RD K H' d v
 |.non,_,h=>h
 |.bl _,_,h=>h
 |.int _,_,h=>h
 |.str _,_,h=>h
 |.tup ds,v,h=>by unfold RD at h⊢;obtain⟨a,vs,e,q,r⟩:=h;exact⟨a,vs,e,q.imp (st.tup _ _) (λz=>⟨z.1,st.sqT z.2⟩),RDs.mono st r⟩
 |.con ds,v,h=>by unfold RD at h⊢;obtain⟨a,vs,e,q,r⟩:=h;exact⟨a,vs,e,st.sqF q,RDs.mono st r⟩
 |.ref _,_,h=>h
 |.fn _,_,h=>by unfold RD at h⊢;exact h
theorem RDs.mono{K:Frag}{H H':Hp}(st:Stab H H'):∀{ds:List D} {vs:List V},RDs K H ds vs->RDs K H' ds vs
 |[],_,h=>h
 |d::ds,vs,h=>by unfold RDs at h⊢;obtain⟨v,r,e,h1,h2⟩:=h;exact⟨v,r,e,RD.mono st h1,RDs.mono st h2⟩
end
section
variable{K:Frag}{H H':Hp}
theorem VO{i:Int}:RD K H (.int i) v↔v=.int i:=by unfold RD;exact Ul
theorem VQ{b:Bool}:RD K H (.bl b) v↔v=.bl b:=by unfold RD;exact Ul
theorem VV:RD K H .non v↔v=.non:=by unfold RD;exact Ul
theorem VW{x:Str}:RD K H (.str x) v↔v=.str x:=by unfold RD;exact Ul
theorem VP:RD K H (.ref a) v↔v=.ref a:=by unfold RD;exact Ul
theorem W0{ds:List D}:RD K H (.tup ds) v↔∃a vs,v=.ref a/\TupR K H ds a vs/\RDs K H ds vs:=by rw[RD]
theorem VX{ds:List D}(h:∃a vs,v=.ref a/\H a=Z (.tup vs)/\RDs K H ds vs):RD K H (.tup ds) v:=W0.mpr (let⟨a,vs,e,h,r⟩:=h; ⟨a,vs,e,.inl h,r⟩)
theorem VU{ds:List D}(h:RD K H (.tup ds) v):∃a vs,v=.ref a/\SqT K H a vs/\RDs K H ds vs:=let⟨a,vs,e,h,r⟩:=W0.mp h; ⟨a,vs,e,h.sq,r⟩
theorem W8{ds:List D}(f:fk ds=F2)(h:RD K H (.tup ds) v):∃a vs,v=.ref a/\H a=Z (.tup vs)/\RDs K H ds vs:=let⟨a,vs,e,h,r⟩:=W0.mp h; ⟨a,vs,e,h.elim id λz=>(by rw[f]at z;cases z.1),r⟩
theorem VT{ds:List D}:RD K H (.con ds) v↔∃a vs,v=.ref a/\SqF K H a vs/\RDs K H ds vs:=by rw[RD]
theorem RDs.nil_iff:RDs K H [] vs↔vs=[]:=by rw[RDs]
theorem VR{d:D}{ds:List D}:RDs K H (d::ds) vs↔∃v r,vs=v::r/\RD K H d v/\RDs K H ds r:=by rw[RDs]
theorem RDs.nil:RDs K H [] []:=RDs.nil_iff.mpr rfl
theorem RDs.cons{d:D}{ds:List D}{v:V}{vs:List V}(h:RD K H d v)(r:RDs K H ds vs):RDs K H (d::ds) (v::vs):=VR.mpr ⟨v,vs,rfl,h,r⟩
theorem RDs.length:∀{ds:List D} {vs:List V},RDs K H ds vs->vs.length=ds.length
 |[],_,h=>by rw[RDs.nil_iff.mp h];rfl
 |d::ds,_,h=>by obtain⟨v,r,rfl,_,h2⟩:=VR.mp h;simp[RDs.length h2]
theorem RDs.get:∀{ds:List D} {vs:List V} {i:Nat} {d:D},RDs K H ds vs->ds[i]?=Z d->∃v,vs[i]?=Z v/\RD K H d v
 |[],_,_,_,_,e=>by simp at e
 |d::ds,_,0,d',h,e=>by obtain⟨v,r,rfl,h1,h2⟩:=VR.mp h;simp at e;subst e;exact⟨v,rfl,h1⟩
 |d::ds,_,i+1,d',h,e=>by
  obtain⟨v,r,rfl,h1,h2⟩:=VR.mp h;obtain⟨u,j,z⟩:=RDs.get (i:=i) (d:=d') h2 (by simpa using e)
  exact⟨u,by simpa using j,z⟩
theorem RDs.getV{ds:List D}(h:RDs K H ds vs)(e:vs[i]?=Z v):∃d,ds[i]?=Z d/\RD K H d v:=by
 have B:=h.length;have hi:i<vs.length:=(L7.mp e).1;obtain⟨d,hd⟩:∃d,ds[i]?=Z d:=⟨ds[i]'∅,tv ∅⟩
 obtain⟨u,j,z⟩:=h.get hd;rw[e]at j;cases j;exact⟨d,hd,z⟩
theorem RDs.append:∀{ds es:List D} {vs us:List V},RDs K H ds vs->RDs K H es us->RDs K H (ds++es) (vs++us)
 |[],_,_,_,h,q=>by rw[RDs.nil_iff.mp h];exact q
 |d::ds,_,_,_,h,q=>by obtain⟨v,r,rfl,h1,h2⟩:=VR.mp h;exact RDs.cons h1 (RDs.append h2 q)
theorem RDs.take:∀{ds:List D} {vs:List V} (n:Nat),RDs K H ds vs->RDs K H (ds.take n) (vs.take n)
 |[],_,n,h=>by rw[RDs.nil_iff.mp h];simp;exact RDs.nil
 |_::_,_,0,h=>by simp;exact RDs.nil
 |d::ds,_,n+1,h=>by obtain⟨v,r,rfl,h1,h2⟩:=VR.mp h;exact RDs.cons h1 (RDs.take n h2)
theorem RDs.drop:∀{ds:List D} {vs:List V} (n:Nat),RDs K H ds vs->RDs K H (ds.drop n) (vs.drop n)
 |[],_,n,h=>by rw[RDs.nil_iff.mp h];simp;exact RDs.nil
 |d::ds,_,0,h=>h
 |d::ds,_,n+1,h=>by obtain⟨v,r,rfl,h1,h2⟩:=VR.mp h;exact RDs.drop n h2
theorem RDs.set:∀{ds:List D} {vs:List V} (n:Nat) {d:D} {v:V},RD K H d v->RDs K H ds vs->RDs K H (ds.set n d) (vs.set n v)
 |[],_,n,_,_,_,h=>by rw[RDs.nil_iff.mp h];exact RDs.nil
 |d::ds,_,0,_,_,q,h=>by obtain⟨v,r,rfl,h1,h2⟩:=VR.mp h;exact RDs.cons q h2
 |d::ds,_,n+1,_,_,q,h=>by obtain⟨v,r,rfl,h1,h2⟩:=VR.mp h;exact RDs.cons h1 (RDs.set n q h2)
theorem RDs.rep{ds:List D}(h:RDs K H ds vs):∀k:Nat,RDs K H (D1 k ds).flatten (D1 k vs).flatten
 |0=>RDs.nil
 |k+1=>by rw[Mr,Mr,Mv,Mv];exact h.append (h.rep k)
theorem W3:∀(ns:List Int),RDs K H (ns.map D.int) (ns.map V.int)
 |[]=>RDs.nil
 |n::ns=>RDs.cons (VO.mpr rfl) (W3 ns)
end
mutual
noncomputable def D.eqb:D->D->Bool
 |.non,.non=>F2
 |.bl a,.bl b=>a==b
 |.int a,.int b=>decide (a=b)
 |.str a,.str b=>decide (a=b)
 |.tup a,.tup b=>D.eqbs a b
 |.con a,.con b=>D.eqbs a b
 |.ref a,.ref b=>decide (a=b)
 |.fn a,.fn b=>decide (a=b)
 |_,_=>Md
noncomputable def D.eqbs:List D->List D->Bool
 |[],[]=>F2
 |a::r,b::s=>D.eqb a b&&D.eqbs r s
 |_,_=>Md
end
mutual
theorem W7:∀(a b:D),D.eqb a b=F2->a=b
 |.non,b,h=>by cases b<;>first|rfl|cases h
 |.bl a,b,h=>by cases b<;>first|exact congrArg D.bl (Oi h)|cases h
 |.int a,b,h=>by cases b<;>first|exact congrArg D.int (of_decide_eq_true h)|cases h
 |.str a,b,h=>by cases b<;>first|exact congrArg D.str (of_decide_eq_true h)|cases h
 |.tup a,b,h=>by cases b<;>first|exact congrArg D.tup (W2 a _ h)|cases h
 |.con a,b,h=>by cases b<;>first|exact congrArg D.con (W2 a _ h)|cases h
 |.ref a,b,h=>by cases b<;>first|exact congrArg D.ref (of_decide_eq_true h)|cases h
 |.fn a,b,h=>by cases b<;>first|exact congrArg D.fn (of_decide_eq_true h)|cases h
theorem W2:∀(a b:List D),D.eqbs a b=F2->a=b
 |[],b,h=>by cases b<;>first|rfl|cases h
 |a::r,b,h=>by
  cases b with
  |nil=>cases h
  |cons b s=>have h:=(p0 _ _).mp h;rw[W7 a b h.1,W2 r s h.2]
end
mutual
theorem W6:∀(a:D),D.eqb a a=F2
 |.non=>rfl
 |.bl a=>beq_self_eq_true a
 |.int _=>decide_eq_true rfl
 |.str _=>decide_eq_true rfl
 |.tup a=>VY a
 |.con a=>VY a
 |.ref _=>decide_eq_true rfl
 |.fn _=>decide_eq_true rfl
theorem VY:∀(a:List D),D.eqbs a a=F2
 |[]=>rfl
 |a::r=>(p0 _ _).mpr ⟨W6 a,VY r⟩
end
noncomputable instance:DecidableEq D:=λa b=>if h:D.eqb a b=F2 then isTrue (W7 a b h)else isFalse λe=>h (by rw[e];exact W6 b)
noncomputable def RKey:D->Key->Prop
 |.int i,k=>k=.inl i
 |.str x,k=>k=.inr x
 |_,_=>False
noncomputable def RKeys:D->List Key->Prop
 |.tup ds,ks=>MK RKey ds ks
 |_,_=>False
noncomputable def dget(kvs:List (D×D))(k:D):Option D:=(kvs.find? λp=>decide (p.1=k)).map (·.2)
noncomputable def fe(kvs:List (D×D))(k v:D):List (D×D):=if(kvs.any λp=>decide (p.1=k))=F2 then kvs.map (λp=>if p.1=k then(p.1,v)else p)else kvs++[(k,v)]
noncomputable def fW:D->Bool
 |.int _=>F2
 |.str _=>F2
 |_=>Md
noncomputable def dW:D->Bool
 |.tup ds=>ds.all fW&&fk ds
 |_=>Md
noncomputable def eI(t:Bool)(k:D):Bool:=if t then dW k else fW k
theorem oT{k:D}(h:fW k=F2):∃q,RKey k q:=by cases k<;>first|(simp[fW]at h;done)|exact⟨_,rfl⟩
theorem rJ:∀{ds:List D},ds.all fW=F2->∃ks,MK RKey ds ks
 |[],_=>⟨[],.nil⟩
 |d::ds,h=>by simp only[NM,p0]at h;obtain⟨k,j⟩:=oT h.1;obtain⟨ks,hs⟩:=rJ h.2;exact⟨k::ks,.cons j hs⟩
theorem rK{k:D}(h:dW k=F2):∃q,RKeys k q:=by cases k<;>first|(simp[dW]at h;done)|exact rJ (QI.mp h).1
theorem rL{ds:List D}(h:dW (.tup ds)=F2):fk ds=F2:=(QI.mp h).2
noncomputable def RO(K:Frag)(H:Hp)(a:N2):O->Prop
 |.lst ds=>∃vs,H a=Z (.lst vs)/\RDs K H ds vs
 |.dct Md kvs=>∃ps,H a=Z (.dK ps)/\MK (λ(p:D×D) (q:Key×V)=>RKey p.1 q.1/\RD K H p.2 q.2) kvs ps
 |.dct F2 kvs=>∃ps,H a=Z (.dT ps)/\MK (λ(p:D×D) (q:List Key×V)=>RKeys p.1 q.1/\RD K H p.2 q.2) kvs ps
 |.fdc kvs=>∃o ps,H a=Z (.frz o (.dT ps))/\MK (λ(p:D×D) (q:List Key×V)=>RKeys p.1 q.1/\RD K H p.2 q.2) kvs ps
 |.dcn kvs=>∃xs,H a=Z (.ext (A8 a xs))/\MK (λ(p:NK×D) (q:NK×N2×gV)=>p.1=q.1/\Kt H q.1 q.2.1/\∃v,RelV v q.2.2/\RD K H p.2 v) kvs xs
 |.fdn kvs=>∃o xs,H a=Z (.frz o (.ext (A8 a xs)))/\MK (λ(p:NK×D) (q:NK×N2×gV)=>p.1=q.1/\Kt H q.1 q.2.1/\∃v,RelV v q.2.2/\RD K H p.2 v) kvs xs
 |.tab pos q=>oS H a pos q
def RM(K:Frag)(M:Mem)(H:Hp):Prop:=∀a o,M a=Z o->RO K H a o
def RS(K:Frag)(H:Hp)(σ:St)(ρ:au):Prop:=σ.length=ρ.length/\∀(i:Nat) (d:D),ρ[i]?=Z (Z d)->∃v,σ[i]?=Z (Z v)/\RD K H d v
structure Ext(M:Mem)(H:Hp)(M':Mem)(H':Hp):Prop where
 kp:∀a o,fz (M a)=F2->H a=Z o->H' a=Z o
 nw:∀a o,fz (M a)=F2->H a=Z o->M' a=M a
section
variable{K:Frag}{M M' M'':Mem}{H H' H'':Hp}
theorem Ext.keep(x:Ext M H M' H')(a:N2)(o:HO)(n:M a=Y)(e:H a=Z o):H' a=Z o:=x.kp a o (by rw[n];rfl) e
theorem Ext.new(x:Ext M H M' H')(a:N2)(o:HO)(n:M a=Y)(e:H a=Z o):M' a=Y:=(x.nw a o (by rw[n];rfl) e).trans n
theorem Ext.refl:Ext M H M H:=⟨λ_ _ _ h=>h,λ_ _ _ _=>rfl⟩
theorem Ext.trans(a:Ext M H M' H')(b:Ext M' H' M'' H''):Ext M H M'' H'':=⟨λc o n h=>b.kp c o (by rw[a.nw c o n h];exact n) (a.kp c o n h),λc o n h=>(b.nw c o (by rw[a.nw c o n h];exact n) (a.kp c o n h)).trans (a.nw c o n h)⟩
theorem RM.mut(r:RM K M H){o:O}(h:M a=Z o):∃ho,H a=Z ho/\(∀xs,ho≠.tup xs)/\(fz (Z o)=Md->∀ob u,ho≠.frz ob u):=by
 have q:=r a o h
 cases o with
 |lst ds=>obtain⟨vs,e,_⟩:=q;exact⟨_,e,λ_ z=>(by cases z),λ_ _ _ z=>(by cases z)⟩
 |dct t kvs=>
  cases t with
  |false=>obtain⟨ps,e,_⟩:=q;exact⟨_,e,λ_ z=>(by cases z),λ_ _ _ z=>(by cases z)⟩
  |true=>obtain⟨ps,e,_⟩:=q;exact⟨_,e,λ_ z=>(by cases z),λ_ _ _ z=>(by cases z)⟩
 |fdc kvs=>obtain⟨ob,ps,e,_⟩:=q;exact⟨_,e,λ_ z=>(by cases z),λz=>(by cases z)⟩
 |fdn kvs=>obtain⟨ob,ps,e,_⟩:=q;exact⟨_,e,λ_ z=>(by cases z),λz=>(by cases z)⟩
 |dcn kvs=>obtain⟨xs,e,_⟩:=q;exact⟨_,e,λ_ z=>(by cases z),λ_ _ _ z=>(by cases z)⟩
 |tab pos u=>obtain⟨ps,e,_⟩:=q;exact⟨_,e,λ_ z=>(by cases z),λ_ _ _ z=>(by cases z)⟩
theorem RM.fzT(r:RM K M H)(e:H a=Z (.tup xs)):M a=Y:=by
 cases q:M a with
 |none=>rfl
 |some o=>obtain⟨ho,j,z,_⟩:=r.mut q;rw[e]at j;cases j;exact absurd rfl (z xs)
theorem RM.fzF(r:RM K M H){ob:Obj}{u:HO}(e:H a=Z (.frz ob u)):fz (M a)=F2:=by
 cases q:M a with
 |none=>rfl
 |some o=>
  obtain⟨ho,j,_,B⟩:=r.mut q;rw[e]at j;cases j
  cases z:fz (Z o)with
  |true=>rfl
  |false=>exact absurd rfl (B z ob u)
theorem RM.out(r:RM K M H)(h:H a=Y):M a=Y:=by
 cases e:M a with
 |none=>rfl
 |some o=>obtain⟨ho,q,_⟩:=r.mut e;rw[h]at q;cases q
theorem Ext.stab(r:RM K M H)(x:Ext M H M' H'):Stab H H' where
 tup:=λa xs e=>x.keep a _ (r.fzT e) e
 frz:=λa o u e=>x.kp a _ (r.fzF e) e
theorem RS.mono(st:Stab H H'){ρ:au}(h:RS K H σ ρ):RS K H' σ ρ:=⟨h.1,λi d e=>let⟨v,q,r⟩:=h.2 i d e; ⟨v,q,r.mono st⟩⟩
theorem RS.set{ρ:au}(h:RS K H σ ρ)(i:Nat){d:D}(r:RD K H d v):RS K H (σ.set i (Z v)) (ρ.set i (Z d)):=by
 refine⟨by simp[h.1],λj e q=>?_⟩
 by_cases hij:i=j
 ·subst hij;have hi:i<ρ.length:=by
   have:=(L7.mp q).1;simpa using this
  rw[NW hi]at q
  cases q
  exact⟨v,by rw[NW (by rw[h.1];exact hi)],r⟩
 ·rw[Pg hij]at q⊢;exact h.2 j e q
noncomputable def tH(fr:List (Option Nat))(ρ:au):au:=fr.map λo=>o.bind λj=>(ρ[j]?).join
theorem RS.inh{ρ:au}(h:RS K H σ ρ)(fr:List (Option Nat)):RS K H (inh fr σ) (tH fr ρ):=by
 refine⟨by simp[L2.inh,tH],λi d e=>?_⟩
 unfold tH at e;unfold L2.inh;rw[L8]at e⊢
 cases q:fr[i]? with
 |none=>rw[q]at e;cases e
 |some o=>
  rw[q]at e
  cases o with
  |none=>cases e
  |some j=>
   have e':Z ((ρ[j]?).join)=Z (Z d):=e
   cases q':ρ[j]? with
   |none=>rw[q']at e';cases e'
   |some w=>
    rw[q']at e'
    cases e'
    obtain⟨v,v1,v2⟩:=h.2 j d q';exact⟨v,by simp[v1],v2⟩
theorem RO.mono(st:Stab H H'){o:O}(h:RO K H a o)(e:∀ho,H a=Z ho->H' a=Z ho):RO K H' a o:=by
 cases o with
 |lst ds=>obtain⟨vs,q,r⟩:=h;exact⟨vs,e _ q,r.mono st⟩
 |dct t kvs=>
  cases t with
  |false=>obtain⟨ps,q,r⟩:=h;exact⟨ps,e _ q,VS r λ_ _ z=>⟨z.1,z.2.mono st⟩⟩
  |true=>obtain⟨ps,q,r⟩:=h;exact⟨ps,e _ q,VS r λ_ _ z=>⟨z.1,z.2.mono st⟩⟩
 |fdc kvs=>obtain⟨ob,ps,q,r⟩:=h;exact⟨ob,ps,e _ q,VS r λ_ _ z=>⟨z.1,z.2.mono st⟩⟩
 |fdn kvs=>obtain⟨ob,xs,q,r⟩:=h;exact⟨ob,xs,e _ q,VS r λ_ _ j=>(by obtain⟨B,F,v,G,J⟩:=j;exact⟨B,F.keeps st.tup,v,G,J.mono st⟩)⟩
 |dcn kvs=>obtain⟨xs,q,r⟩:=h;exact⟨xs,e _ q,VS r λ_ _ j=>(by obtain⟨B,F,v,G,J⟩:=j;exact⟨B,F.keeps st.tup,v,G,J.mono st⟩)⟩
 |tab pos u=>obtain⟨ps,L,U⟩:=h;exact⟨ps,e _ L,U.imp_right λj=>(by obtain⟨c',oc,vs,t,B,F,G⟩:=j;exact⟨c',oc,vs,t,B,st.frz _ _ _ F,G⟩)⟩
theorem RM.new(r:RM K M H)(n:H p=Y):RM K M (upd H p ho):=λa o e=>by
 have ne:a≠p:=λz=>by subst z;obtain⟨_,q,_⟩:=r.mut e;rw[n]at q;cases q
 refine(r a o e).mono ⟨λb xs q=>?_,λb o u q=>?_⟩ λj q=>by rw[am ne];exact q
 ·rw[am (ba q n)];exact q
 ·rw[am (ba q n)];exact q
theorem VZ(n:H p=Y):Ext M H M (upd H p ho):=⟨λa o _ e=>by rw[am (ba e n)];exact e,λ_ _ _ _=>rfl⟩
theorem RM.lay{o:O}(r:RM K M H)(n:H p=Y)(h:RO K (upd H p ho) p o):RM K (af M p o) (upd H p ho):=λa o' e=>by
 by_cases z:a=p
 ·subst z;rw[ab]at e;cases e;exact h
 ·rw[aD z]at e;exact r.new n a o' e
theorem Ext.lay{o:O}(n:H p=Y):Ext M H (af M p o) (upd H p ho):=⟨λa u _ e=>by rw[am (ba e n)];exact e,λa u m e=>by rw[aD (ba e n)]⟩
theorem RM.put{o o0:O}(r:RM K M H)(m:M p=Z o0)(h:RO K (upd H p ho) p o)(w:fz (Z o0)=Md:=by rfl):RM K (af M p o) (upd H p ho):=λa o' e=>by
 by_cases z:a=p
 ·subst z;rw[ab]at e;cases e;exact h
 ·rw[aD z]at e;obtain⟨J,j,B,F⟩:=r.mut m;refine(r a o' e).mono ⟨λb xs q=>?_,λb o u q=>?_⟩ λG q=>by rw[am z];exact q
  ·rw[am (λz=>by subst z;rw[j]at q;cases q;exact B xs rfl)];exact q
  ·rw[am (λz=>by subst z;rw[j]at q;cases q;exact F w o u rfl)];exact q
theorem Ext.put{o o0:O}(m:M p=Z o0)(w:fz (Z o0)=Md:=by rfl):Ext M H (af M p o) (upd H p ho):=⟨λa u n e=>by rw[am (λz=>by subst z;rw[m,w]at n;cases n)];exact e,λa u n e=>aD (λz=>by subst z;rw[m,w]at n;cases n)⟩
theorem RM.stabPut{o0:O}(r:RM K M H)(m:M p=Z o0)(w:fz (Z o0)=Md:=by rfl):Stab H (upd H p ho):=(Ext.put (o:=o0) (ho:=ho) m w).stab r
end
noncomputable abbrev QD:=D->Mem->Prop
noncomputable abbrev TEd:=au->Mem->QD->Prop
noncomputable abbrev TTd:=au->Mem->(Bool->Mem->Prop)->Prop
noncomputable abbrev TAd:=au->Mem->(List D->Mem->Prop)->Prop
structure bU where
 nx:au->Mem->Prop
 rt:QD
 bk:au->Mem->Prop:=λ_ _=>False
 ct:au->Mem->Prop:=λ_ _=>False
noncomputable abbrev TSd:=bU->au->Mem->Prop
def ad(T:TEd):Prop:=∀ρ M Q Q',(∀d M',Q d M'->Q' d M')->T ρ M Q->T ρ M Q'
def aK(T:TTd):Prop:=∀ρ M Q Q',(∀d M',Q d M'->Q' d M')->T ρ M Q->T ρ M Q'
def aQ(T:TAd):Prop:=∀ρ M Q Q',(∀d M',Q d M'->Q' d M')->T ρ M Q->T ρ M Q'
structure LeD(a b:bU):Prop where
 nx:∀ρ M,a.nx ρ M->b.nx ρ M
 rt:∀d M,a.rt d M->b.rt d M
 bk:∀ρ M,a.bk ρ M->b.bk ρ M
 ct:∀ρ M,a.ct ρ M->b.ct ρ M
def aM(T:TSd):Prop:=∀a b ρ M,LeD a b->T a ρ M->T b ρ M
noncomputable def KE'(K:Frag)(M:Mem)(H:Hp)(Q:VK):QD:=λd M'=>∀v H',Ext M H M' H'->RM K M' H'->RD K H' d v->Q v H'
noncomputable def KT'(K:Frag)(M:Mem)(H:Hp)(Q:Bool->Hp->Prop):Bool->Mem->Prop:=λb M'=>∀H',Ext M H M' H'->RM K M' H'->Q b H'
noncomputable def KA'(K:Frag)(M:Mem)(H:Hp)(Q:List V->Hp->Prop):List D->Mem->Prop:=λds M'=>∀vs H',Ext M H M' H'->RM K M' H'->RDs K H' ds vs->Q vs H'
noncomputable def lE(K:Frag)(T:TEd):TE:=λσ H Q=>∃ρ M,RS K H σ ρ/\RM K M H/\T ρ M (KE' K M H Q)
noncomputable def lT(K:Frag)(T:TTd):TT:=λσ H Q=>∃ρ M,RS K H σ ρ/\RM K M H/\T ρ M (KT' K M H Q)
noncomputable def lA(K:Frag)(T:TAd):TA:=λσ H Q=>∃ρ M,RS K H σ ρ/\RM K M H/\T ρ M (KA' K M H Q)
structure Link(K:Frag)(M:Mem)(H:Hp)(a:bU)(b:bJ):Prop where
 nx:∀ρ M' σ H',Ext M H M' H'->RS K H' σ ρ->RM K M' H'->a.nx ρ M'->b.nx σ H'
 rt:∀d M' v H',Ext M H M' H'->RM K M' H'->RD K H' d v->a.rt d M'->b.rt v H'
 bk:∀ρ M' σ H',Ext M H M' H'->RS K H' σ ρ->RM K M' H'->a.bk ρ M'->b.bk σ H'
 ct:∀ρ M' σ H',Ext M H M' H'->RS K H' σ ρ->RM K M' H'->a.ct ρ M'->b.ct σ H'
noncomputable def lS(K:Frag)(T:TSd):TS:=λD σ H=>∃ρ M A,RS K H σ ρ/\RM K M H/\Link K M H A D/\T A ρ M
theorem Link.ext{M M':Mem}{a:bU}{b:bJ}(l:Link K M H a b)(x:Ext M H M' H'):Link K M' H' a b:=⟨λρ M2 σ H2 y=>l.nx ρ M2 σ H2 (x.trans y),λd M2 v H2 y=>l.rt d M2 v H2 (x.trans y),λρ M2 σ H2 y=>l.bk ρ M2 σ H2 (x.trans y),λρ M2 σ H2 y=>l.ct ρ M2 σ H2 (x.trans y)⟩
theorem PE.imp{t t':TE}(h:PE X e t)(i:∀σ H Q,t' σ H Q->t σ H Q):PE X e t':=λpins s σ H Q I q=>h pins s σ H Q I (i _ _ _ q)
theorem PT.imp{t t':TT}(h:PT X e t)(i:∀σ H Q,t' σ H Q->t σ H Q):PT X e t':=λpins s σ H Q I q=>h pins s σ H Q I (i _ _ _ q)
theorem PW.imp{t t':TT}(h:PW X e t)(i:∀σ H Q,t' σ H Q->t σ H Q):PW X e t':=λwh pins s σ H Q I q=>h wh pins s σ H Q I (i _ _ _ q)
theorem PA.imp{e:List Expr}{t t':TA}(h:PA X e t)(i:∀σ H Q,t' σ H Q->t σ H Q):PA X e t':=λp pins s σ H Q I q=>h p pins s σ H Q I (i _ _ _ q)
theorem PS.imp{e:Stmt}{t t':TS}(h:PS X e t)(i:∀D σ H,t' D σ H->t D σ H):PS X e t':=λpins s σ H D I q=>h pins s σ H D I (i _ _ _ q)
theorem PSs.imp{e:List Stmt}{t t':TS}(h:PSs X e t)(i:∀D σ H,t' D σ H->t D σ H):PSs X e t':=λpins s σ H D I q=>h pins s σ H D I (i _ _ _ q)
end
variable{M M':Mem}{ds:List D}{d:D}{Q:VK}{ta:TEd}{tr:TAd}{j:Nat}{es:List Expr}
section
theorem KE'.ext{M2:Mem}{H2:Hp}(x:Ext M H M2 H2)(h:KE' K M H Q d M'):KE' K M2 H2 Q d M':=λv H' y=>h v H' (x.trans y)
theorem KT'.ext{M2:Mem}{H2:Hp}{Q:Bool->Hp->Prop}{d:Bool}(x:Ext M H M2 H2)(h:KT' K M H Q d M'):KT' K M2 H2 Q d M':=λH' y=>h H' (x.trans y)
noncomputable abbrev R2d:=D->D->Mem->QD->Prop
noncomputable abbrev R1d:=D->Mem->QD->Prop
noncomputable abbrev RAd:=List D->Mem->QD->Prop
def aG(r:R2d):Prop:=∀x y M Q Q',(∀d M',Q d M'->Q' d M')->r x y M Q->r x y M Q'
def tI(r:R1d):Prop:=∀x M Q Q',(∀d M',Q d M'->Q' d M')->r x M Q->r x M Q'
def aN(r:RAd):Prop:=∀x M Q Q',(∀d M',Q d M'->Q' d M')->r x M Q->r x M Q'
noncomputable def l2(K:Frag)(rd:R2d):R2:=λv u H Q=>∃x y M,RM K M H/\RD K H x v/\RD K H y u/\rd x y M (KE' K M H Q)
noncomputable def l1(K:Frag)(rd:R1d):V->Hp->VK->Prop:=λv H Q=>∃x M,RM K M H/\RD K H x v/\rd x M (KE' K M H Q)
noncomputable def lR(K:Frag)(rd:RAd):List V->Hp->VK->Prop:=λvs H Q=>∃ds M,RM K M H/\RDs K H ds vs/\rd ds M (KE' K M H Q)
noncomputable def lMt(K:Frag)(rd:D->List D->Mem->QD->Prop):V->List V->Hp->VK->Prop:=λv vs H Q=>∃x ds M,RM K M H/\RD K H x v/\RDs K H ds vs/\rd x ds M (KE' K M H Q)
noncomputable def fh(i:Nat):TEd:=λρ M Q=>∃d,ρ[i]?=Z (Z d)/\Q d M
noncomputable def wC(d:D):TEd:=λ_ M Q=>Q d M
noncomputable def wOp(rd:R2d)(ta tb:TEd):TEd:=λρ M Q=>ta ρ M λx M1=>tb ρ M1 λy M2=>rd x y M2 Q
noncomputable def wUn(rd:R1d)(ta:TEd):TEd:=λρ M Q=>ta ρ M λx M1=>rd x M1 Q
noncomputable def aZ:TAd:=λ_ M Q=>Q [] M
noncomputable def av(ta:TEd)(tr:TAd):TAd:=λρ M Q=>ta ρ M λx M1=>tr ρ M1 λxs M2=>Q (x::xs) M2
noncomputable def wAr(rd:RAd)(t:TAd):TEd:=λρ M Q=>t ρ M λds M1=>rd ds M1 Q
theorem yg:ad (fh i):=λ_ _ _ _ h j=>(by obtain⟨d,e,q⟩:=j;exact⟨d,e,h _ _ q⟩)
theorem oU:ad (wC d):=λ_ _ _ _ h q=>h _ _ q
theorem fC{rd:R2d}{tb:TEd}(j:aG rd)(z:ad ta)(B:ad tb):ad (wOp rd ta tb):=λρ M Q Q' h q=>z _ _ _ _ (λx J F=>B _ _ _ _ (λy M2 G=>j _ _ _ _ _ h G) F) q
theorem AS{rd:R1d}(j:tI rd)(z:ad ta):ad (wUn rd ta):=λρ M Q Q' h q=>z _ _ _ _ (λx F B=>j _ _ _ _ h B) q
theorem ar:aQ aZ:=λ_ _ _ _ h q=>h _ _ q
theorem al(j:ad ta)(z:aQ tr):aQ (av ta tr):=λρ M Q Q' h q=>j _ _ _ _ (λx G B=>z _ _ _ _ (λxs M2 F=>h _ _ F) B) q
theorem fD{rd:RAd}{t:TAd}(j:aN rd)(z:aQ t):ad (wAr rd t):=λρ M Q Q' h q=>z _ _ _ _ (λds F B=>j _ _ _ _ h B) q
section
variable{X:Cx}{a b:Expr}{ta tb:TEd}{pos:Pos}
theorem Dc{x:Str}(B:X.N[i]?=Z x)(j:Vis X.env.scope x)(hd:(x==("__debug__":Str))=Md)(z:(x==("__classdict__":Str))=Md):PE X (.Name x pos) (lE X.K (fh i)):=by refine PE.imp (oD B j hd z) λσ H Q h=>?_;obtain⟨ρ,M,rs,rm,d,e,q⟩:=h;obtain⟨v,j,rd⟩:=rs.2 i d e;exact⟨v,j,q v H Ext.refl rm rd⟩
theorem Dd{i:Int}:PE X (.Constant (.int i) j pos) (lE X.K (wC (.int i))):=PE.imp Cr λσ H Q g9=>(by obtain⟨ρ,M,rs,rm,q⟩:=g9;exact q _ H Ext.refl rm (VO.mpr rfl))
theorem EZ{i:Bool}:PE X (.Constant (.bool i) j pos) (lE X.K (wC (.bl i))):=PE.imp Ez λσ H Q g9=>(by obtain⟨ρ,M,rs,rm,q⟩:=g9;exact q _ H Ext.refl rm (VQ.mpr rfl))
theorem De:PE X (.Constant .none j pos) (lE X.K (wC .non)):=PE.imp Ct λσ H Q g9=>(by obtain⟨ρ,M,rs,rm,q⟩:=g9;exact q _ H Ext.refl rm (VV.mpr rfl))
theorem ig{rd:R2d}(L:aG rd)(ma:ad ta)(mb:ad tb)(σ:St)(H:Hp)(Q:VK)(h:lE K (wOp rd ta tb) σ H Q):tOp (l2 K rd) (lE K ta) (lE K tb) σ H Q:=by obtain⟨ρ,M,rs,rm,q⟩:=h;refine⟨ρ,M,rs,rm,ma _ _ _ _ (λx O U v H1 G j z=>?_) q⟩;refine⟨ρ,O,rs.mono (G.stab rm),j,mb _ _ _ _ (λy M2 Fn u H2 J B F=>?_) U⟩;exact⟨x,y,M2,B,z.mono (J.stab j),F,L _ _ _ _ _ (λd M' k=>k.ext (G.trans J)) Fn⟩
theorem F4{op:Ph}{rd:R2d}(ho:OpR X (Nc op) (l2 X.K rd))(j:aG rd)(ma:ad ta)(mb:ad tb)(z:PE X a (lE X.K ta))(B:PE X b (lE X.K tb)):PE X (.BinOp a op b pos) (lE X.K (wOp rd ta tb)):=PE.imp (EJ ho z B) (ig j ma mb)
theorem Df{op:CmpOp}{rd:R2d}(ho:OpR X (NB op) (l2 X.K rd))(j:aG rd)(ma:ad ta)(mb:ad tb)(z:PE X a (lE X.K ta))(B:PE X b (lE X.K tb))(hm:PF op b=Md):PE X (.Compare a [op] [b] pos) (lE X.K (wOp rd ta tb)):=PE.imp (AF ho z B hm) (ig j ma mb)
noncomputable def gK(t:TEd):TTd:=λρ M Q=>t ρ M λx M1=>∃k,x=.bl k/\Q k M1
theorem yh{t:TEd}(h:ad t):aK (gK t):=λρ M Q Q' i q=>h _ _ _ _ (λx B j=>(by obtain⟨k,e,z⟩:=j;exact⟨k,e,i _ _ z⟩)) q
theorem yi{t:TEd}(m:ad t)(σ:St)(H:Hp)(Q:Bool->Hp->Prop)(h:lT K (gK t) σ H Q):zY (lE K t) σ H Q:=by obtain⟨ρ,M,rs,rm,q⟩:=h;refine⟨ρ,M,rs,rm,m _ _ _ _ (λx G g9 v H1 F j z=>?_) q⟩;obtain⟨k,e,B⟩:=g9;subst e;exact⟨k,VQ.mp z,B H1 F j⟩
theorem Dg{op:CmpOp}{rd:R2d}(ho:OpR X (NB op) (l2 X.K rd))(j:aG rd)(ma:ad ta)(mb:ad tb)(z:PE X a (lE X.K ta))(B:PE X b (lE X.K tb))(hm:PF op b=Md):
 PT X (.Compare a [op] [b] pos) (lT X.K (gK (wOp rd ta tb))):=
 PT.imp (AG ho z B hm) λσ H Q h=>by have h1:=yi (fC j ma mb) σ H Q h;exact ig j ma mb σ H _ h1
theorem F5{op:UnaryOp}{rd:R1d}(ho:UnR X (unaryOp op) (l1 X.K rd))(B:tI rd)(ma:ad ta)(F:PE X a (lE X.K ta)):PE X (.UnaryOp op a pos) (lE X.K (wUn rd ta)):=PE.imp (EK ho F) λσ H Q g9=>(by obtain⟨ρ,M,rs,rm,q⟩:=g9;exact⟨ρ,M,rs,rm,ma _ _ _ _ (λx G J v H1 L j z=>⟨x,G,j,z,B _ _ _ _ (λd M' k=>k.ext L) J⟩) q⟩)
theorem F6{rd:R2d}(ho:IxR X (l2 X.K rd))(j:aG rd)(ma:ad ta)(mb:ad tb)(z:PE X a (lE X.K ta))(B:PE X b (lE X.K tb))(hs:kI b):PE X (.Subscript a b pos) (lE X.K (wOp rd ta tb)):=PE.imp (EQ ho z B hs) (ig j ma mb)
theorem cN:PA X [] (lA X.K aZ):=PA.imp jo λσ H Q g9=>(by obtain⟨ρ,M,rs,rm,q⟩:=g9;exact q _ H Ext.refl rm RDs.nil)
theorem mj(ma:ad ta)(mr:aQ tr)(σ:St)(H:Hp)(Q:List V->Hp->Prop)(h:lA K (av ta tr) σ H Q):tw (lE K ta) (lA K tr) σ H Q:=by obtain⟨ρ,M,rs,rm,q⟩:=h;refine⟨ρ,M,rs,rm,ma _ _ _ _ (λx L O v H1 G j z=>?_) q⟩;refine⟨ρ,L,rs.mono (G.stab rm),j,mr _ _ _ _ (λxs M2 U vs H2 J B F=>?_) O⟩;exact U (v::vs) H2 (G.trans J) B (RDs.cons (z.mono (J.stab j)) F)
theorem bf(ma:ad ta)(mr:aQ tr)(j:PE X e (lE X.K ta))(z:PA X es (lA X.K tr))(hs:Ll (e::es) X.env=(Md,eval e X.env)::Ll es X.env):PA X (e::es) (lA X.K (av ta tr)):=PA.imp (dL j z hs) (mj ma mr)
theorem bK{rd:RAd}{t:TAd}(B:aN rd)(mt:aQ t)(σ:St)(H:Hp)(Q:VK)(h:lE K (wAr rd t) σ H Q):tCB (lR K rd) (lA K t) σ H Q:=by obtain⟨ρ,M,rs,rm,q⟩:=h;exact⟨ρ,M,rs,rm,mt _ _ _ _ (λds F G vs H1 J j z=>⟨ds,F,j,z,B _ _ _ _ (λd M' k=>k.ext J) G⟩) q⟩
noncomputable def tJ:RAd:=λds M Q=>ds.length<=L3/\Q (.tup ds) M
noncomputable def tK:RAd:=λds M Q=>ds.length<=L3/\∀p,M p=Y->Q (.ref p) (af M p (.lst ds))
theorem vB:aN tJ:=λ_ _ _ _ h j=>(by obtain⟨z,q⟩:=j;exact⟨z,h _ _ q⟩)
theorem vC:aN tK:=λ_ _ _ _ h j=>(by obtain⟨z,q⟩:=j;exact⟨z,λp n=>h _ _ (q p n)⟩)
theorem dN(rm:RM K M H)(rd:RDs K H ds vs)(q:KE' K M H Q (.tup ds) M)(n:H p=Y):Q (.ref p) (upd H p (.tup vs)):=by have x:Ext M H M (upd H p (.tup vs)):=VZ n;exact q (.ref p) _ x (rm.new n) (VX ⟨p,vs,rfl,aC,rd.mono (x.stab rm)⟩)
theorem cF(rm:RM K M H)(rd:RDs K H ds vs)(q:∀p,M p=Y->KE' K M H Q (.ref p) (af M p (.lst ds)))(n:H p=Y):Q (.ref p) (upd H p (.lst vs)):=by have x:Ext M H (af M p (.lst ds)) (upd H p (.lst vs)):=Ext.lay n;have x0:Ext M H M (upd H p (.lst vs)):=VZ n;exact q p (rm.out n) (.ref p) _ x (rm.lay n ⟨vs,aC,rd.mono (x0.stab rm)⟩) (VP.mpr rfl)
theorem Dh{t:TAd}{k:Nat}(mt:aQ t)(h:PA X es (lA X.K t)):PE X (.Tuple es k pos) (lE X.K (wAr tJ t)):=PE.imp (CU h) λσ H Q B=>(by obtain⟨ρ,M,rs,rm,q⟩:=B;exact⟨ρ,M,rs,rm,mt _ _ _ _ (λds L B vs H1 G F j=>(by obtain⟨z,J⟩:=B;exact⟨by rw[j.length];exact z,λp n=>dN F j (J.ext G) n⟩)) q⟩)
theorem Di{t:TAd}(mt:aQ t)(h:PA X es (lA X.K t)):PE X (.List es pos) (lE X.K (wAr tK t)):=PE.imp (CV h) λσ H Q B=>(by obtain⟨ρ,M,rs,rm,q⟩:=B;exact⟨ρ,M,rs,rm,mt _ _ _ _ (λds L B vs H1 G F j=>(by obtain⟨z,J⟩:=B;exact⟨by rw[j.length];exact z,λp n=>cF F j (λp' n'=>(J p' n').ext G) n⟩)) q⟩)
end
end
end Mi
section
section
variable{X:Cx}
theorem gL:∀{ns:List Int} {ys:List gV},CarriedAll ys (ns.map PyData.int)->Vals (ns.map V.int) ys
 |[],ys,h=>by cases h;exact .nil
 |n::ns,ys,h=>by
  rw[Lc]at h
  cases h with
  |cons h1 h2=>
   refine .cons ?_ (gL h2)
   cases h1
   exact⟨_,rfl⟩
end
namespace Mi
end Mi
end
section
theorem iZ:fillsNumberSlot (.type "tuple") "mul"=pure Md:=PyProof.Rows.fillsNumberSlot_seq (id:="tuple.__mul__") (r:=Z (.builtin "tuple.__rmul__")) F.slot_tuple_mul.lookup (by decide +kernel) F.slot_tuple_rmul.lookup (by decide +kernel)
theorem oV:seqRepeat? (.type "tuple")=pure (Z (.builtin "tuple.__mul__")):=by
 unfold seqRepeat?;rw[S8 (T:="tuple") (name:="__mul__") (id:="tuple.__mul__") F.slot_tuple_mul.lookup (by decide +kernel),S8 (T:="tuple") (name:="__rmul__") (id:="tuple.__rmul__") F.slot_tuple_rmul.lookup (by decide +kernel)]
 rfl
theorem kL(a:Int)(t:Tok)(l:N2)(items:Array gV)(n:Nat)(d:Option N2)(sl:Array (Option gV)):
 Meets (Nq.«int.__rmul__» ⟨[.int a t,.ref l],[]⟩) (λ_ R s=>s.heap.get? l=Z {cls:=.type "tuple",dict:=d,data:=.seq items n,slots:=sl}/\R (.ok (.ret Value.notImplemented)) s):=
 .of_wp λprog w A R s h=>by obtain⟨j,g,d,tk,os⟩:=s;obtain⟨z,h⟩:=h;wp_walk;exact⟨_,rfl,h⟩
open AutoSeq1 (wpAny_loadPart') in
theorem vD(l:N2)(items:Array gV)(n:Nat)(dd:Option N2)(sl:Array (Option gV))(x:Int)(u:Tok)(h1:-(2^63)<=x)(h2:x<2^63)(B:items.size*x.toNat<=L3):
 Meets (Nq.«tuple.__mul__» ⟨[.ref l,.int x u],[]⟩) (λ_ R s=>s.heap.get? l=Z {cls:=.type "tuple",dict:=dd,data:=.seq items n,slots:=sl} /\
  (if items.isEmpty || x==1 then R (.ok (.ret (.ref l))) s else R (.ok (.ret (.ref s.heap.objs.size))) {s with heap:=s.heap.push {cls:=.type "tuple",data:=.seq ((D1 x.toNat items).foldl (· ++ ·) #[])}})):=
 .of_wp λprog w A R s h=>by
  obtain⟨U,g,d,tk,os⟩:=s;obtain⟨j,h⟩:=h;have f1:=AutoSeq1.idx_int;have F:(decide (x < -(2^63)) || decide (x≥2^63))=Md:=by rw[decide_eq_false ∅,decide_eq_false ∅];rfl
  wp_walk using P0 j
  refine P1 (decide_eq_false (by rw[F];decide)) ?_
  dsimp only
  by_cases e1:(items.isEmpty || x==1)=F2
  ·rw[if_pos e1]at h
   wp_walk using P0 j
   exact⟨_,rfl,h⟩
  ·rw[if_neg e1]at h
   wp_walk using P0 j
   simp only[QR,not_or]at e1
   by_cases e2:x<=0
   ·have z:(decide (x<=0) || items.isEmpty)=F2:=by rw[decide_eq_true e2];rfl
    rw[if_pos z];have G:x.toNat=0:=∅
    rw[G]at h
    wp_walk
    exact⟨_,rfl,h⟩
   ·have z:¬(decide (x<=0) || items.isEmpty)=F2:=by simp;exact⟨∅,by simpa using e1.1⟩
    rw[if_neg z];have hx:((items.size:Nat):Int)*x=((items.size*x.toNat:Nat):Int):=by rw[SG,OC ∅]
    have hs:L3=16777216:=D2;have J:¬((items.size:Nat):Int)*x > (2^63-1) / 8:=by rw[hx];lia
    rw[if_neg J];have L:¬Rk (((items.size:Nat):Int)*x)=F2:=by rw[hx];unfold Rk;intro O;have Fn:=of_decide_eq_true O;lia
    rw[if_neg L]
    wp_walk
    have hsz:((D1 x.toNat items).foldl (· ++ ·) #[]).size<=L3:=by
     have:∀(k:Nat) (a:Array gV),((D1 k items).foldl (· ++ ·) a).size=a.size+items.size*k:=by
      intro k;induction k with
      |zero=>intro a;simp
      |succ k ih=>intro a;rw[Mr,SD,ih,Pe,Nat.mul_succ];lia
     rw[this];simpa using B
    refine P1 (decide_eq_false (Vv.mpr hsz)) ?_
    wp_walk
    exact⟨_,rfl,h⟩
end
section
section
variable{X:Cx}
noncomputable def A9(K:Frag):R2:=λx y H Q=>∃l k xs,x=.ref l/\y=.int k/\SqT K H l xs /\ -(2^63)<=k/\k<2^63/\xs.length*k.toNat<=L3 /\
 ((xs=[]∨k=1)->Q (.ref l) H)/\(¬(xs=[]∨k=1)->∀p,H p=Y->Q (.ref p) (upd H p (.tup (D1 k.toNat xs).flatten)))
theorem AT:OpR X (Nc .Mult) (A9 X.K):=by
 intro pins s σ H x y v u Q I rx ry h;obtain⟨l,k,xs,rfl,rfl,G,h1,h2,j,J,L⟩:=h
 cases rx
 obtain⟨t,rfl⟩:=ry;obtain⟨its,r,O,_⟩:=I.tuple G;have Fn:=r.length;obtain⟨⟨cls,dd,dat,sl⟩,e,B,n,hd⟩:=O;dsimp only at B hd;subst B hd;have hlen:its.toArray.size*k.toNat<=L3:=by rw[L5,<-Fn];exact j
 have f0:∀m:Nat,Qu (λfv x2=>fv++x2) #[] (D1 m its.toArray)=(D1 m its).flatten.toArray:=λm=>by have:=gH its m [];rw[PN]at this;exact this
 refine Rr (T:="tuple") (U:="int") (by decide) ⟨_,e,rfl⟩ (λs'=>Sr s' k t) iZ Vd QN oV F.slot_int_index.lookup
  (Qv QN (Sr s k t) UB (Ue _ _) (kL k t l its.toArray n dd sl)
    ⟨e,rfl,⟨_,e,rfl⟩,Qv F.slot_tuple_mul ⟨_,e,rfl⟩ F.entry_tuple_mul (F.args_tuple_mul_2 _ _) (vD l its.toArray n dd sl k t h1 h2 hlen) ⟨e,?_⟩⟩)
 have hi:(its.toArray.isEmpty || k==1)=F2↔(xs=[]∨k=1):=by rw[<-r.nil_iff];simp
 split
 ·next c=>exact⟨.ref l,H,I,rfl,J (hi.mp c)⟩
 ·next c=>rw[f0];refine⟨.ref s.heap.objs.size,_,I.laid (t':=s.toks) (o:=.tup (D1 k.toNat xs).flatten) (λb ob q=>i0 _ q) (Le _) ?_,rfl,L (λz=>c (hi.mpr z)) _ (I.hok.fresh (Le _))⟩;exact⟨by rw[rF,QY];exact j,_,r.rep k.toNat,R9 _ _⟩
end
end
section
section
variable{X:Cx}
theorem AU:OpR X (Nc .Add) (λx y H Q=>∃a b ys,x=.ref a/\y=.ref b/\SqT X.K H a []/\SqT X.K H b ys/\Q (.ref b) H):=by
 intro pins s σ H x y v u Q I rx ry h;obtain⟨a,b,ys,rfl,rfl,U,Fn,q⟩:=h
 cases rx
 cases ry
 obtain⟨its,fv,p1,_⟩:=I.tuple U;obtain⟨j,r2,p2,_⟩:=I.tuple Fn;have e0:its=[]:=fv.nil_iff.mpr rfl;obtain⟨⟨cls,dd,data,sl⟩,ho,L,n,hd⟩:=id p1;obtain⟨⟨O,G,data2,J⟩,z,B,n2,hd2⟩:=id p2;simp only at L hd B hd2;subst L hd B hd2;exact Ub ⟨_,ho,rfl⟩ ⟨_,z,rfl⟩ RY Tv Qc Q3 (PH _ _)
  (tuple_addW0 a b its.toArray j.toArray n n2 dd G sl J (by simp[e0])) ⟨ho,z,⟨.ref b,H,I,rfl,q⟩⟩
end
end
namespace Mi
variable{K:Frag}{M:Mem}{H:Hp}{Q:VK}{v:V}
section
def MulOk(i j:Int):Prop:=(-(2^64)<i/\i<2^64)∨(-(2^64)<j/\j<2^64)∨(QV i<=2^20/\QV j<=2^20)
theorem MulOk.ok{i j:Int}(h:MulOk i j):IntMulOk i j:=by
 rcases h with h|h|h
 ·exact IntMulOk.of_left (intBits_le_64 h.1 h.2)
 ·exact IntMulOk.of_right (intBits_le_64 h.1 h.2)
 ·exact IntMulOk.of_bits h.1 h.2
noncomputable def fj:R2d
 |.int i,.int j,M,Q=>Q (.int (i+j)) M
 |.tup a,.tup b,M,Q=>(a≠[]∨True)/\a.length+b.length<=L3/\Q (.tup (a++b)) M
 |.ref a,.ref b,M,Q=>∃xs ys,M a=Z (.lst xs)/\M b=Z (.lst ys)/\xs.length+ys.length<=L3/\∀p,M p=Y->Q (.ref p) (af M p (.lst (xs++ys)))
 |.str x,.str y,M,Q=>x.length+y.length<=L3/\Q (.str (x++y)) M
 |_,_,_,_=>False
noncomputable def oW:R2d
 |.int i,.int j,M,Q=>Q (.int (i-j)) M
 |_,_,_,_=>False
noncomputable def gM:R2d
 |.int i,.int j,M,Q=>MulOk i j/\Q (.int (i*j)) M
 |.ref a,.int k,M,Q=>∃xs,M a=Z (.lst xs) /\ -(2^63)<=k/\k<2^63/\xs.length*k.toNat<=L3/\∀p,M p=Y->Q (.ref p) (af M p (.lst (D1 k.toNat xs).flatten))
 |.tup ds,.int k,M,Q=>-(2^63)<=k/\k<2^63/\ds.length*k.toNat<=L3/\Q (.tup (D1 k.toNat ds).flatten) M
 |_,_,_,_=>False
noncomputable def jC:R2d
 |.int i,.int j,M,Q=>0<j/\j<2^256/\Q (.int (i / j)) M
 |_,_,_,_=>False
noncomputable def oZ:R2d
 |.int i,.int j,M,Q=>0<j/\Q (.int (i%j)) M
 |_,_,_,_=>False
noncomputable def p8:R2d
 |.int i,.int j,M,Q=>0<=j/\j<=1000000/\i.natAbs<2^64/\Q (.int (i^j.toNat)) M
 |_,_,_,_=>False
theorem pe:aG fj:=by
 intro x y M Q Q' h q
 cases x<;>cases y<;>first
  |exact q.elim
  |exact h _ _ q
  |exact⟨q.1,h _ _ q.2⟩
  |exact⟨q.1,q.2.1,h _ _ q.2.2⟩
  |(obtain⟨xs,ys,e1,e2,z,q⟩:=q;exact⟨xs,ys,e1,e2,z,λp n=>h _ _ (q p n)⟩)
theorem yj:aG oW:=by
 intro x y M Q Q' h q
 cases x<;>cases y<;>first|exact q.elim|exact h _ _ q
theorem yk:aG gM:=by
 intro x y M Q Q' h q
 cases x<;>cases y<;>first
  |exact q.elim
  |exact⟨q.1,h _ _ q.2⟩
  |exact⟨q.1,q.2.1,q.2.2.1,h _ _ q.2.2.2⟩
  |(obtain⟨xs,e1,j,z,B,q⟩:=q;exact⟨xs,e1,j,z,B,λp n=>h _ _ (q p n)⟩)
theorem vE:aG jC:=by
 intro x y M Q Q' h q
 cases x<;>cases y<;>first|exact q.elim|exact⟨q.1,q.2.1,h _ _ q.2.2⟩
theorem ym:aG oZ:=by
 intro x y M Q Q' h q
 cases x<;>cases y<;>first|exact q.elim|exact⟨q.1,h _ _ q.2⟩
theorem yn:aG p8:=by
 intro x y M Q Q' h q
 cases x<;>cases y<;>first|exact q.elim|exact⟨q.1,q.2.1,q.2.2.1,h _ _ q.2.2.2⟩
section
variable{X:Cx}
theorem OpR.of{f:gV->gV->Sem gV}{r r':R2}(h:OpR X f r)(i:∀v u H Q,r' v u H Q->r v u H Q):OpR X f r':=λpins s σ H x y v u Q I rx ry q=>h pins s σ H x y v u Q I rx ry (i _ _ _ _ q)
theorem IxR.of{r r':R2}(h:IxR X r)(i:∀v u H Q,r' v u H Q->r v u H Q):IxR X r':=λa b pins s σ H x y v u Q I rx ry q=>h a b pins s σ H x y v u Q I rx ry (i _ _ _ _ q)
theorem CallR.of{f:gV}{r r':List V->Hp->VK->Prop}(h:CallR X f r)(i:∀vs H Q,r' vs H Q->r vs H Q):CallR X f r':=λpins s σ H xs us Q I rx q=>h pins s σ H xs us Q I rx (i _ _ _ q)
theorem F7{a b:List D}{u:V}(rm:RM K M H)(rx:RD K H (.tup a) v)(ry:RD K H (.tup b) u)(q:fj (.tup a) (.tup b) M (KE' K M H Q)):A2 K v u H Q∨∃a b ys,v=.ref a/\u=.ref b/\SqT K H a []/\SqT K H b ys/\Q (.ref b) H:=by
 obtain⟨a',vs,rfl,z,j⟩:=VU rx;obtain⟨b',us,rfl,B,F⟩:=VU ry;obtain⟨_,J,q⟩:=q;have l1:=j.length;have l2:=F.length
 by_cases G:a=[]
 ·subst G;have:vs=[]:=RDs.nil_iff.mp j;subst this;exact .inr ⟨a',b',us,rfl,rfl,z,B,q _ H Ext.refl rm ry⟩
 refine .inl ⟨a',b',vs,us,rfl,rfl,z,B,λe=>G (LU.mp (by rw[<-l1,e];rfl)),∅,λe=>?_,λ_ p n=>dN rm (j.append F) q n⟩
 have eb:b=[]:=LU.mp (by rw[<-l2,e];rfl)
 subst eb;rw[MJ]at q;exact q _ H Ext.refl rm rx
theorem pi:OpR X (Nc .Add) (l2 X.K fj):=by
 refine OpR.of (op_add.or ((op_catT.or AU).or (op_cat.or tu))) λv u H Q h=>?_;obtain⟨x,y,M,rm,rx,ry,q⟩:=h
 cases x<;>cases y<;>first
  |exact q.elim
  |(cases VO.mp rx;cases VO.mp ry;exact .inl ⟨_,_,rfl,rfl,q _ H Ext.refl rm (VO.mpr rfl)⟩)
  |exact .inr (.inl (F7 rm rx ry q))
  | (cases VP.mp rx;cases VP.mp ry
     obtain⟨xs,ys,e1,e2,z,q⟩:=q;obtain⟨vs,h1,j⟩:=rm _ _ e1;obtain⟨us,h2,B⟩:=rm _ _ e2;have l1:=j.length;have l2:=B.length;refine .inr (.inr (.inl ⟨_,_,vs,us,rfl,rfl,h1,h2,∅,λp n=>cF rm (j.append B) q n⟩)))
  |(cases VW.mp rx;cases VW.mp ry;exact .inr (.inr (.inr ⟨_,_,rfl,rfl,q.1,q.2 _ H Ext.refl rm (VW.mpr rfl)⟩)))
theorem yo:OpR X (Nc .Sub) (l2 X.K oW):=by
 refine OpR.of CO λv u H Q h=>?_;obtain⟨x,y,M,rm,rx,ry,q⟩:=h
 cases x<;>cases y<;>first
  |exact q.elim
  |(cases VO.mp rx;cases VO.mp ry;exact⟨_,_,rfl,rfl,q _ H Ext.refl rm (VO.mpr rfl)⟩)
theorem op_mul_i:OpR X (Nc .Mult) (rI MulOk λi j=>.int (i*j)):=opI λ_ _ _ _ _ _ _ z q=>mul_int q z.ok
theorem F8{a:List D}{k:Int}{u:V}(rm:RM K M H)(rx:RD K H (.tup a) v)(ry:RD K H (.int k) u)(q:gM (.tup a) (.int k) M (KE' K M H Q)):A9 K v u H Q:=by
 obtain⟨a',vs,rfl,z,j⟩:=VU rx
 cases VO.mp ry
 obtain⟨B,F,G,q⟩:=q;have l1:=j.length;refine⟨a',k,vs,rfl,rfl,z,B,F,by rw[l1];exact G,λe=>?_,λ_ p n=>dN rm (j.rep _) q n⟩
 have ea:(D1 k.toNat a).flatten=a:=by
  rcases e with e|e
  ·have:a=[]:=LU.mp (by rw[<-l1,e];rfl)
   subst this;simp
  ·subst e;simp
 rw[ea]at q;exact q _ H Ext.refl rm rx
theorem yp:OpR X (Nc .Mult) (l2 X.K gM):=by
 refine OpR.of (op_mul_i.or (op_rep.or AT)) λv u H Q h=>?_;obtain⟨x,y,M,rm,rx,ry,q⟩:=h
 cases x<;>cases y<;>first
  |exact q.elim
  |(cases VO.mp rx;cases VO.mp ry;exact .inl ⟨_,_,rfl,rfl,q.1,q.2 _ H Ext.refl rm (VO.mpr rfl)⟩)
  | (cases VP.mp rx;cases VO.mp ry
     obtain⟨xs,e1,z,B,F,q⟩:=q;obtain⟨vs,h1,j⟩:=rm _ _ e1;have l1:=j.length;exact .inr (.inl ⟨_,_,vs,rfl,rfl,h1,z,B,by rw[l1];exact F,λp n=>cF rm (j.rep _) q n⟩))
  |exact .inr (.inr (F8 rm rx ry q))
theorem yq:OpR X (Nc .FloorDiv) (rI (λ_ j=>0<j/\j<2^256) λi j=>.int (i / j)):=L2.opI λi j _ _ _ _ _ z q=>by
 have h1:(0:Int)<j:=z.1;have h2:j<2^256:=z.2;have B:j.natAbs.log2<256:=(Nat.log2_lt ∅).mpr ∅
 exact floordiv_int ∅ (by rw[Int.fdiv_eq_ediv_of_nonneg i ∅];exact q) (.inl (PyProof.noPylong_of_log2 ∅))
theorem vF:OpR X (Nc .FloorDiv) (l2 X.K jC):=by
 refine OpR.of yq λv u H Q h=>?_;obtain⟨x,y,M,rm,rx,ry,q⟩:=h
 cases x<;>cases y<;>first
  |exact q.elim
  |(cases VO.mp rx;cases VO.mp ry;exact⟨_,_,rfl,rfl,⟨q.1,q.2.1⟩,q.2.2 _ H Ext.refl rm (VO.mpr rfl)⟩)
theorem yr:OpR X (Nc .Mod) (l2 X.K oZ):=by
 refine OpR.of CP λv u H Q h=>?_;obtain⟨x,y,M,rm,rx,ry,q⟩:=h
 cases x<;>cases y<;>first
  |exact q.elim
  |(cases VO.mp rx;cases VO.mp ry;exact⟨_,_,rfl,rfl,q.1,q.2 _ H Ext.refl rm (VO.mpr rfl)⟩)
theorem yt:OpR X (Nc .Pow) (l2 X.K p8):=by
 refine OpR.of CQ λv u H Q h=>?_;obtain⟨x,y,M,rm,rx,ry,q⟩:=h
 cases x<;>cases y<;>first
  |exact q.elim
  |(cases VO.mp rx;cases VO.mp ry;exact⟨_,_,rfl,rfl,⟨q.1,q.2.1,q.2.2.1⟩,q.2.2.2 _ H Ext.refl rm (VO.mpr rfl)⟩)
noncomputable def pj:R1d
 |.int i,M,Q=>Q (.int (-i)) M
 |_,_,_=>False
theorem pC:tI pj:=by
 intro x M Q Q' h q
 cases x<;>first|exact q.elim|exact h _ _ q
theorem UnR.of{f:gV->Sem gV}{r r':V->Hp->VK->Prop}(h:UnR X f r)(i:∀v H Q,r' v H Q->r v H Q):UnR X f r':=λpins s σ H x v Q I rx q=>h pins s σ H x v Q I rx (i _ _ _ q)
theorem yu:UnR X (unaryOp .USub) (l1 X.K pj):=by
 refine UnR.of CS λv H Q h=>?_;obtain⟨x,M,rm,rx,q⟩:=h
 cases x<;>first
  |exact q.elim
  |(cases VO.mp rx;exact⟨_,rfl,q _ H Ext.refl rm (VO.mpr rfl)⟩)
noncomputable def aA{α β:Type}(f:α->Option β):List α->Option (List β)
 |[]=>Z []
 |x::xs=>(f x).bind λy=>(aA f xs).map (y :: ·)
noncomputable def rb:Nat->Mem->D->Option MP
 |_,_,.non=>Z .none
 |_,_,.bl b=>Z (.bool b)
 |_,_,.int i=>Z (.int i)
 |_,_,.str x=>if PyData.strOk x=F2 then Z (.str x)else Y
 |n+1,M,.tup ds=>(aA (rb n M) ds).map Um
 |n+1,M,.con ds=>(aA (rb n M) ds).map V6
 | n+1,M,.ref a=>match M a with
   |some (.lst ds)=>(aA (rb n M) ds).map V6
   |_=>Y
 |0,_,.tup _=>Y
 |0,_,.con _=>Y
 |0,_,.ref _=>Y
 |_,_,.fn _=>Y
theorem dC{n:Nat}{M:Mem}(ih:∀d p,rb n M d=Z p->p.depth<=n/\p.canLay0=F2):∀{ds:List D} {ps:List MP},aA (rb n M) ds=Z ps->NS ps<=n/\MZ ps=F2
 |[],ps,h=>by simp[aA]at h;subst h;exact⟨NF _,rfl⟩
 |d::ds,ps,h=>by
  simp only[aA]at h
  cases e1:rb n M d with
  |none=>rw[e1]at h;cases h
  |some p=>
   rw[e1]at h
   cases e2:aA (rb n M) ds with
   |none=>simp[e2]at h
   |some qs=>
    simp[e2]at h;subst h;obtain⟨a1,a2⟩:=ih d p e1;obtain⟨z,j⟩:=dC ih e2;refine⟨?_,?_⟩
    ·show max p.depth (NS qs)<=n;lia
    ·show(p.canLay0&&MZ qs)=F2;rw[a2,j];rfl
theorem cC{M:Mem}:∀(n:Nat) (d:D) (p:MP),rb n M d=Z p->p.depth<=n/\p.canLay0=F2
 |n,.non,p,h=>by simp[rb]at h;subst h;exact⟨NF _,rfl⟩
 |n,.bl b,p,h=>by simp[rb]at h;subst h;exact⟨NF _,rfl⟩
 |n,.int b,p,h=>by simp[rb]at h;subst h;exact⟨NF _,rfl⟩
 |n,.str x,p,h=>by simp[rb]at h;obtain⟨h1,h2⟩:=h;subst h2;exact⟨NF _,h1⟩
 |0,.tup _,p,h=>by simp[rb]at h
 |0,.con _,p,h=>by simp[rb]at h
 |0,.ref _,p,h=>by simp[rb]at h
 |n,.fn _,p,h=>by simp[rb]at h
 |n+1,.tup ds,p,h=>by
  simp only[rb]at h
  cases e:aA (rb n M) ds with
  |none=>rw[e]at h;cases h
  |some ps=>rw[e]at h;cases h;obtain⟨a,b⟩:=dC (cC n) e;exact⟨S9 a,b⟩
 |n+1,.con ds,p,h=>by
  simp only[rb]at h
  cases e:aA (rb n M) ds with
  |none=>rw[e]at h;cases h
  |some ps=>rw[e]at h;cases h;obtain⟨a,b⟩:=dC (cC n) e;exact⟨S9 a,b⟩
 |n+1,.ref a,p,h=>by
  simp only[rb]at h
  cases e0:M a with
  |none=>rw[e0]at h;cases h
  |some o=>
   rw[e0]at h
   cases o with
   |dct _ _=>cases h
   |fdc _=>cases h
   |dcn _=>cases h
   |tab _ _=>cases h
   |fdn _=>cases h
   |lst ds=>
    simp only at h
    cases e:aA (rb n M) ds with
    |none=>rw[e]at h;cases h
    |some ps=>rw[e]at h;cases h;obtain⟨a,b⟩:=dC (cC n) e;exact⟨S9 a,b⟩
theorem dD{K:Frag}{H:Hp}{n:Nat}{M:Mem}{h:Heap}(ih:∀d p v u,rb n M d=Z p->RD K H d v->RelV v u->∃as,PJ h u p as):
 ∀{ds:List D} {ps:List MP} {vs:List V} {us:List gV},aA (rb n M) ds=Z ps->RDs K H ds vs->Vals vs us->∃as,T8 h us ps as
 |[],ps,vs,us,hm,r,rv=>by
  simp[aA]at hm;subst hm;rw[RDs.nil_iff.mp r]at rv
  cases rv
  exact⟨_,.nil⟩
 |d::ds,ps,vs,us,hm,r,rv=>by
  obtain⟨v,vr,rfl,j,z⟩:=VR.mp r
  cases rv with
  |cons B F=>
   simp only[aA]at hm
   cases e1:rb n M d with
   |none=>rw[e1]at hm;cases hm
   |some p=>
    rw[e1]at hm
    cases e2:aA (rb n M) ds with
    |none=>simp[e2]at hm
    |some qs=>simp[e2]at hm;subst hm;obtain⟨as,ra⟩:=ih d p v _ e1 j B;obtain⟨bs,rbs⟩:=dD ih e2 z F;exact⟨_,.cons ra rbs⟩
theorem bF{pins:List (N2×Obj)}{σ:St}{H:Hp}{s:q7}{M:Mem}(I:Inv X pins σ H s)(rm:RM X.K M H):∀(n:Nat) (d:D) (p:MP) (v:V) (u:gV),rb n M d=Z p->RD X.K H d v->RelV v u->∃as,PJ s.heap u p as
 |n,.non,p,v,u,h,r,q=>by simp[rb]at h;subst h;cases VV.mp r;cases q;exact⟨_,.none⟩
 |n,.bl b,p,v,u,h,r,q=>by simp[rb]at h;subst h;cases VQ.mp r;cases q;exact⟨_,.bool b⟩
 |n,.int b,p,v,u,h,r,q=>by simp[rb]at h;subst h;cases VO.mp r;obtain⟨t,rfl⟩:=q;exact⟨_,.int b t⟩
 |n,.str x,p,v,u,h,r,q=>by simp[rb]at h;obtain⟨_,h2⟩:=h;subst h2;cases VW.mp r;obtain⟨t,rfl⟩:=q;exact⟨_,.str x t⟩
 |0,.tup _,p,_,_,h,_,_=>by simp[rb]at h
 |0,.con _,p,_,_,h,_,_=>by simp[rb]at h
 |0,.ref _,p,_,_,h,_,_=>by simp[rb]at h
 |n,.fn _,p,_,_,h,_,_=>by simp[rb]at h
 |n+1,.tup ds,p,v,u,h,r,q=>by
  simp only[rb]at h
  cases e:aA (rb n M) ds with
  |none=>rw[e]at h;cases h
  |some ps=>
   rw[e]at h;cases h;obtain⟨a,vs,rfl,j,rs⟩:=VU r
   cases q
   obtain⟨its,rv,⟨o,ho,z,k,hd⟩,_⟩:=I.tuple j;obtain⟨as,ra⟩:=dD (bF I rm n) e rs rv;exact⟨_,.tuple ho z hd (by simpa using ra)⟩
 |n+1,.con ds,p,v,u,h,r,q=>by
  simp only[rb]at h
  cases e:aA (rb n M) ds with
  |none=>rw[e]at h;cases h
  |some ps=>
   rw[e]at h;cases h;obtain⟨a,vs,rfl,j,rs⟩:=VT.mp r
   cases q
   obtain⟨its,rv,⟨o,k,ho,z,_,hd⟩,_⟩:=I.list j.sq;obtain⟨as,ra⟩:=dD (bF I rm n) e rs rv;exact⟨_,.list ho z hd (by simpa using ra)⟩
 |n+1,.ref a,p,v,u,h,r,q=>by
  simp only[rb]at h
  cases e0:M a with
  |none=>rw[e0]at h;cases h
  |some o=>
   rw[e0]at h
   cases o with
   |dct _ _=>cases h
   |fdc _=>cases h
   |dcn _=>cases h
   |tab _ _=>cases h
   |fdn _=>cases h
   |lst ds=>
    simp only at h
    cases e:aA (rb n M) ds with
    |none=>rw[e]at h;cases h
    |some ps=>
     rw[e]at h;cases h
     cases VP.mp r
     cases q
     obtain⟨vs,j,rs⟩:=rm _ _ e0;obtain⟨its,rv,⟨o,k,ho,z,_,hd⟩,_⟩:=I.list (SqL.of j);obtain⟨as,ra⟩:=dD (bF I rm n) e rs rv;exact⟨_,.list ho z hd (by simpa using ra)⟩
noncomputable def wEq:R2d:=λx y M Q=>∃p q,rb 16 M x=Z p/\rb 16 M y=Z q/\Q (.bl (Mm p q)) M
noncomputable def wNe:R2d:=λx y M Q=>∃p q,rb 16 M x=Z p/\rb 16 M y=Z q/\Q (.bl (!PyData.eqv p q)) M
theorem AV:aG wEq:=λ_ _ _ _ _ h j=>(by obtain⟨p,q,a,b,c⟩:=j;exact⟨p,q,a,b,h _ _ c⟩)
theorem AW:aG wNe:=λ_ _ _ _ _ h j=>(by obtain⟨p,q,a,b,c⟩:=j;exact⟨p,q,a,b,h _ _ c⟩)
theorem AX(F:X.A.units+16<Om):OpR X (NB .Eq) (l2 X.K wEq):=by intro pins s σ H x y v u Q I rx ry h;obtain⟨d,e,M,rm,rd,re,p,q,j,z,k⟩:=h;obtain⟨as,ra⟩:=bF I rm _ _ _ _ _ j rd rx;obtain⟨bs,rb'⟩:=bF I rm _ _ _ _ _ z re ry;obtain⟨G,p2⟩:=cC _ _ _ j;obtain⟨J,B⟩:=cC _ _ _ z;exact SeqAt.compareEq_reads ra rb' p2 B ∅ ⟨.bl _,H,I,rfl,k _ H Ext.refl rm (VQ.mpr rfl)⟩
theorem AY(F:X.A.units+16<Om):OpR X (NB .NotEq) (l2 X.K wNe):=by intro pins s σ H x y v u Q I rx ry h;obtain⟨d,e,M,rm,rd,re,p,q,j,z,k⟩:=h;obtain⟨as,ra⟩:=bF I rm _ _ _ _ _ j rd rx;obtain⟨bs,rb'⟩:=bF I rm _ _ _ _ _ z re ry;obtain⟨G,p2⟩:=cC _ _ _ j;obtain⟨J,B⟩:=cC _ _ _ z;exact SeqAt.compareNe_reads ra rb' p2 B ∅ ⟨.bl _,H,I,rfl,k _ H Ext.refl rm (VQ.mpr rfl)⟩
noncomputable def wLt:R2d
 |.int i,.int j,M,Q=>Q (.bl (decide (i<j))) M
 |_,_,_,_=>False
noncomputable def wGt:R2d
 |.int i,.int j,M,Q=>Q (.bl (decide (j<i))) M
 |_,_,_,_=>False
noncomputable def wGe:R2d
 |.int i,.int j,M,Q=>Q (.bl (decide (j<=i))) M
 |_,_,_,_=>False
theorem AZ:aG wLt:=by
 intro x y M Q Q' h q
 cases x<;>cases y<;>first|exact q.elim|exact h _ _ q
theorem B0:aG wGt:=by
 intro x y M Q Q' h q
 cases x<;>cases y<;>first|exact q.elim|exact h _ _ q
theorem B1:aG wGe:=by
 intro x y M Q Q' h q
 cases x<;>cases y<;>first|exact q.elim|exact h _ _ q
theorem B2:OpR X (NB .Lt) (l2 X.K wLt):=by
 refine OpR.of EL λv u H Q h=>?_;obtain⟨x,y,M,rm,rx,ry,q⟩:=h
 cases x<;>cases y<;>first
  |exact q.elim
  |(cases VO.mp rx;cases VO.mp ry;exact⟨_,_,rfl,rfl,q _ H Ext.refl rm (VQ.mpr rfl)⟩)
theorem B3:OpR X (NB .Gt) (l2 X.K wGt):=by
 refine OpR.of EM λv u H Q h=>?_;obtain⟨x,y,M,rm,rx,ry,q⟩:=h
 cases x<;>cases y<;>first
  |exact q.elim
  |(cases VO.mp rx;cases VO.mp ry;exact⟨_,_,rfl,rfl,q _ H Ext.refl rm (VQ.mpr rfl)⟩)
theorem B4:OpR X (NB .GtE) (l2 X.K wGe):=by
 refine OpR.of EN λv u H Q h=>?_;obtain⟨x,y,M,rm,rx,ry,q⟩:=h
 cases x<;>cases y<;>first
  |exact q.elim
  |(cases VO.mp rx;cases VO.mp ry;exact⟨_,_,rfl,rfl,q _ H Ext.refl rm (VQ.mpr rfl)⟩)
end
end
variable{a:N2}{ds:List D}{vs:List V}{d x:D}
section
noncomputable def wIx:R2d:=λx y M Q=>match x with
 |.tup ds=>∃i d,y=.int i/\atI ds i=Z d/\Q d M
 |.con ds=>∃i d,y=.int i/\atI ds i=Z d/\Q d M
 |.ref a=>(∃ds i d,M a=Z (.lst ds)/\y=.int i/\atI ds i=Z d/\Q d M)∨(∃t kvs d,M a=Z (.dct t kvs)/\eI t y=F2/\dget kvs y=Z d/\Q d M)∨∃kvs d,M a=Z (.fdc kvs)/\dW y=F2/\dget kvs y=Z d/\Q d M
 |_=>False
theorem rM:aG wIx:=by
 intro x y M Q Q' h q
 cases x with
 |tup ds=>obtain⟨i,d,e,e2,q⟩:=q;exact⟨i,d,e,e2,h _ _ q⟩
 |con ds=>obtain⟨i,d,e,e2,q⟩:=q;exact⟨i,d,e,e2,h _ _ q⟩
 |ref a=>
  rcases q with⟨ds,i,d,e1,e2,j,q⟩|⟨t,kvs,d,e1,e2,j,q⟩|⟨kvs,d,e1,e2,j,q⟩
  ·exact .inl ⟨ds,i,d,e1,e2,j,h _ _ q⟩
  ·exact .inr (.inl ⟨t,kvs,d,e1,e2,j,h _ _ q⟩)
  ·exact .inr (.inr ⟨kvs,d,e1,e2,j,h _ _ q⟩)
 |_=>exact q.elim
theorem jD{i:Int}(r:RDs K H ds vs)(e:atI ds i=Z d):∃v,atI vs i=Z v/\RD K H d v:=by
 unfold atI at e⊢;rw[r.length]
 cases q:ixN ds.length i with
 |none=>rw[q]at e;cases e
 |some j=>rw[q]at e;exact r.get e
theorem kM{k:D}{q:Key}(r:RKey k q)(h:RD K H k v):v=kV q:=by
 cases k<;>first
  |exact r.elim
  |(cases(show q=_ from r);first|exact VO.mp h|exact VW.mp h)
theorem j0{K:Frag}{H:Hp}:∀{ds:List D} {ks:List Key} {vs:List V},MK RKey ds ks->RDs K H ds vs->vs=ks.map kV
 |_,_,vs,.nil,h=>by rw[RDs.nil_iff.mp h];rfl
 |_,_,vs,.cons r t,h=>by obtain⟨v,vr,rfl,h1,h2⟩:=VR.mp h;rw[kM r h1,j0 t h2];rfl
theorem RKey.inj{e:D}{k:Key}(a:RKey d k)(b:RKey e k):d=e:=by
 cases d<;>first
  |exact a.elim
  |(cases e<;>first|exact b.elim|(cases(show k=_ from a);injection (show _=_ from b)with z;rw[z])|(cases(show k=_ from a);cases(show _=_ from b)))
theorem RKeysP.inj:∀{d e:List D} {k:List Key},MK RKey d k->MK RKey e k->d=e
 |_,_,_,.nil,.nil=>rfl
 |_,_,_,.cons r t,.cons r' t'=>by rw[r.inj r',RKeysP.inj t t']
theorem RKeys.inj{e:D}{k:List Key}(a:RKeys d k)(b:RKeys e k):d=e:=by
 cases d<;>first
  |exact a.elim
  |(cases e<;>first|exact b.elim|exact congrArg D.tup (RKeysP.inj a b))
theorem RKey.fun{k k':Key}(a:RKey d k)(b:RKey d k'):k=k':=by
 cases d<;>first
  |exact a.elim
  |(cases(show k=_ from a);cases(show k'=_ from b);rfl)
theorem RKeysP.fun:∀{d:List D} {k k':List Key},MK RKey d k->MK RKey d k'->k=k'
 |_,_,_,.nil,.nil=>rfl
 |_,_,_,.cons r t,.cons r' t'=>by rw[r.fun r',RKeysP.fun t t']
theorem RKeys.fun{k k':List Key}(a:RKeys d k)(b:RKeys d k'):k=k':=by
 cases d<;>first
  |exact a.elim
  |exact RKeysP.fun a b
section
variable{κ:Type}[DecidableEq κ]{K:Frag}{H:Hp}{RK:D->κ->Prop}(inj:∀{d e:D} {k:κ},RK d k->RK e k->d=e)(fn:∀{d:D} {k k':κ},RK d k->RK d k'->k=k')
include inj fn
theorem j3{k:D}{q:κ}(j:RK k q):∀{kvs:List (D×D)} {ps:List (κ×V)},MK (λp r=>RK p.1 r.1/\RD K H p.2 r.2) kvs ps->
 (∀d,dget kvs k=Z d->∃v,bW ps q=Z v/\RD K H d v)/\(dget kvs k=Y->bW ps q=Y)
 |_,_,.nil=>⟨λd e=>by simp[dget]at e,λ_=>rfl⟩
 |_,_,.cons (a:=p) (b:=r) (l₂:=ps) B t=>by
  obtain⟨F,G⟩:=j3 j t
  by_cases e:p.1=k
  ·have e':r.1=q:=by
    have h1:=B.1;rw[e]at h1;exact fn h1 j
   refine⟨λd he=>?_,λhe=>?_⟩
   ·simp[dget,N6,e]at he;subst he;exact⟨r.2,fS e',B.2⟩
   ·simp[dget,N6,e]at he
  ·have e':¬r.1=q:=fun z=>e (by
    have h1:=B.1;rw[z]at h1;exact inj h1 j)
   have eq1:∀l:List (D×D),dget (p::l) k=dget l k:=λl=>by simp[dget,N6,e]
   have eq2:bW (r::ps) q=bW ps q:=fT e';refine⟨λd he=>?_,λhe=>?_⟩
   ·rw[eq1]at he;rw[eq2];exact F d he
   ·rw[eq1]at he;rw[eq2];exact G he
end
section
variable{X:Cx}
theorem pE{ps:List (List Key×V)}{kvs:List (D×D)}{k:D}(B:Rd H a (.dT ps))(pr:MK (λ(p:D×D) (q:List Key×V)=>RKeys p.1 q.1/\RD K H p.2 q.2) kvs ps)(ok:dW k=F2)(rk:RD K H k v):
 ∃o,DGet H a v o/\(∀d,dget kvs k=Z d->∃w,o=Z w/\RD K H d w)/\(dget kvs k=Y->o=Y):=by
 obtain⟨q,j⟩:=rK ok;obtain⟨g1,g2⟩:=j3 (RK:=RKeys) RKeys.inj RKeys.fun j pr;refine⟨bW ps q,?_,g1,g2⟩
 cases k<;>first
  |exact j.elim
  | (obtain⟨b,us,rfl,z,ru⟩:=W8 (rL ok) rk
     rw[j0 j ru]at z;exact .inr ⟨ps,q,b,B,rfl,z,rfl⟩)
theorem kN{t:Bool}{kvs:List (D×D)}{k:D}(rm:RM K M H)(e:M a=Z (.dct t kvs))(ok:eI t k=F2)(rk:RD K H k v):
 ∃o,DGet H a v o/\(∀d,dget kvs k=Z d->∃w,o=Z w/\RD K H d w)/\(dget kvs k=Y->o=Y):=by
 have ro:=rm a _ e
 cases t with
 |false=>obtain⟨ps,j,pr⟩:=ro;obtain⟨q,z⟩:=oT (show fW k=F2 from ok);obtain⟨g1,g2⟩:=j3 (RK:=RKey) RKey.inj RKey.fun z pr;refine⟨bW ps q,?_,g1,g2⟩;rw[kM z rk];exact DGet.k j
 |true=>obtain⟨ps,j,pr⟩:=ro;exact pE (.inl j) pr ok rk
theorem B5(j:X.A.units+1<Om):IxR X (λx y H Q=>∃a v,x=.ref a/\DGet H a y (Z v)/\Q v H):=by
 intro value slice pins s σ H x y v u Q I rx ry h hs;obtain⟨a,w,rfl,g,q⟩:=h
 cases rx
 have hd:IsD H a:=by
  rcases g with⟨kvs,k,e,_⟩|⟨kvs,k,b,e,_⟩
  ·exact .inl ⟨kvs,e⟩
  ·exact .inr ⟨kvs,e⟩
 obtain⟨z,_⟩:=jx I hd;exact tail_any z PySem.F.slot_dict_getitem.lookup (vq j I g ry λw' s' I' r'=>⟨w,H,I',r',q⟩) hs
theorem Gk(B:X.A.units+1<Om):IxR X (l2 X.K wIx):=by
 refine IxR.of (ix_list.or (ix_tup.or (B5 B))) λv u H Q h=>?_;obtain⟨x,y,M,rm,rx,ry,q⟩:=h
 cases x with
 |tup ds=>
  obtain⟨i,d,rfl,e,q⟩:=q;obtain⟨a,vs,rfl,j,rs⟩:=VU rx
  cases VO.mp ry
  obtain⟨w,hw,rw'⟩:=jD rs e;exact .inr (.inl ⟨a,vs,i,w,rfl,rfl,j,hw,q w H Ext.refl rm rw'⟩)
 |con ds=>
  obtain⟨i,d,rfl,e,q⟩:=q;obtain⟨a,vs,rfl,j,rs⟩:=VT.mp rx
  cases VO.mp ry
  obtain⟨w,hw,rw'⟩:=jD rs e;exact .inl ⟨a,vs,i,w,rfl,rfl,j.sq,hw,q w H Ext.refl rm rw'⟩
 |ref a=>
  cases VP.mp rx
  rcases q with⟨ds,i,d,e1,rfl,z,q⟩|⟨t,kvs,d,e1,e2,z,q⟩|⟨kvs,d,e1,e2,z,q⟩
  ·cases VO.mp ry
   obtain⟨vs,j,rs⟩:=rm _ _ e1;obtain⟨w,hw,rw'⟩:=jD rs z;exact .inl ⟨a,vs,i,w,rfl,rfl,SqL.of j,hw,q w H Ext.refl rm rw'⟩
  ·obtain⟨o,g,g1,_⟩:=kN rm e1 e2 ry;obtain⟨w,rfl,rw'⟩:=g1 d z;exact .inr (.inr ⟨a,w,rfl,g,q w H Ext.refl rm rw'⟩)
  ·obtain⟨ob,ps,F,pr⟩:=rm _ _ e1;obtain⟨o,g,g1,_⟩:=pE (.inr ⟨ob,F⟩) pr e2 ry;obtain⟨w,rfl,rw'⟩:=g1 d z;exact .inr (.inr ⟨a,w,rfl,g,q w H Ext.refl rm rw'⟩)
 |_=>exact q.elim
noncomputable def pF(M:Mem):D->Option Nat
 |.tup ds=>Z ds.length
 |.con ds=>Z ds.length
 |.ref a=>match M a with
  |some (.lst ds)=>Z ds.length
  |_=>Y
 |_=>Y
noncomputable def fq:RAd:=λxs M Q=>∃x n,xs=[x]/\pF M x=Z n/\Q (.int n) M
theorem pG:aN fq:=λ_ _ _ _ h j=>(by obtain⟨x,n,e,l,q⟩:=j;exact⟨x,n,e,l,h _ _ q⟩)
theorem RDs.one(h:RDs K H [d] vs):∃v,vs=[v]/\RD K H d v:=by obtain⟨v,r,rfl,h1,h2⟩:=VR.mp h;rw[RDs.nil_iff.mp h2];exact⟨v,rfl,h1⟩
theorem RDs.two{e:D}(h:RDs K H [d,e] vs):∃v u,vs=[v,u]/\RD K H d v/\RD K H e u:=by obtain⟨v,r,rfl,h1,h2⟩:=VR.mp h;obtain⟨u,rfl,j⟩:=RDs.one h2;exact⟨v,u,rfl,h1,j⟩
theorem tL:CallR X (.builtin "len") (lR X.K fq):=by
 refine CallR.of xU λvs H Q h=>?_;obtain⟨ds,M,rm,rs,x,n,rfl,l,q⟩:=h;obtain⟨v,rfl,r⟩:=rs.one;refine⟨v,n,rfl,?_,q _ H Ext.refl rm (VO.mpr rfl)⟩
 cases x with
 |tup ds=>
  cases l
  obtain⟨a,us,rfl,j,ru⟩:=VU r;exact .inr ⟨us,j,ru.length.symm⟩
 |con ds=>
  cases l
  obtain⟨a,us,rfl,j,ru⟩:=VT.mp r;exact .inl ⟨us,j.sq,ru.length.symm⟩
 |ref a=>
  cases VP.mp r
  simp only[pF]at l
  cases e:M a with
  |none=>rw[e]at l;cases l
  |some o=>
   rw[e]at l
   cases o with
   |dct _ _=>cases l
   |fdc _=>cases l
   |dcn _=>cases l
   |tab _ _=>cases l
   |fdn _=>cases l
   |lst ds=>
    cases l
    obtain⟨us,j,ru⟩:=rm _ _ e;exact .inl ⟨us,SqL.of j,ru.length.symm⟩
 |_=>cases l
noncomputable def kP:RAd:=λxs M Q=>∃i,xs=[.int i]/\Q (.int (if i<0 then -i else i)) M
noncomputable def jE:RAd:=λxs M Q=>∃i j,xs=[.int i,.int j]/\Q (.int (if j > i then j else i)) M
noncomputable def jF:RAd:=λxs M Q=>∃i j,xs=[.int i,.int j]/\Q (.int (if j<i then j else i)) M
noncomputable def kQ:RAd:=λxs M Q=>(∃i,xs=[.int i]/\Q (.int i) M)∨∃k,xs=[.bl k]/\Q (.int (if k then 1 else 0)) M
theorem pH:aN kP:=λ_ _ _ _ h j=>(by obtain⟨i,e,q⟩:=j;exact⟨i,e,h _ _ q⟩)
theorem mm:aN jE:=λ_ _ _ _ h z=>(by obtain⟨i,j,e,q⟩:=z;exact⟨i,j,e,h _ _ q⟩)
theorem mn:aN jF:=λ_ _ _ _ h z=>(by obtain⟨i,j,e,q⟩:=z;exact⟨i,j,e,h _ _ q⟩)
theorem pI:aN kQ:=λ_ _ _ _ h q=>q.elim (λj=>(by obtain⟨i,e,q⟩:=j;exact .inl ⟨i,e,h _ _ q⟩)) λj=>(by obtain⟨i,e,q⟩:=j;exact .inr ⟨i,e,h _ _ q⟩)
theorem tM:CallR X (.builtin "abs") (lR X.K kP):=by
 refine CallR.of xT λvs H Q h=>?_;obtain⟨ds,M,rm,rs,i,rfl,q⟩:=h;obtain⟨v,rfl,r⟩:=rs.one
 cases VO.mp r
 exact⟨i,rfl,q _ H Ext.refl rm (VO.mpr rfl)⟩
theorem qX(z:X.calm=F2):CallR X (.builtin "max") (lR X.K jE):=by
 refine CallR.of (va z) λvs H Q h=>?_;obtain⟨ds,M,rm,rs,i,j,rfl,q⟩:=h;obtain⟨v,u,rfl,B,F⟩:=rs.two
 cases VO.mp B
 cases VO.mp F
 exact⟨i,j,rfl,q _ H Ext.refl rm (VO.mpr rfl)⟩
theorem qY(z:X.calm=F2):CallR X (.builtin "min") (lR X.K jF):=by
 refine CallR.of (vc z) λvs H Q h=>?_;obtain⟨ds,M,rm,rs,i,j,rfl,q⟩:=h;obtain⟨v,u,rfl,B,F⟩:=rs.two
 cases VO.mp B
 cases VO.mp F
 exact⟨i,j,rfl,q _ H Ext.refl rm (VO.mpr rfl)⟩
theorem tN:CallR X (.type "int") (lR X.K kQ):=by
 refine CallR.of vd λvs H Q h=>?_;obtain⟨ds,M,rm,rs,⟨i,rfl,q⟩|⟨i,rfl,q⟩⟩:=h
 ·obtain⟨v,rfl,r⟩:=rs.one
  cases VO.mp r
  exact .inl ⟨i,rfl,q _ H Ext.refl rm (VO.mpr rfl)⟩
 ·obtain⟨v,rfl,r⟩:=rs.one
  cases VQ.mp r
  exact .inr ⟨i,rfl,q _ H Ext.refl rm (VO.mpr rfl)⟩
noncomputable def aJ(M:Mem):D->Option (List D)
 |.tup ds=>Z ds
 |.con ds=>Z ds
 |.ref a=>match M a with
  |some (.lst ds)=>Z ds
  |_=>Y
 |_=>Y
theorem pJ(rm:RM K M H)(r:RD K H x v)(e:aJ M x=Z ds):∃p vs,v=.ref p/\(SqL K H p vs∨SqT K H p vs)/\RDs K H ds vs:=by
 cases x with
 |tup es=>
  cases e
  obtain⟨a,us,rfl,j,ru⟩:=VU r;exact⟨a,us,rfl,.inr j,ru⟩
 |con es=>
  cases e
  obtain⟨a,us,rfl,j,ru⟩:=VT.mp r;exact⟨a,us,rfl,.inl j.sq,ru⟩
 |ref a=>
  cases VP.mp r
  simp only[aJ]at e
  cases e0:M a with
  |none=>rw[e0]at e;cases e
  |some o=>
   rw[e0]at e
   cases o with
   |dct _ _=>cases e
   |fdc _=>cases e
   |dcn _=>cases e
   |tab _ _=>cases e
   |fdn _=>cases e
   |lst es=>
    cases e
    obtain⟨us,j,ru⟩:=rm _ _ e0;exact⟨a,us,rfl,.inl (SqL.of j),ru⟩
 |_=>cases e
noncomputable def nJ:RAd:=λxs M Q=>∃x ds,xs=[x]/\aJ M x=Z ds/\∀p,M p=Y->Q (.ref p) (af M p (.lst ds))
noncomputable def jG:RAd:=λxs M Q=>∃x ds,xs=[x]/\aJ M x=Z ds/\Q (.tup ds) M
theorem mq:aN nJ:=λ_ _ _ _ h j=>(by obtain⟨x,ds,e,l,q⟩:=j;exact⟨x,ds,e,l,λp n=>h _ _ (q p n)⟩)
theorem jH:aN jG:=λ_ _ _ _ h j=>(by obtain⟨x,ds,e,l,q⟩:=j;exact⟨x,ds,e,l,h _ _ q⟩)
theorem qZ:CallR X (.type "list") (lR X.K nJ):=by refine CallR.of oK λvs H Q h=>?_;obtain⟨ds,M,rm,rs,x,es,rfl,l,q⟩:=h;obtain⟨v,rfl,r⟩:=rs.one;obtain⟨p,us,rfl,sq,ru⟩:=pJ rm r l;exact⟨p,us,rfl,sq,λl' n=>cF rm ru q n⟩
theorem pK:CallR X (.type "tuple") (lR X.K jG):=by
 refine CallR.of nE λvs H Q h=>?_;obtain⟨ds,M,rm,rs,x,es,rfl,l,q⟩:=h;obtain⟨v,rfl,r⟩:=rs.one
 cases x with
 |tup ds'=>
  cases l
  obtain⟨a,us,rfl,j,ru⟩:=VU r;exact⟨a,us,rfl,.inr ⟨j,q _ H Ext.refl rm r⟩⟩
 |con ds'=>
  cases l
  obtain⟨a,us,rfl,j,ru⟩:=VT.mp r;exact⟨a,us,rfl,.inl ⟨j.sq,λl' n=>dN rm ru q n⟩⟩
 |ref a=>
  cases VP.mp r
  simp only[aJ]at l
  cases e0:M a with
  |none=>rw[e0]at l;cases l
  |some o=>
   rw[e0]at l
   cases o with
   |dct _ _=>cases l
   |fdc _=>cases l
   |dcn _=>cases l
   |tab _ _=>cases l
   |fdn _=>cases l
   |lst es'=>
    cases l
    obtain⟨us,j,ru⟩:=rm _ _ e0;exact⟨a,us,rfl,.inl ⟨SqL.of j,λl' n=>dN rm ru q n⟩⟩
 |_=>cases l
end
end
variable{e:Expr}{tA:TTd}
section
section
variable{X:Cx}
theorem RDs.ints_eq{K:Frag}{H:Hp}:∀{ns:List Int} {vs:List V},RDs K H (ns.map D.int) vs->vs=ns.map V.int
 |[],_,h=>RDs.nil_iff.mp h
 |n::ns,_,h=>by obtain⟨v,r,rfl,h1,h2⟩:=VR.mp h;rw[VO.mp h1,RDs.ints_eq h2];rfl
noncomputable def yv(M:Mem):D->Option Bool
 |.non=>Z Md
 |.bl b=>Z b
 |.int i=>Z (i != 0)
 |.tup ds=>Z (!ds.isEmpty)
 |.con ds=>Z (!ds.isEmpty)
 |.ref a=>match M a with
  |some (.lst ds)=>Z (!ds.isEmpty)
  |_=>Y
 |_=>Y
noncomputable def tO(t:TEd):TTd:=λρ M Q=>t ρ M λx M1=>∃b,yv M1 x=Z b/\Q b M1
theorem yw{t:TEd}(h:ad t):aK (tO t):=λρ M Q Q' i q=>h _ _ _ _ (λx B j=>(by obtain⟨k,e,z⟩:=j;exact⟨k,e,i _ _ z⟩)) q
theorem Dj{b:Bool}(rm:RM K M H)(r:RD K H x v)(e:yv M x=Z b):xR K v H b:=by
 have emp:∀{ds:List D} {vs:List V},RDs K H ds vs->(!ds.isEmpty) = !vs.isEmpty:=λ{ds vs} h=>by
  have l:=h.length
  cases ds<;>cases vs<;>first|rfl|(simp at l)
 cases x with
 |non=>cases e;cases VV.mp r;rfl
 |bl k=>cases e;cases VQ.mp r;rfl
 |int i=>cases e;cases VO.mp r;rfl
 |tup ds=>
  cases e
  obtain⟨a,vs,rfl,j,rs⟩:=VU r;exact .inr (.inl ⟨vs,j,emp rs⟩)
 |con ds=>
  cases e
  obtain⟨a,vs,rfl,j,rs⟩:=VT.mp r;exact .inl ⟨vs,j.sq,emp rs⟩
 |ref a=>
  cases VP.mp r
  simp only[yv]at e
  cases e0:M a with
  |none=>rw[e0]at e;cases e
  |some o=>
   rw[e0]at e
   cases o with
   |dct _ _=>cases e
   |fdc _=>cases e
   |dcn _=>cases e
   |tab _ _=>cases e
   |fdn _=>cases e
   |lst ds=>
    cases e
    obtain⟨vs,j,rs⟩:=rm _ _ e0;exact .inl ⟨vs,SqL.of j,emp rs⟩
 |str _=>cases e
 |fn _=>cases e
variable{a b:Expr}{ta tb:TEd}{pos:Pos}
theorem Dl(m:ad ta)(B:PE X a (lE X.K ta))(he:∀whole,isTrue a X.env whole=(do let v <-whole;Rz a.pos;holding [v] (truthy v))):PT X a (lT X.K (tO ta)):=by refine PT.imp (xS B he) λσ H Q h=>?_;obtain⟨ρ,M,rs,rm,q⟩:=h;exact⟨ρ,M,rs,rm,m _ _ _ _ (λx L F v H1 G j z=>(by obtain⟨k,e,J⟩:=F;exact⟨k,Dj j z e,J H1 G j⟩)) q⟩
noncomputable def nK(t:TTd):TTd:=λρ M Q=>t ρ M λc M1=>Q (!c) M1
theorem vG{t:TTd}(h:aK t):aK (nK t):=λρ M Q Q' i q=>h _ _ _ _ (λc z j=>i _ _ j) q
theorem Dm(m:aK tA)(j:PT X a (lT X.K tA)):PT X (.UnaryOp .Not a pos) (lT X.K (nK tA)):=by refine PT.imp (Cw j) λσ H Q h=>?_;obtain⟨ρ,M,rs,rm,q⟩:=h;exact⟨ρ,M,rs,rm,m _ _ _ _ (λc B z=>z) q⟩
noncomputable def nM(t u:TTd):TTd:=λρ M Q=>t ρ M λc M1=>if c=F2 then u ρ M1 Q else Q Md M1
noncomputable def tP(t u:TTd):TTd:=λρ M Q=>t ρ M λc M1=>if c=F2 then Q F2 M1 else u ρ M1 Q
theorem vH{t u:TTd}(h:aK t)(k:aK u):aK (nM t u):=λρ M Q Q' i q=>h _ _ _ _ (λc z j=>by
 cases c with
 |true=>rw[if_pos rfl]at j⊢;exact k _ _ _ _ i j
 |false=>rw[if_neg KW]at j⊢;exact i _ _ j) q
theorem yx{t u:TTd}(h:aK t)(k:aK u):aK (tP t u):=λρ M Q Q' i q=>h _ _ _ _ (λc z j=>by
 cases c with
 |true=>rw[if_pos rfl]at j⊢;exact i _ _ j
 |false=>rw[if_neg KW]at j⊢;exact k _ _ _ _ i j) q
theorem B6(j:PT X a (lT X.K tA)):PW X (.BoolOp .And [a] pos) (lT X.K tA):=Ax j
theorem Dn(j:PT X a (lT X.K tA)):PW X (.BoolOp .Or [a] pos) (lT X.K tA):=Cu j
theorem Do{tB:TTd}{rest:List Expr}(mA:aK tA)(mB:aK tB)(F:PT X a (lT X.K tA))(G:PW X (.BoolOp .And (b::rest) pos) (lT X.K tB)):PW X (.BoolOp .And (a::b::rest) pos) (lT X.K (nM tA tB)):=by
 refine PW.imp (Cv F G) λσ H Q h=>?_;obtain⟨ρ,M,rs,rm,q⟩:=h;refine⟨ρ,M,rs,rm,mA _ _ _ _ (λc J z H1 B j=>?_) q⟩
 cases c with
 |true=>rw[if_pos rfl]at z⊢;exact⟨ρ,J,rs.mono (B.stab rm),j,mB _ _ _ _ (λd M2 k=>k.ext B) z⟩
 |false=>rw[if_neg KW]at z⊢;exact z H1 B j
theorem F9{tB:TTd}{rest:List Expr}(mA:aK tA)(mB:aK tB)(F:PT X a (lT X.K tA))(G:PW X (.BoolOp .Or (b::rest) pos) (lT X.K tB)):PW X (.BoolOp .Or (a::b::rest) pos) (lT X.K (tP tA tB)):=by
 refine PW.imp (EA F G) λσ H Q h=>?_;obtain⟨ρ,M,rs,rm,q⟩:=h;refine⟨ρ,M,rs,rm,mA _ _ _ _ (λc J z H1 B j=>?_) q⟩
 cases c with
 |true=>rw[if_pos rfl]at z⊢;exact z H1 B j
 |false=>rw[if_neg KW]at z⊢;exact⟨ρ,J,rs.mono (B.stab rm),j,mB _ _ _ _ (λd M2 k=>k.ext B) z⟩
noncomputable def nN(ta tb:TEd):TEd:=λρ M Q=>ta ρ M λx M1=>∃c,x=.bl c/\if c=F2 then tb ρ M1 Q else Q (.bl Md) M1
noncomputable def tQ(ta tb:TEd):TEd:=λρ M Q=>ta ρ M λx M1=>∃c,x=.bl c/\if c=F2 then Q (.bl F2) M1 else tb ρ M1 Q
noncomputable def nO(ta:TEd):TEd:=λρ M Q=>ta ρ M λx M1=>∃c,x=.bl c/\Q (.bl (!c)) M1
theorem vI(h:ad ta)(k:ad tb):ad (nN ta tb):=λρ M Q Q' i q=>h _ _ _ _ (λx z ⟨c,e,j⟩=>⟨c,e,by
 cases c with
 |true=>rw[if_pos rfl]at j⊢;exact k _ _ _ _ i j
 |false=>rw[if_neg KW]at j⊢;exact i _ _ j⟩) q
theorem yz(h:ad ta)(k:ad tb):ad (tQ ta tb):=λρ M Q Q' i q=>h _ _ _ _ (λx z ⟨c,e,j⟩=>⟨c,e,by
 cases c with
 |true=>rw[if_pos rfl]at j⊢;exact i _ _ j
 |false=>rw[if_neg KW]at j⊢;exact k _ _ _ _ i j⟩) q
theorem vJ(h:ad ta):ad (nO ta):=λρ M Q Q' i q=>h _ _ _ _ (λx B j=>(by obtain⟨c,e,z⟩:=j;exact⟨c,e,i _ _ z⟩)) q
theorem vK{op:BoolOp}{t:TEd}(h:PE X a (lE X.K t)):PE X (.BoolOp op [a] pos) (lE X.K t):=Cy h
theorem Dp{rest:List Expr}(ma:ad ta)(mb:ad tb)(G:PE X a (lE X.K ta))(J:PE X (.BoolOp .And (b::rest) pos) (lE X.K tb)):PE X (.BoolOp .And (a::b::rest) pos) (lE X.K (nN ta tb)):=by
 refine PE.imp (Cz G J) λσ H Q h=>?_;obtain⟨ρ,M,rs,rm,q⟩:=h;refine⟨ρ,M,rs,rm,ma _ _ _ _ (λx L g9 v H1 B j F=>?_) q⟩;obtain⟨c,e,z⟩:=g9;subst e;refine⟨c,VQ.mp F,?_⟩
 cases c with
 |true=>rw[if_pos rfl]at z⊢;exact⟨ρ,L,rs.mono (B.stab rm),j,mb _ _ _ _ (λd M2 k=>k.ext B) z⟩
 |false=>rw[if_neg KW]at z⊢;exact z _ H1 B j (VQ.mpr rfl)
theorem Fa{rest:List Expr}(ma:ad ta)(mb:ad tb)(G:PE X a (lE X.K ta))(J:PE X (.BoolOp .Or (b::rest) pos) (lE X.K tb)):PE X (.BoolOp .Or (a::b::rest) pos) (lE X.K (tQ ta tb)):=by
 refine PE.imp (ED G J) λσ H Q h=>?_;obtain⟨ρ,M,rs,rm,q⟩:=h;refine⟨ρ,M,rs,rm,ma _ _ _ _ (λx L g9 v H1 B j F=>?_) q⟩;obtain⟨c,e,z⟩:=g9;subst e;refine⟨c,VQ.mp F,?_⟩
 cases c with
 |true=>rw[if_pos rfl]at z⊢;exact z _ H1 B j (VQ.mpr rfl)
 |false=>rw[if_neg KW]at z⊢;exact⟨ρ,L,rs.mono (B.stab rm),j,mb _ _ _ _ (λd M2 k=>k.ext B) z⟩
theorem Dq(ma:ad ta)(B:PE X a (lE X.K ta)):PE X (.UnaryOp .Not a pos) (lE X.K (nO ta)):=by refine PE.imp (CA B) λσ H Q h=>?_;obtain⟨ρ,M,rs,rm,q⟩:=h;refine⟨ρ,M,rs,rm,ma _ _ _ _ (λx J g9 v H1 G j z=>?_) q⟩;obtain⟨c,e,F⟩:=g9;subst e;exact⟨c,VQ.mp z,F _ H1 G j (VQ.mpr rfl)⟩
noncomputable def wIf(t:TTd)(ta tb:TEd):TEd:=λρ M Q=>t ρ M λc M1=>if c=F2 then ta ρ M1 Q else tb ρ M1 Q
theorem B7{t:TTd}(h:aK t)(z:ad ta)(B:ad tb):ad (wIf t ta tb):=λρ M Q Q' i q=>h _ _ _ _ (λc F j=>by
 cases c with
 |true=>rw[if_pos rfl]at j⊢;exact z _ _ _ _ i j
 |false=>rw[if_neg KW]at j⊢;exact B _ _ _ _ i j) q
theorem Fb{c:Expr}{t:TTd}(mt:aK t)(ma:ad ta)(mb:ad tb)(G:PT X c (lT X.K t))(J:PE X a (lE X.K ta))(L:PE X b (lE X.K tb)):PE X (.IfExp c a b pos) (lE X.K (wIf t ta tb)):=by
 refine PE.imp (xK G J L) λσ H Q h=>?_;obtain⟨ρ,M,rs,rm,q⟩:=h;refine⟨ρ,M,rs,rm,mt _ _ _ _ (λx F z H1 B j=>?_) q⟩
 cases x with
 |true=>rw[if_pos rfl]at z⊢;exact⟨ρ,F,rs.mono (B.stab rm),j,ma _ _ _ _ (λd M2 k=>k.ext B) z⟩
 |false=>rw[if_neg KW]at z⊢;exact⟨ρ,F,rs.mono (B.stab rm),j,mb _ _ _ _ (λd M2 k=>k.ext B) z⟩
noncomputable def bX(xs:List D)(lo hi:Option Int):List D:=(xs.drop (HT.sIx xs.length 0 lo)).take (HT.sIx xs.length xs.length hi-HT.sIx xs.length 0 lo)
theorem pM(r:RDs K H ds vs)(lo hi:Option Int):RDs K H (bX ds lo hi) (gG vs lo hi):=by unfold bX gG;rw[r.length];exact(r.drop _).take _
noncomputable abbrev TOd:=au->Mem->(Option Int->Mem->Prop)->Prop
def fX(T:TOd):Prop:=∀ρ M Q Q',(∀d M',Q d M'->Q' d M')->T ρ M Q->T ρ M Q'
noncomputable def ii:TOd:=λ_ M Q=>Q Y M
noncomputable def nP(t:TEd):TOd:=λρ M Q=>t ρ M λx M1=>∃i,x=.int i/\Q (Z i) M1
theorem r6:fX ii:=λ_ _ _ _ h q=>h _ _ q
theorem vL(h:ad ta):fX (nP ta):=λρ M Q Q' i q=>h _ _ _ _ (λx B j=>(by obtain⟨c,e,z⟩:=j;exact⟨c,e,i _ _ z⟩)) q
noncomputable def lO(K:Frag)(T:TOd):TO:=λσ H Q=>∃ρ M,RS K H σ ρ/\RM K M H/\T ρ M (λo M'=>∀H',Ext M H M' H'->RM K M' H'->Q o H')
theorem B8:PO X Y (lO X.K ii):=λpins s σ H Q I h=>by obtain⟨ρ,M,rs,rm,q⟩:=h;exact AJ pins s σ H Q I (q H Ext.refl rm)
theorem B9(m:ad ta)(h:PE X e (lE X.K ta)):PO X (Z e) (lO X.K (nP ta)):=λpins s σ H Q I hq=>by obtain⟨ρ,M,rs,rm,q⟩:=hq;refine AK h pins s σ H Q I ⟨ρ,M,rs,rm,m _ _ _ _ (λx G g9 v H1 F j z=>?_) q⟩;obtain⟨i,e,B⟩:=g9;subst e;exact⟨i,VO.mp z,B H1 F j⟩
noncomputable def fE:D->Option Int->Option Int->Mem->QD->Prop:=λx lo hi M Q=>match x with
 |.tup ds=>Q (.tup (bX ds lo hi)) M
 |.ref a=>∃ds,M a=Z (.lst ds)/\∀p,M p=Y->Q (.ref p) (af M p (.lst (bX ds lo hi)))
 |.con ds=>∀p,M p=Y->Q (.ref p) (af M p (.lst (bX ds lo hi)))
 |_=>False
noncomputable def wSl(te:TEd)(tl th:TOd):TEd:=λρ M Q=>te ρ M λx M1=>tl ρ M1 λl M2=>th ρ M2 λu M3=>fE x l u M3 Q
theorem tR{lo hi:Option Int}{Q Q':QD}(h:∀d M',Q d M'->Q' d M')(q:fE x lo hi M Q):fE x lo hi M Q':=by
 cases x with
 |tup ds=>exact h _ _ q
 |ref a=>obtain⟨ds,e,q⟩:=q;exact⟨ds,e,λp n=>h _ _ (q p n)⟩
 |con ds=>exactλp n=>h _ _ (q p n)
 |_=>exact q.elim
theorem Ba{tl th:TOd}(m:ad ta)(ml:fX tl)(mh:fX th):ad (wSl ta tl th):=λρ M Q Q' i q=>m _ _ _ _ (λx F j=>ml _ _ _ _ (λl M2 z=>mh _ _ _ _ (λu G B=>tR i B) z) j) q
theorem Fc{lo hi:Option Expr}{tl th:TOd}{p2:Pos}(m:ad ta)(ml:fX tl)(mh:fX th)(he:PE X e (lE X.K ta))(hl:PO X lo (lO X.K tl))(hu:PO X hi (lO X.K th)):
 PE X (.Subscript e (.Slice lo hi Y p2) pos) (lE X.K (wSl ta tl th)):=by
 refine PE.imp (xY (sl_tup.or (sl_list.or xZ)) he hl hu) λσ H Q h=>?_;obtain⟨ρ,M,rs,rm,q⟩:=h;refine⟨ρ,M,rs,rm,m _ _ _ _ (λx M1 q1 v H1 O G U=>?_) q⟩;refine⟨ρ,M1,rs.mono (O.stab rm),G,ml _ _ _ _ (λl M2 q2 H2 Fn L=>?_) q1⟩;refine⟨ρ,M2,(rs.mono (O.stab rm)).mono (Fn.stab G),L,mh _ _ _ _ (λu M3 z H3 fv j=>?_) q2⟩;have B:=O.trans (Fn.trans fv);have F:=(U.mono (Fn.stab G)).mono (fv.stab L)
 cases x with
 |tup ds=>
  obtain⟨a,vs,rfl,J,r⟩:=VU F
  by_cases hw:HT.sIx vs.length 0 l=0/\HT.sIx vs.length vs.length u=vs.length
  ·refine .inr (.inr ⟨a,vs,rfl,J,hw,?_⟩);have e:bX ds l u=ds:=by
    unfold bX;rw[<-r.length,hw.1,hw.2,r.length];simp
   simp only[fE]at z;rw[e]at z;exact z.ext B _ H3 Ext.refl j F
  ·simp only[fE]at z;exact .inl ⟨a,vs,rfl,J,hw,λp n=>dN j (pM r l u) (z.ext B) n⟩
 |ref a=>
  cases VP.mp F
  obtain⟨ds,e,z⟩:=z;obtain⟨vs,J,r⟩:=j _ _ e;exact .inr (.inl ⟨a,vs,rfl,SqL.of J,λp n=>cF j (pM r l u) (λp' n'=>(z p' n').ext B) n⟩)
 |con ds=>obtain⟨a,vs,rfl,J,r⟩:=VT.mp F;exact .inr (.inl ⟨a,vs,rfl,J.sq,λp n=>cF j (pM r l u) (λp' n'=>(z p' n').ext B) n⟩)
 |_=>exact z.elim
end
end
variable{ta:TEd}{p pos:Pos}{tg:Expr}{H1:Hp}
section
section
variable{X:Cx}
noncomputable def tyN(M:Mem):D->Option String
 |.non=>Z "NoneType"
 |.bl _=>Z "bool"
 |.int _=>Z "int"
 |.str _=>Z "str"
 |.tup _=>Z "tuple"
 |.ref a=>match M a with
  |some (.lst _)=>Z "list"
  |some (.dct _ _)=>Z "dict"
  |_=>Y
 |.con _=>Y
 |.fn _=>Y
noncomputable def yA(T t:String):Bool:=t==T || (t=="bool"&&T=="int")
theorem Fd{t:String}(rm:RM K M H)(r:RD K H x v)(e:tyN M x=Z t):cI K H v (.type t):=by
 cases x with
 |non=>cases e;cases VV.mp r;exact .non
 |bl k=>cases e;cases VQ.mp r;exact .bl k
 |int i=>cases e;cases VO.mp r;exact .int i
 |str i=>cases e;cases VW.mp r;exact .str i
 |tup ds=>
  cases e
  obtain⟨a,vs,rfl,j,rs⟩:=VU r;exact .tup j
 |con ds=>cases e
 |fn _=>cases e
 |ref a=>
  cases VP.mp r
  simp only[tyN]at e
  cases e0:M a with
  |none=>rw[e0]at e;cases e
  |some o=>
   rw[e0]at e
   cases o with
   |lst ds=>
    cases e
    obtain⟨vs,j,rs⟩:=rm _ _ e0;exact .lst j
   |dct t kvs=>
    cases e
    have ro:=rm _ _ e0
    cases t with
    |false=>obtain⟨ps,j,_⟩:=ro;exact .dK j
    |true=>obtain⟨ps,j,_⟩:=ro;exact .dT j
   |fdc kvs=>cases e
   |dcn _=>cases e
   |tab _ _=>cases e
   |fdn _=>cases e
noncomputable def dO:List String:=["NoneType","bool","int","str","tuple","list","dict"]
theorem Bb(K:Frag):∀T∈["bool","int","str","tuple","list","dict"],∀t∈dO,PySem.W.kitOne K (.type t) (.type T)=Z (yA T t):=by
 intro T j t z;simp only[dO,KZ,LK,or_false]at j z
 rcases j with rfl|rfl|rfl|rfl|rfl|rfl<;>rcases z with rfl|rfl|rfl|rfl|rfl|rfl|rfl<;>rfl
noncomputable def nQ(T:String)(ta:TEd):TEd:=λρ M Q=>ta ρ M λx M1=>∃t,tyN M1 x=Z t/\Q (.bl (yA T t)) M1
theorem vM{T:String}(h:ad ta):ad (nQ T ta):=λρ M Q Q' i q=>h _ _ _ _ (λx B j=>(by obtain⟨t,e,z⟩:=j;exact⟨t,e,i _ _ z⟩)) q
theorem Bc{t:String}(e:tyN M x=Z t):t∈dO:=by
 cases x with
 |ref a=>
  simp only[tyN]at e
  cases e0:M a with
  |none=>rw[e0]at e;cases e
  |some o=>rw[e0]at e;cases o<;>cases e<;>simp[dO]
 |con _=>cases e
 |fn _=>cases e
 |_=>cases e;simp[dO]
theorem vN(T:String)(j:T∈["bool","int","str","tuple","list","dict"]):CallR X (.builtin "isinstance") (λvs H Q=>∃v t,vs=[v,.ty T]/\cI X.K H v (.type t)/\t∈dO/\Q (.bl (yA T t)) H):=by
 intro pins s σ H xs us Q I r h;obtain⟨v,t,rfl,ty,z,q⟩:=h;obtain⟨u,c,rfl,ru,rc⟩:=nG r
 cases rc
 exact vf I ru ty (Bb X.K T j t z) λtk=>⟨.bl _,H,I.tok tk,rfl,q⟩
theorem Bd{T:String}{y:Str}{p2:Pos}(L:T∈["bool","int","str","tuple","list","dict"])(m:ad ta)(he:PE X e (lE X.K ta))(O:Gl X "isinstance")(hm:X.mg "isinstance"=Y)(z:Gl X y)(B:X.mg y=Y)(U:OJ y=Z (.type T))(Fn:y≠"__name__")(F:(y==("__debug__":Str))=Md)(hs:Ll [e,.Name y p2] X.env=(Md,eval e X.env)::Ll [.Name y p2] X.env)(G:(OL pos (Ll [.Name y p2] X.env)).any (·.1)=Md):
 PE X (.Call (.Name "isinstance" p) [e,.Name y p2] [] pos) (lE X.K (nQ T ta)):=by
 have h2:PE X (.Name y p2) (tC (.ty T)):=Aw z B U rfl Fn F;refine PE.imp (cB (vN T L) O hm (by decide +kernel) (dL he (dL h2 jo rfl) hs) (by decide) (by decide) hs G) λσ H Q h=>?_
 obtain⟨ρ,M,rs,rm,q⟩:=h;exact⟨ρ,M,rs,rm,m _ _ _ _ (λx M1 fv v H1 x1 j J=>(by obtain⟨t,e,q1⟩:=fv;exact⟨v,t,rfl,Fd j J e,Bc e,q1 _ H1 x1 j (VQ.mpr rfl)⟩)) q⟩
noncomputable def wBM(rd:D->List D->Mem->QD->Prop)(to:TEd)(t:TAd):TEd:=λρ M Q=>to ρ M λx M1=>(∃a xs,x=.ref a/\M1 a=Z (.lst xs))/\t ρ M1 λds M2=>rd x ds M2 Q
def jI(rd:D->List D->Mem->QD->Prop):Prop:=∀x ds M Q Q',(∀d M',Q d M'->Q' d M')->rd x ds M Q->rd x ds M Q'
theorem rN{rd:D->List D->Mem->QD->Prop}{to:TEd}{t:TAd}(j:jI rd)(mo:ad to)(mt:aQ t):ad (wBM rd to t):=λρ M Q Q' i q=>mo _ _ _ _ (λx G z=>(by obtain⟨e,B⟩:=z;exact⟨e,mt _ _ _ _ (λds M2 F=>j _ _ _ _ _ i F) B⟩)) q
theorem Fe(rm:RM K M H)(r:RD K H x v)(h:∃a xs,x=.ref a/\M a=Z (.lst xs)):tyV K "list" v H:=by
 obtain⟨a,xs,rfl,e⟩:=h
 cases VP.mp r
 obtain⟨vs,j,_⟩:=rm _ _ e;exact .inl ⟨rfl,vs,SqL.of j⟩
theorem rO{rd:D->List D->Mem->QD->Prop}{r:V->List V->Hp->VK->Prop}{to:TEd}{t:TAd}(L:jI rd)(mo:ad to)(mt:aQ t)(O:∀v vs H Q,lMt K rd v vs H Q->r v vs H Q)(σ:St)(H:Hp)(Q:VK)(h:lE K (wBM rd to t) σ H Q):tBM K "list" r (lE K to) (lA K t) σ H Q:=by obtain⟨ρ,M,rs,rm,q⟩:=h;refine⟨ρ,M,rs,rm,mo _ _ _ _ (λx U ⟨e,Fn⟩ v H1 G j z=>⟨Fe j z e,?_⟩) q⟩;refine⟨ρ,U,rs.mono (G.stab rm),j,mt _ _ _ _ (λds M2 fv vs H2 J B F=>?_) Fn⟩;exact O v vs H2 Q ⟨x,ds,M2,B,z.mono (J.stab j),F,L _ _ _ _ _ (λd M' k=>k.ext (G.trans J)) fv⟩
noncomputable def ij:D->List D->Mem->QD->Prop:=λx ds M Q=>∃a xs y,x=.ref a/\ds=[y]/\M a=Z (.lst xs)/\xs.length<L3/\Q .non (af M a (.lst (xs++[y])))
theorem iQ:jI ij:=λ_ _ _ _ _ h j=>(by obtain⟨a,xs,y,e1,e2,B,z,q⟩:=j;exact⟨a,xs,y,e1,e2,B,z,h _ _ q⟩)
theorem kR{o0:O}(rm:RM K M H)(m:M a=Z o0)(rd:RDs K H ds vs)(r:RD K H d v)(q:KE' K M H Q d (af M a (.lst ds)))(w:fz (Z o0)=Md:=by rfl):
 Q v (upd H a (.lst vs)):=by
 have st:Stab H (upd H a (.lst vs)):=rm.stabPut m w;exact q v _ (Ext.put m w) (rm.put m ⟨vs,aC,rd.mono st⟩ w) (r.mono st)
theorem yB(v:V)(vs:List V)(H:Hp)(Q:VK)(h:lMt K ij v vs H Q):rE v vs H Q:=by
 obtain⟨x,ds,M,rm,rx,rs,a,xs,y,rfl,rfl,e,z,q⟩:=h
 cases VP.mp rx
 obtain⟨w,rfl,rw'⟩:=rs.one;obtain⟨us,j,ru⟩:=rm _ _ e;exact⟨a,us,w,rfl,rfl,j,by rw[ru.length];exact z,kR rm e (ru.append (RDs.cons rw' RDs.nil)) (VV.mpr rfl) q⟩
noncomputable abbrev BT:=D->au->Option au
noncomputable abbrev BTs:=List D->au->Option au
noncomputable def cO(i:Nat):BT:=λd ρ=>Z (ρ.set i (Z d))
noncomputable def j4:BTs:=λds ρ=>match ds with|[]=>Z ρ|_=>Y
noncomputable def cr(b:BT)(bs:BTs):BTs:=λds ρ=>match ds with|d::r=>(b d ρ).bind λρ'=>bs r ρ'|[]=>Y
noncomputable def yC(bs:BTs):BT:=λd ρ=>match d with|.tup ds=>bs ds ρ|_=>Y
noncomputable def lG(K:Frag)(b:BT):TG:=λv σ H Q=>∃d ρ ρ',RD K H d v/\RS K H σ ρ/\b d ρ=Z ρ'/\∀σ',RS K H σ' ρ'->Q σ' H
noncomputable def lGs(K:Frag)(b:BTs):TGs:=λvs σ H Q=>∃ds ρ ρ',RDs K H ds vs/\RS K H σ ρ/\b ds ρ=Z ρ'/\∀σ',RS K H σ' ρ'->Q σ' H
theorem PG.imp{t t':TG}(h:PG X e t)(i:∀v σ H Q,t' v σ H Q->t v σ H Q):PG X e t':=λpins s σ H v u Q I r q=>h pins s σ H v u Q I r (i _ _ _ _ q)
theorem PGs.imp{e:List Expr}{t t':TGs}(h:PGs X e t)(i:∀v σ H Q,t' v σ H Q->t v σ H Q):PGs X e t':=λpins s σ H v u Q I r q=>h pins s σ H v u Q I r (i _ _ _ _ q)
theorem Be{i:Nat}{x:Str}(j:X.N.Nodup)(hi:X.N[i]?=Z x)(hx:Loc X.env.scope x)(hf:X.fn x=F2∨X.env.scope.names.lookup x=Z .local):PG X (.Name x pos) (lG X.K (cO i)):=
 PG.imp (rA j hi hx hf) λv σ H Q ⟨d,ρ,ρ',r,rs,e,q⟩=>by
  cases e
  exact q _ (rs.set i r)
theorem Bf:PGs X [] (lGs X.K j4):=PGs.imp AB λvs σ H Q ⟨ds,ρ,ρ',r,rs,e,q⟩=>by
 cases ds with
 |nil=>cases e;exact⟨RDs.nil_iff.mp r,q σ rs⟩
 |cons _ _=>cases e
theorem yD{es:List Expr}{b:BT}{bs:BTs}(h1:PG X e (lG X.K b))(h2:PGs X es (lGs X.K bs))(hs:(MM (e::es) X.env).map (·.2)=assign e X.env::(MM es X.env).map (·.2)):
 PGs X (e::es) (lGs X.K (cr b bs)):=PGs.imp (xN h1 h2 hs) λvs σ H Q ⟨ds,ρ,ρ',r,rs,e,q⟩=>by
 cases ds with
 |nil=>cases e
 |cons d ds=>
  obtain⟨v,vr,rfl,j,z⟩:=VR.mp r;simp only[cr]at e
  cases e1:b d ρ with
  |none=>rw[e1]at e;cases e
  |some ρ1=>rw[e1]at e;exact⟨v,vr,rfl,d,ρ,ρ1,j,rs,e1,λσ' rs'=>⟨ds,ρ1,ρ',z,rs',e,q⟩⟩
theorem Ds{es:List Expr}{k:Nat}{bs:BTs}{n:Nat}(z:X.calm=F2)(hlen:∀ds ρ ρ',bs ds ρ=Z ρ'->ds.length=n)(h:PGs X es (lGs X.K bs))(B:(MM es X.env).length=n)(j:(MM es X.env).findIdx? (·.1)=Y):
 PG X (.Tuple es k pos) (lG X.K (yC bs)):=PG.imp (CG z h B j) λv σ H Q ⟨d,ρ,ρ',r,rs,e,q⟩=>by
 cases d with
 |tup ds=>obtain⟨a,vs,rfl,F,rv⟩:=VU r;exact⟨a,vs,rfl,F,by rw[rv.length];exact hlen _ _ _ e,ds,ρ,ρ',rv,rs,e,q⟩
 |_=>cases e
noncomputable abbrev TId:=au->Mem->(List D->(Mem->Prop)->Mem->Prop)->Prop
def cu(T:TId):Prop:=∀ρ M Q Q',(∀xs c M',Q xs c M'->Q' xs c M')->T ρ M Q->T ρ M Q'
def Yl(H H':Hp):Prop:=H'=H∨∃q vs,H q=Y/\H'=upd H q (.tup vs)
def j5(K:Frag)(H1:Hp)(xs:List D)(chk:Mem->Prop)(J:It):Prop:=∀M H,Stab H1 H->RM K M H->chk M->∀i,(xs.length<=i->J.stop i H)/\(i<xs.length->J.go i H /\
 ∀x H',J.yld i H x H'->Yl H H'/\∃d,xs[i]?=Z d/\RD K H' d x)
noncomputable def lI(K:Frag)(T:TId):TI:=λσ H R=>∃ρ M,RS K H σ ρ/\RM K M H/\T ρ M (λxs chk M1=>∀J H1,Ext M H M1 H1->RM K M1 H1->j5 K H1 xs chk J->R J H1)
theorem PI.imp{t t':TI}(h:PI X tg e t)(i:∀σ H Q,t' σ H Q->t σ H Q):PI X tg e t':=λpins s σ H Q I q=>h pins s σ H Q I (i _ _ _ q)
theorem Yl.ext{H':Hp}(rm:RM K M H)(y:Yl H H'):Ext M H M H'/\RM K M H':=by
 rcases y with rfl|⟨q,vs,n,rfl⟩
 ·exact⟨Ext.refl,rm⟩
 ·exact⟨VZ n,rm.new n⟩
noncomputable def Gm(K:Frag)(tl:TE):TI:=λσ H R=>tl σ H λx H1=>∃a,x=.ref a/\(((∃xs,SqL K H1 a xs)/\R (Itl K a) H1)∨((∃xs,SqT K H1 a xs)/\R (Itt K a) H1))
theorem Dt{l:Expr}{tl:TE}(F:PE X l tl):PI X tg l (Gm X.K tl):=by
 intro pins s σ H R I h;refine thn (F pins s σ H _ I h) λv s1 G=>?_;obtain⟨x,H1,j,J,L⟩:=G;obtain⟨a,e,q⟩:=L;subst e
 cases J
 rcases q with⟨⟨xs,z⟩,q⟩|⟨⟨xs,z⟩,q⟩
 ·obtain⟨its,rv,p,O⟩:=j.list z;refine NQ p.isList ?_;refine⟨s1.heap.objs.size,[s1.heap.objs.size],_,_,H1,rfl,j.kept (t':=s1.toks) λb o e=>i0 _ e,v6 a _,⟨_,KY _ rfl,rfl,rfl⟩,λb B=>?_,q⟩;have e:b=s1.heap.objs.size:=by simpa using B
  subst e;exact j.fpOk (Le _) (j.hok.fresh (Le _))
 ·obtain⟨its,rv,p,O⟩:=j.tuple z;refine Nj (show s1.heap.IsTuple a its.toArray from p) ?_;refine⟨s1.heap.objs.size,[s1.heap.objs.size],_,_,H1,rfl,j.kept (t':=s1.toks) λb o e=>i0 _ e,tf a _,⟨_,KY _ rfl,rfl,rfl⟩,λb B=>?_,q⟩;have e:b=s1.heap.objs.size:=by simpa using B
  subst e;exact j.fpOk (Le _) (j.hok.fresh (Le _))
noncomputable def tS(ta:TEd):TId:=λρ M R=>ta ρ M λx M1=>∃ds,aJ M1 x=Z ds/\R ds (λM=>aJ M x=Z ds) M1
theorem yE(h:ad ta):cu (tS ta):=λρ M Q Q' i q=>h _ _ _ _ (λx B j=>(by obtain⟨ds,e,z⟩:=j;exact⟨ds,e,i _ _ _ z⟩)) q
theorem vO{chk:Mem->Prop}(h:∀M H,Stab H1 H->RM K M H->chk M->∃vs,SqL K H a vs/\RDs K H ds vs):j5 K H1 ds chk (Itl K a):=λM H st rm c i=>by
 obtain⟨vs,sq,r⟩:=h M H st rm c;have l:=r.length;refine⟨λhi=>⟨vs,sq,∅⟩,λhi=>⟨⟨vs,vs[i]'∅,sq,tv ∅⟩,λx H' y=>?_⟩⟩
 obtain⟨e,y⟩:=y;subst e;exact⟨.inl rfl,r.getV (y vs sq)⟩
theorem Du{chk:Mem->Prop}(h:∀M H,Stab H1 H->RM K M H->chk M->∃vs,SqT K H a vs/\RDs K H ds vs):j5 K H1 ds chk (Itt K a):=λM H st rm c i=>by
 obtain⟨vs,sq,r⟩:=h M H st rm c;have l:=r.length;refine⟨λhi=>⟨vs,sq,∅⟩,λhi=>⟨⟨vs,vs[i]'∅,sq,tv ∅⟩,λx H' y=>?_⟩⟩
 obtain⟨e,y⟩:=y;subst e;exact⟨.inl rfl,r.getV (y vs sq)⟩
theorem Dv{l:Expr}(m:ad ta)(G:PE X l (lE X.K ta)):PI X tg l (lI X.K (tS ta)):=by
 refine PI.imp (Dt G) λσ H R h=>?_;obtain⟨ρ,M,rs,rm,q⟩:=h;refine⟨ρ,M,rs,rm,m _ _ _ _ (λx L g9 v H1 F j rd1=>?_) q⟩;obtain⟨ds,e,B⟩:=g9
 cases x with
 |tup es=>
  cases e
  obtain⟨a,vs,rfl,z,rv⟩:=VU rd1;exact⟨a,rfl,.inr ⟨⟨vs,z⟩,B _ H1 F j (Du λM' H' st _ _=>⟨vs,st.sqT z,rv.mono st⟩)⟩⟩
 |con es=>
  cases e
  obtain⟨a,vs,rfl,z,rv⟩:=VT.mp rd1;exact⟨a,rfl,.inl ⟨⟨vs,z.sq⟩,B _ H1 F j (vO λM' H' st _ _=>⟨vs,(st.sqF z).sq,rv.mono st⟩)⟩⟩
 |ref a=>
  cases VP.mp rd1
  have get:∀{M':Mem} {es:List D},aJ M' (.ref a)=Z es->M' a=Z (.lst es):=λ{M' es} e=>by
   simp only[aJ]at e
   cases e0:M' a with
   |none=>rw[e0]at e;cases e
   |some o=>
    rw[e0]at e
    cases o with
    |dct _ _=>cases e
    |fdc _=>cases e
    |dcn _=>cases e
    |tab _ _=>cases e
    |fdn _=>cases e
    |lst es'=>cases e;rfl
  obtain⟨vs,z,rv⟩:=j _ _ (get e);exact⟨a,rfl,.inl ⟨⟨vs,SqL.of z⟩,B _ H1 F j (vO λM' H' st rm' c=>by obtain⟨us,J,ru⟩:=rm' _ _ (get c);exact⟨us,SqL.of J,ru⟩)⟩⟩
 |_=>cases e
noncomputable def cn(lo:Int)(n:Nat):List D:=(z4 n).map λi=>.int (lo+(i:Nat))
theorem vP{lo:Int}{n:Nat}:j5 K H1 (cn lo n) (λ_=>True) (Itr lo n):=λM H st rm c i=>by
 have l:(cn lo n).length=n:=by simp[cn]
 refine⟨λhi=>by show n<=i;lia,λhi=>⟨by show i<n;lia,λx H' y=>?_⟩⟩
 obtain⟨e,y⟩:=y;subst e y;refine⟨.inl rfl,.int (lo+i),?_,VO.mpr rfl⟩;simp only[cn,L8,LC (show i<n by lia),Oj]
noncomputable def nS(ta:TAd):TId:=λρ M R=>ta ρ M λds M1=>∃j:Int,ds=[.int j] /\ -(2^62)<=j/\j<2^62/\R (cn 0 j.toNat) (λ_=>True) M1
noncomputable def nT(ta:TAd):TId:=λρ M R=>ta ρ M λds M1=>∃i j:Int,ds=[.int i,.int j]/\(-(2^62)<=i/\i<2^62 /\ -(2^62)<=j/\j<2^62)/\R (cn i (j-i).toNat) (λ_=>True) M1
theorem vQ{ta:TAd}(h:aQ ta):cu (nS ta):=λρ M Q Q' i q=>h _ _ _ _ (λx F z=>(by obtain⟨j,e,a,b,B⟩:=z;exact⟨j,e,a,b,i _ _ _ B⟩)) q
theorem vR{ta:TAd}(h:aQ ta):cu (nT ta):=λρ M Q Q' i q=>h _ _ _ _ (λx F z=>(by obtain⟨k,j,e,a,B⟩:=z;exact⟨k,j,e,a,i _ _ _ B⟩)) q
theorem Bg{a:Expr}{ta:TAd}(m:aQ ta)(B:Gl X "range")(hm:X.mg "range"=Y)(F:PA X [a] (lA X.K ta))(hs:Ll [a] X.env=[(Md,eval a X.env)]):PI X tg (.Call (.Name "range" p) [a] [] pos) (lI X.K (nS ta)):=by
 refine PI.imp (v7 B hm F hs) λσ H R h=>?_;obtain⟨ρ,M,rs,rm,q⟩:=h;refine⟨ρ,M,rs,rm,m _ _ _ _ (λds U g9 vs H1 O z rd1=>?_) q⟩;obtain⟨j,e,G,J,L⟩:=g9;subst e;obtain⟨v,rfl,r⟩:=rd1.one
 cases VO.mp r
 exact⟨j,rfl,G,J,L _ H1 O z vP⟩
theorem Bh{a b:Expr}{ta:TAd}(m:aQ ta)(G:Gl X "range")(hm:X.mg "range"=Y)(J:PA X [a,b] (lA X.K ta))(hs:Ll [a,b] X.env=[(Md,eval a X.env),(Md,eval b X.env)])(B:Ll [b] X.env=[(Md,eval b X.env)]):
 PI X tg (.Call (.Name "range" p) [a,b] [] pos) (lI X.K (nT ta)):=by
 refine PI.imp (v8 G hm J hs B) λσ H R h=>?_;obtain⟨ρ,M,rs,rm,q⟩:=h;refine⟨ρ,M,rs,rm,m _ _ _ _ (λds fv g9 vs H1 O F rd1=>?_) q⟩;obtain⟨i,j,e,z,L⟩:=g9;subst e;obtain⟨v,u,rfl,U,Fn⟩:=rd1.two
 cases VO.mp U
 cases VO.mp Fn
 exact⟨i,j,rfl,z,L _ H1 O F vP⟩
end
end
end Mi
section
section
variable{X:Cx}
theorem yF{a b:Expr}{p2 j:Pos}(O:X.calm=F2)(U:PA X [a,b] ta)(Fn:Gl X "list")(hm:X.mg "list"=Y)(G:Gl X "range")(J:X.mg "range"=Y)(hs:Ll [a,b] X.env=[(Md,eval a X.env),(Md,eval b X.env)])(z:Ll [b] X.env=[(Md,eval b X.env)]):
 PE X (.Call (.Name "list" p) [.Call (.Name "range" p2) [a,b] [] j] [] pos) (λσ H Q=>ta σ H λvs H1=>∃(i:Int) (n:Nat),vs=[.int i,.int (i+n)]/\0<=i/\i<=1000000/\n<=1000000/\∀q,H1 q=Y->Q (.ref q) (upd H1 q (.lst ((z4 n).map λk=>V.int (i+(k:Nat)))))):=by
 intro pins s σ H Q I h;refine N1 (cm I Fn hm (u:=.type "list") (by decide +kernel) ?_ (by decide) (by decide))
 refine MA ?_ rfl rfl;refine OM ?_;refine N1 (cm I G J (u:=.type "range") Vo ?_ (by decide) (by decide))
 refine MA (thn (U j pins s σ H _ I h) λus s1 fv=>?_) (by rw[hs,z]) (by rw[z];rfl)
 obtain⟨vs,H1,B,r1,q1⟩:=fv;obtain⟨i,n,rfl,h0,hi,hn,q⟩:=q1;obtain⟨u1,u2,t,t',rfl,rfl,rfl⟩:∃u1 u2 t t',us=[u1,u2]/\u1=.int i t/\u2=.int (i+(n:Nat)) t':=by
  cases r1 with
  |cons r rr=>
   cases rr with
   |cons r' rr=>
    cases rr
    obtain⟨t,rfl⟩:=r;obtain⟨t',rfl⟩:=r';exact⟨_,_,t,t',rfl,rfl,rfl⟩
 refine call_range_2 (Qb ?_);have I2:Inv X pins σ H1 {s1 with heap:=s1.heap.push {cls:=.type "range",data:=.fields #[.int i t,.int (i+(n:Nat)) t',.int 1 s1.toks]},toks:=s1.toks+1}:=B.kept (t':=s1.toks+1) λb ob q=>i0 _ q
 obtain⟨m,F⟩:=I2.fr;have hsz:Q0 i (i+(n:Nat)) 1=((n:Nat):Int):=by
  unfold Q0;rw[if_pos (by decide)]
  by_cases h0:i<i+(n:Nat)
  ·rw[if_pos h0];lia
  ·rw[if_neg h0];lia
 refine list_rangeD (news:=[]) (B.ok.hd O) F (λ_ hp=>by cases hp) (KY _ rfl) ?_ hsz ∅ λh' tk ys _ _ kp _ _ np car=>?_
 ·exact small_one ∅ ∅ ∅ ∅
 ·have L:=gL car;have er:(rangeInts i 1 n).map V.int=(z4 n).map fun k=>V.int (i+(k:Nat)):=by
   unfold rangeInts;rw[MU];exact LM λi _=>by simp
  rw[er]at L;obtain⟨⟨c',e'⟩,_⟩:=np;have e2:(s1.heap.push {cls:=.type "range",data:=.fields #[.int i t,.int (i+(n:Nat)) t',.int 1 s1.toks]}).objs.size=s1.heap.objs.size+1:=Nf ..;have kp':∀b o,s1.heap.get? b=Z o->h'.get? b=Z o:=λb o e=>kp b o (i0 _ e);refine⟨.ref (s1.heap.push {cls:=.type "range",data:=.fields #[.int i t,.int (i+(n:Nat)) t',.int 1 s1.toks]}).objs.size,_,B.laid (t':=tk) (o:=.lst ((z4 n).map λk=>V.int (i+(k:Nat)))) kp' (by rw[e2];lia) ?_,rfl,q _ (B.hok.fresh (by rw[e2];lia))⟩
  exact⟨by rw[r0,LJ,D2];lia,ys,c',L,e'⟩
end
namespace Mi
variable{K:Frag}{H:Hp}{a:Expr}{p pos:Pos}
section
variable{X:Cx}
noncomputable def jJ(ta:TAd):TEd:=λρ M Q=>ta ρ M λds M1=>∃(i:Int) (n:Nat),ds=[.int i,.int (i+n)]/\0<=i/\i<=1000000/\n<=1000000/\∀p,M1 p=Y->Q (.ref p) (af M1 p (.lst ((z4 n).map λk=>D.int (i+(k:Nat)))))
theorem tT{ta:TAd}(h:aQ ta):ad (jJ ta):=λρ M Q Q' i q=>h _ _ _ _ (λds F z=>(by obtain⟨j,n,e,e0,e1,e2,B⟩:=z;exact⟨j,n,e,e0,e1,e2,λp n=>i _ _ (B p n)⟩)) q
theorem tU(i:Int)(n:Nat):RDs K H ((z4 n).map λk=>D.int (i+(k:Nat))) ((z4 n).map λk=>V.int (i+(k:Nat))):=by have:=W3 (K:=K) (H:=H) ((z4 n).map λk=>i+((k:Nat):Int));rw[MU,MU]at this;exact this
theorem yG{b:Expr}{ta:TAd}{p2 j:Pos}(m:aQ ta)(L:X.calm=F2)(O:PA X [a,b] (lA X.K ta))(U:Gl X "list")(hm:X.mg "list"=Y)(B:Gl X "range")(F:X.mg "range"=Y)(hs:Ll [a,b] X.env=[(Md,eval a X.env),(Md,eval b X.env)])(G:Ll [b] X.env=[(Md,eval b X.env)]):
 PE X (.Call (.Name "list" p) [.Call (.Name "range" p2) [a,b] [] j] [] pos) (lE X.K (jJ ta)):=by
 refine PE.imp (yF L O U hm B F hs G) λσ H Q h=>?_;obtain⟨ρ,M,rs,rm,q⟩:=h;refine⟨ρ,M,rs,rm,m _ _ _ _ (λds M1 g9 vs H1 x1 J rd1=>?_) q⟩;obtain⟨i,n,e,h0,hi,Fn,fv⟩:=g9;subst e;obtain⟨v,u,rfl,r1,r2⟩:=rd1.two
 cases VO.mp r1
 cases VO.mp r2
 exact⟨i,n,rfl,h0,hi,Fn,λp z=>cF J (tU i n) (λp' n'=>(fv p' n').ext x1) z⟩
end
variable{ta:TEd}{M:Mem}{x:D}{H1:Hp}{xs:List D}{pos':Pos}
section
section
variable{X:Cx}
noncomputable def isT:D->Bool|.tup _=>F2|_=>Md
theorem fF{ds:List D}{v:V}(rm:RM K M H)(r:RD K H x v)(e:aJ M x=Z ds):∃p vs,v=.ref p/\SqV K (isT x) H p vs/\RDs K H ds vs:=by
 cases x with
 |tup es=>
  cases e
  obtain⟨a,vs,rfl,j,rv⟩:=VU r;exact⟨a,vs,rfl,j,rv⟩
 |con es=>
  cases e
  obtain⟨a,vs,rfl,j,rv⟩:=VT.mp r;exact⟨a,vs,rfl,j.sq,rv⟩
 |ref a=>
  cases VP.mp r
  simp only[aJ]at e
  cases e0:M a with
  |none=>rw[e0]at e;cases e
  |some o=>
   rw[e0]at e
   cases o with
   |dct _ _=>cases e
   |fdc _=>cases e
   |dcn _=>cases e
   |tab _ _=>cases e
   |fdn _=>cases e
   |lst es=>
    cases e
    obtain⟨vs,j,rv⟩:=rm _ _ e0;exact⟨a,vs,rfl,SqL.of j,rv⟩
 |_=>cases e
noncomputable def ik(x y:D):D:=.tup [x,y]
noncomputable def kS(ta tb:TEd):TId:=λρ M R=>av ta (av tb aZ) ρ M λds M1=>∃x y xs ys,ds=[x,y]/\aJ M1 x=Z xs/\aJ M1 y=Z ys/\R (Qg ik xs ys) (λM=>aJ M x=Z xs/\aJ M y=Z ys) M1
theorem yH{tb:TEd}(j:ad ta)(z:ad tb):cu (kS ta tb):=λρ M Q Q' i q=>al j (al z ar) _ _ _ _ (λds G B=>(by obtain⟨x,y,xs,ys,e,e1,e2,F⟩:=B;exact⟨x,y,xs,ys,e,e1,e2,i _ _ _ F⟩)) q
theorem pN{p:N2}{o:HO}(n:H p=Y):Stab H (upd H p o):=⟨λa xs e=>by rw[am (λz=>by rw[z,n]at e;cases e)];exact e,λa o u e=>by rw[am (λz=>by rw[z,n]at e;cases e)];exact e⟩
theorem Dw{y:D}{ys:List D}{a b:N2}(rx:RD K H1 x (.ref a))(ry:RD K H1 y (.ref b)):j5 K H1 (Qg ik xs ys) (λM=>aJ M x=Z xs/\aJ M y=Z ys) (Itz K (isT x) (isT y) a b):=λM H st rm c i=>by
 obtain⟨U,vs,e1,j,J⟩:=fF rm (rx.mono st) c.1;obtain⟨p2,us,e2,z,L⟩:=fF rm (ry.mono st) c.2
 cases e1
 cases e2
 have l1:=J.length;have l2:=L.length;have lz:(Qg ik xs ys).length=min xs.length ys.length:=List.length_zipWith;refine⟨λhi=>⟨vs,us,j,z,∅⟩,λhi=>⟨⟨vs,us,vs[i]'∅,us[i]'∅,j,z,tv ∅,tv ∅⟩,λv H' O=>?_⟩⟩
 obtain⟨p,v1,v2,n,rfl,rfl,g⟩:=O;obtain⟨g1,g2⟩:=g vs us j z;obtain⟨d1,B,F⟩:=J.getV g1;obtain⟨d2,hd2,G⟩:=L.getV g2;have sb:=pN (o:=.tup [v1,v2]) n;refine⟨.inr ⟨p,[v1,v2],n,rfl⟩,.tup [d1,d2],?_,VX ⟨p,[v1,v2],rfl,aC,RDs.cons (F.mono sb) (RDs.cons (G.mono sb) RDs.nil)⟩⟩;rw[List.getElem?_zipWith,B,hd2];rfl
theorem Dx{elts:List Expr}{cx}{b:Expr}{tb:TEd}(ma:ad ta)(mb:ad tb)(G:Gl X "zip")(hm:X.mg "zip"=Y)(J:PA X [a,b] (lA X.K (av ta (av tb aZ))))(hs:Ll [a,b] X.env=[(Md,eval a X.env),(Md,eval b X.env)])(z:Ll [b] X.env=[(Md,eval b X.env)]):
 PI X (.Tuple elts cx pos) (.Call (.Name "zip" p) [a,b] [] pos') (lI X.K (kS ta tb)):=by
 refine PI.imp (Da G hm J hs z) λσ H R h=>?_;obtain⟨ρ,M,rs,rm,q⟩:=h;refine⟨ρ,M,rs,rm,al ma (al mb ar) _ _ _ _ (λds Fn g9 vs H1 O j rd1=>?_) q⟩;obtain⟨x,y,xs,ys,e,e1,e2,L⟩:=g9;subst e;obtain⟨v,u,rfl,B,F⟩:=rd1.two;obtain⟨U,vs,rfl,s1,_⟩:=fF j B e1;obtain⟨p2,us,rfl,s2,_⟩:=fF j F e2;exact⟨U,p2,isT x,isT y,vs,us,rfl,s1,s2,L _ H1 O j (Dw B F)⟩
end
end
section
section
variable{X:Cx}
noncomputable def fY(xs:List D):List D:=xs.mapIdx λi x=>.tup [.int (i:Nat),x]
noncomputable def nU(ta:TEd):TId:=λρ M R=>ta ρ M λx M1=>∃xs,aJ M1 x=Z xs/\R (fY xs) (λM=>aJ M x=Z xs) M1
theorem vS(h:ad ta):cu (nU ta):=λρ M Q Q' i q=>h _ _ _ _ (λx B j=>(by obtain⟨ds,e,z⟩:=j;exact⟨ds,e,i _ _ _ z⟩)) q
theorem Dy{a:N2}(rx:RD K H1 x (.ref a)):j5 K H1 (fY xs) (λM=>aJ M x=Z xs) (Ite K (isT x) a):=λM H st rm c i=>by
 obtain⟨J,vs,e1,j,F⟩:=fF rm (rx.mono st) c
 cases e1
 have l1:=F.length;have lz:(fY xs).length=xs.length:=by simp[fY]
 refine⟨λhi=>⟨vs,j,∅⟩,λhi=>⟨⟨vs,vs[i]'∅,j,tv ∅⟩,λv H' G=>?_⟩⟩
 obtain⟨p,v1,n,rfl,rfl,g⟩:=G;obtain⟨d1,z,B⟩:=F.getV (g vs j);have sb:=pN (o:=.tup [.int (i:Nat),v1]) n;refine⟨.inr ⟨p,[.int (i:Nat),v1],n,rfl⟩,.tup [.int (i:Nat),d1],?_,VX ⟨p,[.int (i:Nat),v1],rfl,aC,RDs.cons (VO.mpr rfl) (RDs.cons (B.mono sb) RDs.nil)⟩⟩;simp[fY,QJ,z]
theorem Bi{elts:List Expr}{cx}(ma:ad ta)(B:Gl X "enumerate")(hm:X.mg "enumerate"=Y)(F:PA X [a] (lA X.K (av ta aZ)))(hs:Ll [a] X.env=[(Md,eval a X.env)]):
 PI X (.Tuple elts cx pos) (.Call (.Name "enumerate" p) [a] [] pos') (lI X.K (nU ta)):=by
 refine PI.imp (AR B hm F hs) λσ H R h=>?_;obtain⟨ρ,M,rs,rm,q⟩:=h;refine⟨ρ,M,rs,rm,ma _ _ _ _ (λx O g9 vs H1 J j rd1=>?_) q⟩;obtain⟨xs,e1,G⟩:=g9;obtain⟨v,rfl,z⟩:=rd1.one;obtain⟨L,us,rfl,s1,_⟩:=fF j z e1;exact⟨L,isT x,us,rfl,s1,G _ H1 J j (Dy z)⟩
end
end
variable{b:BT}{vs:List V}{te:TEd}{src:TId}
section
noncomputable abbrev NC:=au->Mem->List D->Prop
noncomputable abbrev TCd:=au->Mem->List D->NC->Prop
def cc(T:TCd):Prop:=∀ρ M acc N N',(∀ρ' M' acc',N ρ' M' acc'->N' ρ' M' acc')->T ρ M acc N->T ρ M acc N'
structure ExtP(p:N2)(M:Mem)(H:Hp)(M':Mem)(H':Hp):Prop where
 kp:∀a o,a≠p->fz (M a)=F2->H a=Z o->H' a=Z o
 nw:∀a o,fz (M a)=F2->H a=Z o->M' a=M a
section
variable{K:Frag}{M M' M'':Mem}{H H' H'':Hp}{p:N2}
theorem ExtP.new(x:ExtP p M H M' H')(a:N2)(o:HO)(n:M a=Y)(e:H a=Z o):M' a=Y:=(x.nw a o (by rw[n];rfl) e).trans n
theorem Ext.toP(x:Ext M H M' H'):ExtP p M H M' H':=⟨λa o _=>x.kp a o,x.nw⟩
theorem ExtP.refl:ExtP p M H M H:=⟨λ_ _ _ _ h=>h,λ_ _ _ _=>rfl⟩
theorem ExtP.trans(a:ExtP p M H M' H')(B:H p=Z (.lst vs))(j:∃vs',H' p=Z (.lst vs'))(b:ExtP p M' H' M'' H''):ExtP p M H M'' H'':=
 ⟨fun c o ne n h=>b.kp c o ne (by rw[a.nw c o n h];exact n) (a.kp c o ne n h),fun c o n h=>by
  have n':fz (M' c)=F2:=by rw[a.nw c o n h];exact n
  refine Eq.trans ?_ (a.nw c o n h)
  by_cases z:c=p
  ·subst z;obtain⟨vs',e⟩:=j;exact b.nw c _ n' e
  ·exact b.nw c o n' (a.kp c o z n h)⟩
theorem ExtP.stab(r:RM K M H)(j:H p=Z (.lst vs))(x:ExtP p M H M' H'):Stab H H' where
 tup:=λa xs e=>x.kp a _ (λz=>by subst z;rw[j]at e;cases e) (by rw[r.fzT e];rfl) e
 frz:=λa o u e=>x.kp a _ (λz=>by subst z;rw[j]at e;cases e) (r.fzF e) e
theorem pO{ho:HO}(j:H p=Z (.lst vs)):Stab H (upd H p ho):=⟨λa xs e=>by rw[am (λz=>by subst z;rw[j]at e;cases e)];exact e,λa o u e=>by rw[am (λz=>by subst z;rw[j]at e;cases e)];exact e⟩
theorem RM.side{ho:HO}(r:RM K M H)(n:M p=Y)(j:H p=Z (.lst vs)):RM K M (upd H p ho):=λa o e=>by
 have ne:a≠p:=λz=>by subst z;rw[n]at e;cases e
 exact(r a o e).mono (pO j) λB q=>by rw[am ne];exact q
end
def il(K:Frag)(H:Hp)(p:N2)(acc:List D):Prop:=∃vs,H p=Z (.lst vs)/\RDs K H acc vs
noncomputable def KC(K:Frag)(p:N2)(M:Mem)(H:Hp)(N:St->Hp->Prop):NC:=λρ' M' acc'=>∀σ' H',ExtP p M H M' H'->RS K H' σ' ρ'->RM K M' H'->il K H' p acc'->N σ' H'
noncomputable def lC(K:Frag)(p:N2)(T:TCd):TC:=λσ H N=>∃ρ M acc,RS K H σ ρ/\RM K M H/\M p=Y/\il K H p acc/\T ρ M acc (KC K p M H N)
theorem KC.ext{p:N2}{M2 M':Mem}{H2:Hp}{N:St->Hp->Prop}{ρ:au}{acc:List D}(z:H p=Z (.lst vs))(j:∃vs',H2 p=Z (.lst vs'))(x:ExtP p M H M2 H2)(h:KC K p M H N ρ M' acc):KC K p M2 H2 N ρ M' acc:=λσ' H' y=>h σ' H' (x.trans z j y)
noncomputable def eJ(te:TEd):TCd:=λρ M acc N=>te ρ M λx M1=>acc.length<L3/\N ρ M1 (acc++[x])
noncomputable def br:List TTd->TCd->TCd
 |[],tb=>tb
 |t::r,tb=>λρ M acc N=>t ρ M λb M1=>if b=F2 then br r tb ρ M1 acc N else N ρ M1 acc
noncomputable def cw(b:BT)(tb:TCd)(chk:Mem->Prop)(N:NC):List D->NC
 |[]=>λρ M acc=>chk M/\N ρ M acc
 |x::xs=>λρ M acc=>chk M/\∃ρ',b x ρ=Z ρ'/\tb ρ' M acc (cw b tb chk N xs)
noncomputable def dP(src:TId)(b:BT)(tb:TCd):TCd:=λρ M acc N=>src ρ M λxs chk M1=>cw b tb chk N xs ρ M1 acc
noncomputable def im(fr:List (Option Nat))(src:TId)(b:BT)(tb:TCd):TEd:=λρ M Q=>src ρ M λxs chk M1=>cw b tb chk (λ_ M' acc=>∀p,M' p=Y->Q (.ref p) (af M' p (.lst acc))) xs (tH fr ρ) M1 []
theorem bM(h:ad te):cc (eJ te):=λρ M acc N N' i q=>h _ _ _ _ (λx F j=>(by obtain⟨z,B⟩:=j;exact⟨z,i _ _ _ B⟩)) q
theorem aV{tb:TCd}(z:cc tb):∀{ts:List TTd},(∀t∈ts,aK t)->cc (br ts tb)
 |[],_=>z
 |t::r,h=>fun ρ M acc N N' i q=>h t LH _ _ _ _ (fun b F j=>by
  cases b with
  |true=>rw[if_pos rfl]at j⊢;exact aV z (λt' B=>h t' (Lq _ B)) _ _ _ _ _ i j
  |false=>rw[if_neg KW]at j⊢;exact i _ _ _ j) q
theorem gN{b:BT}{tb:TCd}(z:cc tb){chk:Mem->Prop}{N N':NC}(i:∀ρ' M' acc',N ρ' M' acc'->N' ρ' M' acc'):∀(xs:List D) (ρ:au) (M:Mem) (acc:List D),cw b tb chk N xs ρ M acc->cw b tb chk N' xs ρ M acc
 |[],ρ,M,acc,h=>⟨h.1,i _ _ _ h.2⟩
 |x::xs,ρ,M,acc,⟨c,ρ',e,q⟩=>⟨c,ρ',e,z _ _ _ _ _ (λρ2 M2 j B=>gN z i xs ρ2 M2 j B) q⟩
theorem iR{tb:TCd}(hs:cu src)(j:cc tb):cc (dP src b tb):=λρ M acc N N' i q=>hs _ _ _ _ (λxs c B z=>gN j i xs _ _ _ z) q
theorem mv{fr:List (Option Nat)}{tb:TCd}(hs:cu src)(j:cc tb):ad (im fr src b tb):=λρ M Q Q' i q=>hs _ _ _ _ (λxs c F z=>gN j (λ_ M' acc B p n=>i _ _ (B p n)) xs _ _ _ z) q
section
variable{K:Frag}{p:N2}
theorem gO(m:ad te)(σ:St)(H:Hp)(N:St->Hp->Prop)(h:lC K p (eJ te) σ H N):A7 p (lE K te) σ H N:=by
 obtain⟨ρ,M,acc,rs,rm,n,⟨vs,L,ra⟩,q⟩:=h;refine⟨ρ,M,rs,rm,m _ _ _ _ (λx Fn g9 v H1 F G J=>?_) q⟩;obtain⟨z,O⟩:=g9;have j:=F.keep p _ n L;have U:=F.new p _ n L;have st:=F.stab rm;have B:Stab H1 (upd H1 p (.lst (vs++[v]))):=pO j;refine⟨vs,j,by rw[ra.length];exact z,O σ _ ⟨λa o ne m' e=>?_,F.nw⟩ ((rs.mono st).mono B) (G.side U j) ⟨vs++[v],aC,((ra.mono st).mono B).append (RDs.cons (J.mono B) RDs.nil)⟩⟩
 rw[am ne];exact F.kp a o m' e
theorem jK{tb:TCd}(mb:cc tb):∀{ts:List TTd},(∀t∈ts,aK t)->∀(σ:St) (H:Hp) (N:St->Hp->Prop),lC K p (br ts tb) σ H N->jy (ts.map (lT K)) (lC K p tb) σ H N
 |[],_,σ,H,N,h=>h
 |t::r,hm,σ,H,N,h=>by
  obtain⟨ρ,M,acc,rs,rm,n,⟨vs,G,ra⟩,q⟩:=h;refine⟨ρ,M,rs,rm,hm t LH _ _ _ _ (λb L F H1 z B=>?_) q⟩;have j:=z.keep p _ n G;have O:=z.new p _ n G;have st:=z.stab rm
  cases b with
  |false=>rw[if_neg KW]at F;dsimp only;rw[if_neg KW];exact F σ H1 z.toP (rs.mono st) B ⟨vs,j,ra.mono st⟩
  |true=>
   rw[if_pos rfl]at F;dsimp only;rw[if_pos rfl];exact jK mb (λt' J=>hm t' (Lq _ J)) σ H1 N ⟨ρ,L,acc,rs.mono st,B,O,⟨vs,j,ra.mono st⟩,
    aV mb (λt' J=>hm t' (Lq _ J)) _ _ _ _ _ (λρ' M' acc' k=>k.ext G ⟨vs,j⟩ z.toP) F⟩
theorem mw{tb:TCd}(mb:cc tb){chk:Mem->Prop}{J:It}{B:Mem}{Nd:NC}{N:St->Hp->Prop}{σ:St}{ρ:au}{acc:List D}(it:j5 K H1 xs chk J)(rs:RS K H1 σ ρ)(rm:RM K B H1)(n:B p=Y)(ac:il K H1 p acc)(q:cw b tb chk Nd xs ρ B acc)(hN:∀ρ' M' acc' σ' H',ExtP p B H1 M' H'->RS K H' σ' ρ'->RM K M' H'->il K H' p acc'->Nd ρ' M' acc'->N σ' H'):
 cJ J (lG K b) (lC K p tb) N σ H1:=by
 obtain⟨IG,F,_⟩:=id ac;refine⟨λi m σ H=>m=xs.length-i/\i<=xs.length/\∃ρ M acc,RS K H σ ρ/\RM K M H/\M p=Y/\il K H p acc/\ExtP p B H1 M H/\cw b tb chk Nd (xs.drop i) ρ M acc,⟨xs.length,by simp,NF _,ρ,B,acc,rs,rm,n,ac,ExtP.refl,q⟩,?_⟩
 rintro i m σ H ⟨rfl,hi,ρ,M,acc,rs,j,n,ac,x,q⟩;have st:=x.stab rm F;obtain⟨vs,hp,ra⟩:=id ac
 by_cases z:i<xs.length
 ·rw[MR z]at q;obtain⟨c,ρ',hb,q⟩:=q;obtain⟨go,yl⟩:=(it M H st j c i).2 z;refine .inr ⟨go,λσ' H'=>∃m',m'<xs.length-i/\(m'=xs.length-(i+1)/\i+1<=xs.length/\∃ρ M acc,RS K H' σ' ρ/\RM K M H'/\M p=Y/\il K H' p acc/\ExtP p B H1 M H'/\cw b tb chk Nd (xs.drop (i+1)) ρ M acc),λσ' H' h=>h,λx' H' y=>?_⟩;obtain⟨yy,d,hd,rd⟩:=yl x' H' y;rw[tv z]at hd
  cases hd
  obtain⟨xy,rmy⟩:=yy.ext j;have sty:=xy.stab j;have G:=xy.keep p _ n hp;refine⟨_,ρ,ρ',rd,rs.mono sty,hb,λσ2 O=>?_⟩;refine⟨ρ',M,acc,O,rmy,n,⟨vs,G,ra.mono sty⟩,mb _ _ _ _ _ (λρ3 M3 L q3 σ3 H3 x3 U Fn fv=>?_) q⟩;have n3:M3 p=Y:=x3.new p _ n G;exact⟨xs.length-(i+1),∅,rfl,z,ρ3,M3,L,U,Fn,n3,fv,(x.trans F ⟨vs,hp⟩ xy.toP).trans F ⟨vs,G⟩ x3,q3⟩
 ·have e:i=xs.length:=by lia
  subst e;rw[UK]at q;exact .inl ⟨(it M H st j q.1 _).1 (Le _),hN ρ M acc σ H x rs j ac q.2⟩
theorem iS{tb:TCd}(ms:cu src)(mb:cc tb)(σ:St)(H:Hp)(N:St->Hp->Prop)(h:lC K p (dP src b tb) σ H N):(lI K src) σ H λJ H1=>cJ J (lG K b) (lC K p tb) N σ H1:=by obtain⟨ρ,M,acc,rs,rm,n,⟨vs,B,ra⟩,q⟩:=h;refine⟨ρ,M,rs,rm,ms _ _ _ _ (λxs chk O G J H1 z F it=>?_) q⟩;have j:=z.keep p _ n B;have L:=z.new p _ n B;have st:=z.stab rm;exact mw mb it (rs.mono st) F L ⟨vs,j,ra.mono st⟩ G λρ' M' acc' σ' H' x2 rs' rm' ac' k=>k σ' H' (z.toP.trans B ⟨vs,j⟩ x2) rs' rm' ac'
theorem eK{fr:List (Option Nat)}{tb:TCd}(ms:cu src)(mb:cc tb)(σ:St)(H:Hp)(Q:VK)(h:lE K (im fr src b tb) σ H Q):tG (lI K src) (lG K b) (λp=>lC K p tb) fr σ H Q:=by
 obtain⟨ρ,M,rs,rm,q⟩:=h;refine⟨ρ,M,rs,rm,ms _ _ _ _ (λxs chk F O J H1 B j it p n=>?_) q⟩;have st:=B.stab rm;have xn:Ext F H1 F (upd H1 p (.lst [])):=VZ n;have stn:=xn.stab j;have L:F p=Y:=j.out n;refine mw (p:=p) mb (xs:=xs) (chk:=chk) (λM' H' st'=>it M' H' ⟨λa xs e=>st'.tup _ _ (stn.tup _ _ e),λa o u e=>st'.frz _ _ _ (stn.frz _ _ _ e)⟩) (((rs.mono st).mono stn).inh fr) (j.new n) L ⟨[],aC,RDs.nil⟩ O λρ' M' acc' σ' H' G rs' rm' ac' k=>?_;obtain⟨vs,U,ra⟩:=ac';have n':M' p=Y:=G.new p _ L aC;refine k p n' (.ref p) H' ⟨λa o m e=>?_,λa o m e=>?_⟩ (λa o e=>?_) (VP.mpr rfl)
 ·have e1:=B.kp a o m e;have ne:a≠p:=λz=>by subst z;rw[n]at e1;cases e1
  exact G.kp a o ne (by rw[B.nw a o m e];exact m) (by rw[am ne];exact e1)
 ·have e1:=B.kp a o m e;have ne:a≠p:=λz=>by subst z;rw[n]at e1;cases e1
  rw[aD ne];exact(G.nw a o (by rw[B.nw a o m e];exact m) (by rw[am ne];exact e1)).trans (B.nw a o m e)
 ·by_cases z:a=p
  ·subst z;rw[ab]at e;cases e;exact⟨vs,U,ra⟩
  ·rw[aD z]at e;exact rm' a o e
end
end
variable{u:TSd}{c:TTd}{i:Nat}
section
noncomputable def jL:TSd:=λD ρ M=>D.nx ρ M
noncomputable def yI(t u:TSd):TSd:=λD ρ M=>t {D with nx:=u D} ρ M
noncomputable def jM:TSd:=λD ρ M=>D.bk ρ M
noncomputable def nV:TSd:=λD ρ M=>D.ct ρ M
noncomputable def nW(te:TEd):TSd:=λD ρ M=>te ρ M λ_ M1=>D.nx ρ M1
noncomputable def tV(te:TEd):TSd:=λD ρ M=>te ρ M D.rt
noncomputable def sIf(c:TTd)(t u:TSd):TSd:=λD ρ M=>c ρ M λb M1=>if b=F2 then t D ρ M1 else u D ρ M1
noncomputable def kT(te:TEd)(b:BT):TSd:=λD ρ M=>te ρ M λx M1=>∃ρ',b x ρ=Z ρ'/\D.nx ρ' M1
noncomputable def tW(ta:TAd)(bs:BTs):TSd:=λD ρ M=>ta ρ M λxs M1=>∃ρ',bs xs ρ=Z ρ'/\D.nx ρ' M1
noncomputable def bY(b:BT)(tb:TSd)(chk:Mem->Prop)(D:bU):List Mi.D->au->Mem->Prop
 |[]=>λρ M=>chk M/\D.nx ρ M
 |x::xs=>λρ M=>chk M/\∃ρ',b x ρ=Z ρ'/\tb {D with nx:=bY b tb chk D xs,ct:=bY b tb chk D xs,bk:=D.nx} ρ' M
noncomputable def tX(src:TId)(b:BT)(tb:TSd):TSd:=λD ρ M=>src ρ M λxs chk M1=>bY b tb chk D xs ρ M1
noncomputable def aR(c:TTd)(tb:TSd)(D:bU):Nat->au->Mem->Prop
 |0=>λ_ _=>False
 |n+1=>λρ M=>c ρ M λb M1=>if b=F2 then tb {D with nx:=aR c tb D n,ct:=aR c tb D n,bk:=D.nx} ρ M1 else D.nx ρ M1
noncomputable def jN(c:TTd)(tb:TSd):TSd:=λD ρ M=>∃n,aR c tb D n ρ M
theorem mz:aM jL:=λ_ _ _ _ h q=>h.nx _ _ q
theorem tY:aM jM:=λ_ _ _ _ h q=>h.bk _ _ q
theorem vT:aM nV:=λ_ _ _ _ h q=>h.ct _ _ q
theorem vU{t:TSd}(j:aM t)(z:aM u):aM (yI t u):=λa b ρ M h q=>j {a with nx:=u a} {b with nx:=u b} _ _ ⟨λρ' M' q'=>z _ _ _ _ h q',h.rt,h.bk,h.ct⟩ q
theorem vW(h:ad te):aM (nW te):=λa b ρ M i q=>h _ _ _ _ (λ_ z j=>i.nx _ _ j) q
theorem yJ(h:ad te):aM (tV te):=λa b ρ M i q=>h _ _ _ _ (λd z j=>i.rt _ _ j) q
theorem yK{t:TSd}(z:aK c)(B:aM t)(F:aM u):aM (sIf c t u):=λa b ρ M i q=>z _ _ _ _ (λk G j=>by
 cases k with
 |true=>rw[if_pos rfl]at j⊢;exact B _ _ _ _ i j
 |false=>rw[if_neg KW]at j⊢;exact F _ _ _ _ i j) q
theorem yL{bt:BT}(h:ad te):aM (kT te bt):=λa b ρ M i q=>h _ _ _ _ (λd B j=>(by obtain⟨ρ',e,z⟩:=j;exact⟨ρ',e,i.nx _ _ z⟩)) q
theorem yM{ta:TAd}{bs:BTs}(h:aQ ta):aM (tW ta bs):=λa b ρ M i q=>h _ _ _ _ (λd B j=>(by obtain⟨ρ',e,z⟩:=j;exact⟨ρ',e,i.nx _ _ z⟩)) q
theorem gP{bt:BT}{tb:TSd}(j:aM tb){chk:Mem->Prop}{a b:bU}(i:LeD a b):∀(xs:List D) (ρ:au) (M:Mem),bY bt tb chk a xs ρ M->bY bt tb chk b xs ρ M
 |[],ρ,M,h=>⟨h.1,i.nx _ _ h.2⟩
 |x::xs,ρ,M,⟨c,ρ',e,q⟩=>⟨c,ρ',e,j {a with nx:=bY bt tb chk a xs,ct:=bY bt tb chk a xs,bk:=a.nx} {b with nx:=bY bt tb chk b xs,ct:=bY bt tb chk b xs,bk:=b.nx} _ _ ⟨λρ2 M2 z=>gP j i xs ρ2 M2 z,i.rt,i.nx,λρ2 M2 z=>gP j i xs ρ2 M2 z⟩ q⟩
theorem yN{bt:BT}{tb:TSd}(hs:cu src)(j:aM tb):aM (tX src bt tb):=λa b ρ M i q=>hs _ _ _ _ (λxs c B z=>gP j i xs _ _ z) q
theorem fu{c:TTd}{tb:TSd}(z:aK c)(B:aM tb){a b:bU}(i:LeD a b):∀(n:Nat) (ρ:au) (M:Mem),aR c tb a n ρ M->aR c tb b n ρ M
 |0,ρ,M,h=>h
 |n+1,ρ,M,h=>z _ _ _ _ (fun k G j=>by
  cases k with
  |true=>rw[if_pos rfl]at j⊢;exact B {a with nx:=aR c tb a n,ct:=aR c tb a n,bk:=a.nx} {b with nx:=aR c tb b n,ct:=aR c tb b n,bk:=b.nx} _ _ ⟨λρ2 M2 F=>fu z B i n ρ2 M2 F,i.rt,i.nx,λρ2 M2 F=>fu z B i n ρ2 M2 F⟩ j
  |false=>rw[if_neg KW]at j⊢;exact i.nx _ _ j) h
theorem tZ{tb:TSd}(j:aK c)(z:aM tb):aM (jN c tb):=λa b ρ M i g9=>(by obtain⟨n,q⟩:=g9;exact⟨n,fu j z i n _ _ q⟩)
section
variable{K:Frag}
theorem mC(D:bJ)(σ:St)(H:Hp)(h:lS K jL D σ H):t8 D σ H:=by obtain⟨ρ,M,A,rs,rm,l,q⟩:=h;exact l.nx ρ M σ H Ext.refl rs rm q
theorem u5(D:bJ)(σ:St)(H:Hp)(h:lS K jM D σ H):uY D σ H:=by obtain⟨ρ,M,A,rs,rm,l,q⟩:=h;exact l.bk ρ M σ H Ext.refl rs rm q
theorem vX(D:bJ)(σ:St)(H:Hp)(h:lS K nV D σ H):zW D σ H:=by obtain⟨ρ,M,A,rs,rm,l,q⟩:=h;exact l.ct ρ M σ H Ext.refl rs rm q
theorem yO{t:TSd}(mt:aM t)(mu:aM u)(D:bJ)(σ:St)(H:Hp)(h:lS K (yI t u) D σ H):CB (lS K t) (lS K u) D σ H:=by obtain⟨ρ,M,A,rs,rm,l,q⟩:=h;exact⟨ρ,M,{A with nx:=u A},rs,rm,⟨λρ' M' σ' H' x rs' rm' q'=>⟨ρ',M',A,rs',rm',l.ext x,q'⟩,l.rt,l.bk,l.ct⟩,q⟩
theorem vY(m:ad te)(D:bJ)(σ:St)(H:Hp)(h:lS K (nW te) D σ H):zX (lE K te) D σ H:=by obtain⟨ρ,M,A,rs,rm,l,q⟩:=h;exact⟨ρ,M,rs,rm,m _ _ _ _ (λd B F v H1 z j G=>l.nx ρ B σ H1 z (rs.mono (z.stab rm)) j F) q⟩
theorem yP(m:ad te)(D:bJ)(σ:St)(H:Hp)(h:lS K (tV te) D σ H):CC (lE K te) D σ H:=by obtain⟨ρ,M,A,rs,rm,l,q⟩:=h;exact⟨ρ,M,rs,rm,m _ _ _ _ (λd B F v H1 G j z=>l.rt d B v H1 G j z F) q⟩
theorem Bj{t:TSd}(mc:aK c)(D:bJ)(σ:St)(H:Hp)(h:lS K (sIf c t u) D σ H):CF (lT K c) (lS K t) (lS K u) D σ H:=by
 obtain⟨ρ,M,A,rs,rm,l,q⟩:=h;refine⟨ρ,M,rs,rm,mc _ _ _ _ (λk F z H1 B j=>?_) q⟩
 cases k with
 |true=>rw[if_pos rfl]at z⊢;exact⟨ρ,F,A,rs.mono (B.stab rm),j,l.ext B,z⟩
 |false=>rw[if_neg KW]at z⊢;exact⟨ρ,F,A,rs.mono (B.stab rm),j,l.ext B,z⟩
theorem yQ(m:ad te)(D:bJ)(σ:St)(H:Hp)(h:lS K (kT te b) D σ H):oE (lE K te) (lG K b) D σ H:=by obtain⟨ρ,M,A,rs,rm,l,q⟩:=h;refine⟨ρ,M,rs,rm,m _ _ _ _ (λd F g9 v H1 B j z=>?_) q⟩;obtain⟨ρ',e,G⟩:=g9;exact⟨d,ρ,ρ',z,rs.mono (B.stab rm),e,λσ' rs'=>l.nx ρ' F σ' H1 B rs' j G⟩
theorem mD(m:ad te)(D:bJ)(σ:St)(H:Hp)(h:lS K (kT te (cO i)) D σ H):oE (lE K te) (jl i) D σ H:=by
 obtain⟨ρ,M,A,rs,rm,l,q⟩:=h;refine⟨ρ,M,rs,rm,m _ _ _ _ (λd z g9 v H1 j rm1 rd1=>?_) q⟩;obtain⟨ρ',e,B⟩:=g9
 cases e
 exact l.nx _ z _ H1 j ((rs.mono (j.stab rm)).set i rd1) rm1 B
theorem yR{tb:TSd}(ms:cu src)(mb:aM tb)(D:bJ)(σ:St)(H:Hp)(h:lS K (tX src b tb) D σ H):CM (lI K src) (lG K b) (lS K tb) D σ H:=by
 obtain⟨ρ,M,A,rs,rm,l,q⟩:=h;refine⟨ρ,M,rs,rm,ms _ _ _ _ (λxs chk M1 q1 J H1 x1 G it=>?_) q⟩;refine⟨λi m σ H'=>m=xs.length-i/\i<=xs.length/\∃ρ M2,RS K H' σ ρ/\RM K M2 H'/\Ext M1 H1 M2 H'/\bY b tb chk A (xs.drop i) ρ M2,⟨xs.length,by simp,NF _,ρ,M1,rs.mono (x1.stab rm),G,Ext.refl,q1⟩,?_⟩
 rintro i m σ2 H2 ⟨rfl,hi,ρ2,M2,L,j,x2,O⟩;have U:=x2.stab G
 by_cases B:i<xs.length
 ·rw[MR B]at O;obtain⟨c,ρ',hb,q3⟩:=O;obtain⟨go,yl⟩:=(it M2 H2 U j c i).2 B;refine .inr ⟨go,λσ' H'=>∃m',m'<xs.length-i/\(m'=xs.length-(i+1)/\i+1<=xs.length/\∃ρ M,RS K H' σ' ρ/\RM K M H'/\Ext M1 H1 M H'/\bY b tb chk A (xs.drop (i+1)) ρ M),λσ' H' h=>h,λx' H' y=>?_⟩;obtain⟨yy,d,hd,rd⟩:=yl x' H' y;rw[tv B]at hd
  cases hd
  obtain⟨xy,rmy⟩:=yy.ext j;have Fn:=x1.trans (x2.trans xy);refine⟨_,ρ2,ρ',rd,L.mono (xy.stab j),hb,λσ3 IG=>?_⟩;have nx:∀ρ5 F σ5 z,Ext M2 H' F z->RS K z σ5 ρ5->RM K F z->bY b tb chk A (xs.drop (i+1)) ρ5 F->∃m',m'<xs.length-i/\(m'=xs.length-(i+1)/\i+1<=xs.length/\∃ρ M,RS K z σ5 ρ/\RM K M z/\Ext M1 H1 M z/\bY b tb chk A (xs.drop (i+1)) ρ M):=λρ5 F σ5 z fv IH II q5=>⟨xs.length-(i+1),∅,rfl,B,ρ5,F,IH,II,(x2.trans xy).trans fv,q5⟩
  refine⟨ρ',M2,{A with nx:=bY b tb chk A (xs.drop (i+1)),ct:=bY b tb chk A (xs.drop (i+1)),bk:=A.nx},IG,rmy,⟨nx,λd F v z fv=>l.rt d F v z (Fn.trans fv),λρ5 F σ5 z fv=>l.nx ρ5 F σ5 z (Fn.trans fv),nx⟩,q3⟩
 ·have e:i=xs.length:=by lia
  subst e;rw[UK]at O;exact .inl ⟨(it M2 H2 U j O.1 _).1 (Le _),l.nx ρ2 M2 σ2 H2 (x1.trans x2) L j O.2⟩
theorem u6{tb:TSd}(mc:aK c)(mb:aM tb)(D:bJ)(σ:St)(H:Hp)(h:lS K (jN c tb) D σ H):uZ (lT K c) (lS K tb) D σ H:=by
 obtain⟨ρ,M,A,rs,rm,l,n,q⟩:=h;refine⟨λm σ' H'=>∃ρ' M',RS K H' σ' ρ'/\RM K M' H'/\Ext M H M' H'/\aR c tb A m ρ' M',⟨n,ρ,M,rs,rm,Ext.refl,q⟩,?_⟩;rintro m σ1 H1 ⟨ρ1,M1,J,L,x1,q1⟩
 cases m with
 |zero=>exact q1.elim
 |succ m=>
  refine⟨ρ1,M1,J,L,mc _ _ _ _ (λk M2 fv H2 x2 O=>?_) q1⟩;have j:=x1.trans x2;have U:=J.mono (x2.stab L)
  cases k with
  |false=>rw[if_neg KW]at fv;dsimp only;rw[if_neg KW];exact l.nx ρ1 M2 σ1 H2 j U O fv
  |true=>
   rw[if_pos rfl]at fv;dsimp only;rw[if_pos rfl];refine⟨λσ' H'=>∃ρ' M',RS K H' σ' ρ'/\RM K M' H'/\Ext M H M' H'/\aR c tb A m ρ' M',λσ' H' h=>⟨m,UL m,h⟩,ρ1,M2,{A with nx:=aR c tb A m,ct:=aR c tb A m,bk:=A.nx},U,O,⟨?_,λd z v Fn B=>l.rt d z v Fn (j.trans B),λρ5 z σ5 Fn B=>l.nx ρ5 z σ5 Fn (j.trans B),?_⟩,fv⟩
   ·exactλρ5 z σ5 Fn B F G q5=>⟨ρ5,z,F,G,j.trans B,q5⟩
   ·exactλρ5 z σ5 Fn B F G q5=>⟨ρ5,z,F,G,j.trans B,q5⟩
end
noncomputable def fZ:D->D->D->Mem->(Mem->Prop)->Prop:=λo i v M Q=>∃a,o=.ref a /\
 ((∃xs k j,i=.int k/\M a=Z (.lst xs)/\ixN xs.length k=Z j/\Q (af M a (.lst (xs.set j v)))) ∨
  ∃t kvs,M a=Z (.dct t kvs)/\eI t i=F2/\kvs.length<L3/\Q (af M a (.dct t (fe kvs i v))))
noncomputable def u7(te to ti:TEd):TSd:=λD ρ M=>te ρ M λv M1=>to ρ M1 λo M2=>ti ρ M2 λi M3=>fZ o i v M3 λM4=>D.nx ρ M4
theorem mF{o i v:D}{Q Q':Mem->Prop}(h:∀M',Q M'->Q' M')(q:fZ o i v M Q):fZ o i v M Q':=by
 obtain⟨a,e,⟨xs,k,j,e1,e2,z,q⟩|⟨t,kvs,e1,e2,z,q⟩⟩:=q
 ·exact⟨a,e,.inl ⟨xs,k,j,e1,e2,z,h _ q⟩⟩
 ·exact⟨a,e,.inr ⟨t,kvs,e1,e2,z,h _ q⟩⟩
theorem yS{to ti:TEd}(he:ad te)(ho:ad to)(hi:ad ti):aM (u7 te to ti):=λa b ρ M i q=>he _ _ _ _ (λv F j=>ho _ _ _ _ (λo M2 z=>hi _ _ _ _ (λk G B=>mF (λM' q'=>i.nx _ _ q') B) z) j) q
section
variable{X:Cx}{K:Frag}
theorem pQ(j:X.A.units+1<Om):PSet X (λo i v H Q=>∃a H',o=.ref a/\DPut H a i v H'/\Q H'):=by
 intro pins s σ H o i v ov iv u Q I ro ri rv h;obtain⟨a,H',rfl,g,q⟩:=h
 cases ro
 exact vt j I g ri rv λs' I'=>⟨H',I',q⟩
theorem PSet.or{t t':kG}(h:PSet X t)(h':PSet X t'):PSet X (λo i v H Q=>t o i v H Q∨t' o i v H Q):=by
 intro pins s σ H o i v ov iv u Q I ro ri rv q
 rcases q with q|q
 ·exact h pins s σ H o i v ov iv u Q I ro ri rv q
 ·exact h' pins s σ H o i v ov iv u Q I ro ri rv q
section
variable{κ:Type}[DecidableEq κ]{H:Hp}{RK:D->κ->Prop}(inj:∀{d e:D} {k:κ},RK d k->RK e k->d=e)(fn:∀{d:D} {k k':κ},RK d k->RK d k'->k=k')
include inj fn
theorem rP{k:D}{q:κ}(j:RK k q):∀{kvs:List (D×D)} {ps:List (κ×V)},MK (λp r=>RK p.1 r.1/\RD K H p.2 r.2) kvs ps->
 (kvs.any λp=>decide (p.1=k))=(ps.any λp=>decide (p.1=q))
 |_,_,.nil=>rfl
 |_,_,.cons (a:=p) (b:=r) hr t=>by
  rw[Nr,Nr,rP j t];congr 1
  by_cases e:p.1=k
  ·have e':r.1=q:=by have h1:=hr.1;rw[e]at h1;exact fn h1 j
   rw[decide_eq_true e,decide_eq_true e']
  ·have e':¬r.1=q:=λz=>e (by have h1:=hr.1;rw[z]at h1;exact inj h1 j)
   rw[decide_eq_false e,decide_eq_false e']
theorem rQ{k:D}{q:κ}(B:RK k q){d:D}{v:V}(F:RD K H d v):∀{kvs:List (D×D)} {ps:List (κ×V)},MK (λp r=>RK p.1 r.1/\RD K H p.2 r.2) kvs ps->
 MK (λp r=>RK p.1 r.1/\RD K H p.2 r.2) (kvs.map λp=>if p.1=k then(p.1,d)else p) (ps.map λp=>if p.1=q then(p.1,v)else p)
 |_,_,.nil=>.nil
 |_,_,.cons (a:=p) (b:=r) j t=>by
  refine .cons ?_ (rQ B F t)
  by_cases e:p.1=k
  ·have e':r.1=q:=by have h1:=j.1;rw[e]at h1;exact fn h1 B
   dsimp only;rw[if_pos e,if_pos e'];exact⟨j.1,F⟩
  ·have e':¬r.1=q:=λz=>e (by have h1:=j.1;rw[z]at h1;exact inj h1 B)
   dsimp only;rw[if_neg e,if_neg e'];exact j
theorem pS{k:D}{q:κ}(j:RK k q){d:D}{v:V}(z:RD K H d v){kvs:List (D×D)}{ps:List (κ×V)}(r:MK (λp r=>RK p.1 r.1/\RD K H p.2 r.2) kvs ps):
 MK (λp r=>RK p.1 r.1/\RD K H p.2 r.2) (fe kvs k d) (cj ps q v):=by
 unfold fe cj;rw[rP (K:=K) (H:=H) (RK:=RK) inj fn j r]
 by_cases e:(ps.any λp=>decide (p.1=q))=F2
 ·rw[if_pos e,if_pos e];exact rQ (RK:=RK) inj fn j z r
 ·rw[if_neg e,if_neg e];exact r.snoc ⟨j,z⟩
end
theorem pT{o i v:D}{ov iv vv:V}{Qd:Mem->Prop}{Q:Hp->Prop}(rm:RM K M H)(ro:RD K H o ov)(ri:RD K H i iv)(rv:RD K H v vv)(h:fZ o i v M Qd)(J:∀M' H',Ext M H M' H'->RM K M' H'->Qd M'->Q H'):
 A4 ov iv vv H Q∨∃a H',ov=.ref a/\DPut H a iv vv H'/\Q H':=by
 obtain⟨a,rfl,⟨xs,k,j,rfl,e2,G,q⟩|⟨t,kvs,e1,e2,G,q⟩⟩:=h
 ·cases VP.mp ro
  cases VO.mp ri
  obtain⟨vs,U,rs⟩:=rm _ _ e2;have st:Stab H (upd H a (.lst (vs.set j vv))):=rm.stabPut e2;exact .inl ⟨a,vs,k,j,rfl,rfl,U,by rw[rs.length];exact G,J _ _ (Ext.put e2) (rm.put (o:=.lst (xs.set j v)) e2 ⟨_,aC,(rs.set j rv).mono st⟩) q⟩
 ·cases VP.mp ro
  have ro':=rm _ _ e1
  cases t with
  |false=>obtain⟨ps,L,pr⟩:=ro';obtain⟨kq,F⟩:=oT (show fW i=F2 from e2);have st:Stab H (upd H a (.dK (cj ps kq vv))):=rm.stabPut e1;have B:=pS (RK:=RKey) RKey.inj RKey.fun F rv pr;rw[kM F ri];refine .inr ⟨a,_,rfl,DPut.k L (by rw[<-Pz pr];exact G),J _ _ (Ext.put e1) (rm.put (o:=.dct Md (fe kvs i v)) e1 ⟨_,aC,VS B λ_ _ z=>⟨z.1,z.2.mono st⟩⟩) q⟩
  |true=>
   obtain⟨ps,L,pr⟩:=ro';obtain⟨kq,F⟩:=rK (show dW i=F2 from e2);have st:Stab H (upd H a (.dT (cj ps kq vv))):=rm.stabPut e1;have B:=pS (RK:=RKeys) RKeys.inj RKeys.fun F rv pr
   cases i<;>first
    |exact F.elim
    | (obtain⟨b,us,rfl,O,ru⟩:=W8 (rL e2) ri
       rw[j0 F ru]at O;exact .inr ⟨a,_,rfl,DPut.t L O (by rw[<-Pz pr];exact G),J _ _ (Ext.put e1) (rm.put (o:=.dct F2 (fe kvs _ v)) e1 ⟨_,aC,VS B λ_ _ z=>⟨z.1,z.2.mono st⟩⟩) q⟩)
theorem Dz {o i e:Expr}{to ti:TEd}{tpos:Pos}(hu:X.A.units+1<Om)(me:ad te)(mo:ad to)(mi:ad ti)(he:PE X e (lE X.K te))(ho:PE X o (lE X.K to))(hi:PE X i (lE X.K ti))(hs:PD [.Subscript o i tpos] e pos.line X.env=pure Md)(hw:Ow [.Subscript o i tpos] e X.env=pure Y)(ha:∀v,assign (.Subscript o i tpos) X.env v=(do
   let ov <-holding [v] (eval o X.env)
   let iv <-holding [v,ov] (eval i X.env)
   Rz tpos
   holding [v,ov,iv] (Th ov iv v)
   release [v,ov,iv] [])):PS X (.Assign [.Subscript o i tpos] e pos) (lS X.K (u7 te to ti)):=by
 refine PS.imp (oF he (CH ho hi (PSet.or oI (pQ hu)) ha) hs hw rfl) λD σ H h=>?_;obtain⟨ρ,M,A,rs,rm,l,q⟩:=h;refine⟨ρ,M,rs,rm,me _ _ _ _ (λv M1 q1 vv H1 F j G=>?_) q⟩;refine⟨ρ,M1,rs.mono (F.stab rm),j,mo _ _ _ _ (λov M2 q2 vo H2 J z L=>?_) q1⟩;refine⟨ρ,M2,(rs.mono (F.stab rm)).mono (J.stab j),z,mi _ _ _ _ (λiv M3 q3 vi H3 O U Fn=>?_) q2⟩;have B:=F.trans (J.trans O);exact pT U (L.mono (O.stab z)) Fn ((G.mono (J.stab j)).mono (O.stab z)) q3 λM' H' x4 fv q4=>l.nx ρ M' σ H' (B.trans x4) (rs.mono ((B.trans x4).stab rm)) fv q4
noncomputable def jO:R2d
 |.int i,.int j,M,Q=>Q (.int (i+j)) M
 |_,_,_,_=>False
noncomputable def jP:R2d
 |.int i,.int j,M,Q=>Q (.int (i-j)) M
 |_,_,_,_=>False
noncomputable def jQ:R2d
 |.int i,.int j,M,Q=>MulOk i j/\Q (.int (i*j)) M
 |_,_,_,_=>False
theorem gQ:aG jO:=by
 intro x y M Q Q' h q
 cases x<;>cases y<;>first|exact q.elim|exact h _ _ q
theorem gR:aG jP:=by
 intro x y M Q Q' h q
 cases x<;>cases y<;>first|exact q.elim|exact h _ _ q
theorem gT:aG jQ:=by
 intro x y M Q Q' h q
 cases x<;>cases y<;>first|exact q.elim|exact⟨q.1,h _ _ q.2⟩
theorem mG:OpR X (O1 .Add) (l2 X.K jO):=by
 refine OpR.of AD λv u H Q h=>?_;obtain⟨x,y,M,rm,rx,ry,q⟩:=h
 cases x<;>cases y<;>first
  |exact q.elim
  |(cases VO.mp rx;cases VO.mp ry;exact⟨_,_,rfl,rfl,q _ H Ext.refl rm (VO.mpr rfl)⟩)
theorem mH:OpR X (O1 .Sub) (l2 X.K jP):=by
 refine OpR.of AE λv u H Q h=>?_;obtain⟨x,y,M,rm,rx,ry,q⟩:=h
 cases x<;>cases y<;>first
  |exact q.elim
  |(cases VO.mp rx;cases VO.mp ry;exact⟨_,_,rfl,rfl,q _ H Ext.refl rm (VO.mpr rfl)⟩)
theorem vZ:OpR X (O1 .Mult) (rI MulOk λi j=>.int (i*j)):=opI λ_ _ _ _ _ _ _ z q=>imul_int q z.ok
theorem mJ:OpR X (O1 .Mult) (l2 X.K jQ):=by
 refine OpR.of vZ λv u H Q h=>?_;obtain⟨x,y,M,rm,rx,ry,q⟩:=h
 cases x<;>cases y<;>first
  |exact q.elim
  |(cases VO.mp rx;cases VO.mp ry;exact⟨_,_,rfl,rfl,q.1,q.2 _ H Ext.refl rm (VO.mpr rfl)⟩)
noncomputable def u8(i:Nat)(rd:R2d)(te:TEd):TSd:=λD ρ M=>∃x,ρ[i]?=Z (Z x)/\te ρ M λy M1=>rd x y M1 λz M2=>D.nx (ρ.set i (Z z)) M2
theorem yT{rd:R2d}(j:aG rd)(he:ad te):aM (u8 i rd te):=λa b ρ M l g9=>(by obtain⟨x,e,q⟩:=g9;exact⟨x,e,he _ _ _ _ (λy G B=>j _ _ _ _ _ (λz M2 F=>l.nx _ _ F) B) q⟩)
theorem jR{x:Str}{e:Expr}{op:Ph}{rd:R2d}(U:X.N.Nodup)(hi:X.N[i]?=Z x)(hx:Loc X.env.scope x)(he:PE X e (lE X.K te))(ho:OpR X (O1 op) (l2 X.K rd))(Fn:aG rd)(me:ad te)(hf:X.fn x=F2∨X.env.scope.names.lookup x=Z .local):PS X (.AugAssign (.Name x pos') op e pos) (lS X.K (u8 i rd te)):=by refine PS.imp (CK U hi hx he (ti:=l2 X.K rd) ho hf) λD σ H h=>?_;obtain⟨ρ,M,A,rs,rm,l,d,e,q⟩:=h;obtain⟨v,fv,j⟩:=rs.2 i d e;refine⟨v,fv,ρ,M,rs,rm,me _ _ _ _ (λy M1 q1 u H1 B F G=>?_) q⟩;refine⟨d,y,M1,F,j.mono (B.stab rm),G,Fn _ _ _ _ _ (λz M2 q2 w H2 O J L=>?_) q1⟩;exact l.nx _ M2 _ H2 (B.trans O) ((rs.mono ((B.trans O).stab rm)).set i L) J q2
end
end
end Mi
end
namespace Mi
variable{K:Frag}
theorem w4{ta:TAd}{i j:Nat}(m:aQ ta)(D:bJ)(σ:St)(H:Hp)(h:lS K (tW ta (cr (cO i) (cr (cO j) j4))) D σ H):CI i j (lA K ta) D σ H:=by
 obtain⟨ρ,M,A,rs,rm,l,q⟩:=h;refine⟨ρ,M,rs,rm,m _ _ _ _ (λds G g9 vs H1 F B z=>?_) q⟩;obtain⟨ρ',e,J⟩:=g9
 match ds,e,z with
 |[d1,d2],e,z=>obtain⟨v,u,rfl,L,O⟩:=z.two;simp only[cr,cO,j4,OF,Uo]at e;subst e;exact⟨v,u,rfl,l.nx _ G _ H1 F (((rs.mono (F.stab rm)).set i L).set j O) B J⟩
end Mi
section
section
variable{X:Cx}
theorem aE:CL X (λo i H Q=>∃a xs k x,o=.ref a/\i=.int k/\SqL X.K H a xs/\atI xs k=Z x/\Q x H):=by
 intro pins s σ H o i ov iv Q I ro ri h;obtain⟨a,xs,k,x,rfl,rfl,sq,he,q⟩:=h
 cases ro
 obtain⟨t,rfl⟩:=ri;obtain⟨its,r,pl,J⟩:=I.list sq;obtain⟨j,h1,h2,L,B,F⟩:=kH he;obtain⟨w,ew,rw'⟩:=r.get h2;have G:=r.length;have O:=fB;have fin:EP X pins σ Q w s:=⟨x,H,I,rw',q⟩
 by_cases h0:0<=k
 ·have z:k.toNat=j:=MW.inj (by rw[<-h1,SY h0 F])
  exact wpAny_getItem_list pl.isList h0 ∅ (by rw[z];simpa using ew) fin
 ·have z:(k+(its.toArray.size:Int)).toNat=j:=by
   rw[L5,<-G];exact MW.inj (by rw[<-h1,Sl ∅ B])
  exact Sn pl.isList ∅ (by rw[L5];lia) ∅ (by rw[z];simpa using ew) fin
end
namespace Mi
section
variable{X:Cx}
noncomputable def Aa:R2d:=λx y M Q=>∃a ds k d,x=.ref a/\y=.int k/\M a=Z (.lst ds)/\atI ds k=Z d/\Q d M
theorem w5:aG Aa:=λ_ _ _ _ _ h j=>(by obtain⟨a,ds,k,d,e1,e2,z,B,q⟩:=j;exact⟨a,ds,k,d,e1,e2,z,B,h _ _ q⟩)
noncomputable def nX(to ti te:TEd)(rd:R2d):TSd:=λD ρ M=>to ρ M λo M1=>ti ρ M1 λi M2=>Aa o i M2 λx M3=>te ρ M3 λy M4=>rd x y M4 λz M5=>fZ o i z M5 λM6=>D.nx ρ M6
theorem w6{to ti te:TEd}{rd:R2d}(ho:ad to)(hi:ad ti)(he:ad te)(j:aG rd):aM (nX to ti te rd):=λa b ρ M l q=>ho _ _ _ _ (λo U B=>hi _ _ _ _ (λi M2 F=>w5 _ _ _ _ _ (λx Fn G=>he _ _ _ _ (λy fv J=>j _ _ _ _ _ (λz M5 L=>mF (λM6 O=>l.nx _ _ O) L) J) G) F) B) q
theorem kU{o i e:Expr}{to ti te:TEd}{op:Ph}{rd:R2d}{pos tpos:Pos}(hu:X.A.units+1<Om)(mo:ad to)(mi:ad ti)(me:ad te)(hr:aG rd)(ho:PE X o (lE X.K to))(hi:PE X i (lE X.K ti))(he:PE X e (lE X.K te))(J:OpR X (O1 op) (l2 X.K rd))(ha:∀ov iv new,augStore i ov iv new=(do holding [new,ov,iv] (Th ov iv new);release [new,ov,iv] [];pure .next)):PS X (.AugAssign (.Subscript o i tpos) op e pos) (lS X.K (nX to ti te rd)):=by
 refine PS.imp (AC ho hi aE he (tip:=l2 X.K rd) J (PSet.or oI (pQ hu)) ha) λD σ H h=>?_;obtain⟨ρ,M,A,rs,rm,l,q⟩:=h;refine⟨ρ,M,rs,rm,mo _ _ _ _ (λd1 M1 q1 v1 H1 x1 j L=>?_) q⟩;have B:=rs.mono (x1.stab rm);refine⟨ρ,M1,B,j,mi _ _ _ _ (λd2 M2 q2 v2 H2 O z U=>?_) q1⟩;have Fn:=B.mono (O.stab j);have F:=L.mono (O.stab j);obtain⟨a,ds,k,d,rfl,rfl,e3,e4,q3⟩:=q2
 cases VP.mp F
 cases VO.mp U
 obtain⟨vs,fv,rv⟩:=z _ _ e3;obtain⟨v3,IG,IH⟩:=jD rv e4;refine⟨a,vs,k,v3,rfl,rfl,SqL.of fv,IG,?_⟩;refine⟨ρ,M2,Fn,z,me _ _ _ _ (λd4 M4 q4 v4 H4 x4 II IJ=>?_) q3⟩;refine⟨d,d4,M4,II,IH.mono (x4.stab z),IJ,hr _ _ _ _ _ (λd5 M5 q5 v5 H5 x5 IK IM=>?_) q4⟩;have G:=((x1.trans O).trans x4).trans x5;exact pT IK (VP.mpr rfl) (VO.mpr rfl) IM q5 λM' H' x6 IN q6=>l.nx ρ M' σ H' (G.trans x6) (rs.mono ((G.trans x6).stab rm)) IN q6
end
section
section
variable{X:Cx}
noncomputable def u9:D->Option Bool
 |.bl b=>Z b
 |.int i=>Z (i != 0)
 |_=>Y
noncomputable def pU:RAd:=λxs M Q=>∃x ds ts,xs=[x]/\aJ M x=Z ds/\aA u9 ds=Z ts/\Q (.bl (ts.all id)) M
theorem pV:aN pU:=λ_ _ _ _ h j=>(by obtain⟨x,ds,ts,e,e1,e2,q⟩:=j;exact⟨x,ds,ts,e,e1,e2,h _ _ q⟩)
theorem pW{α β:Type}{f:α->Option β}:∀{xs:List α} {ys:List β},aA f xs=Z ys->ys.length=xs.length/\∀(i:Nat) x,xs[i]?=Z x->∃y,ys[i]?=Z y/\f x=Z y
 |[],ys,h=>by cases h;exact⟨rfl,λi x e=>by simp at e⟩
 |x::xs,ys,h=>by
  simp only[aA]at h
  cases e1:f x with
  |none=>rw[e1]at h;cases h
  |some y=>
   rw[e1]at h;simp only[OF]at h
   cases e2:aA f xs with
   |none=>rw[e2]at h;cases h
   |some r=>
    rw[e2]at h;cases h;obtain⟨l,g⟩:=pW e2;refine⟨by simp[l],λi z e=>?_⟩
    cases i with
    |zero=>simp at e;subst e;exact⟨y,rfl,e1⟩
    |succ i=>simp at e;simpa using g i z e
theorem Bk{P:Ln}{w:LL}{A:LQ}{E:gV->q7->Prop}{s:q7}{K:Frag}{H:Hp}{d:D}{v:V}{u:gV}{b:Bool}{Q:Bool->q7->Prop}(e:u9 d=Z b)(rd:RD K H d v)(ru:RelV v u)(q:Q b s):La (model P w) A (truthy u) Q E s:=by
 cases d with
 |bl c=>cases VQ.mp rd;cases ru;cases e;exact Ol q
 |int i=>cases VO.mp rd;obtain⟨t,rfl⟩:=ru;cases e;exact PyProof.Rows.truthy_int q
 |_=>cases e
theorem range_all{ts:List Bool}:(z4 ts.length).all (λi=>ts.getD i Md)=ts.all id/\(z4 ts.length).any (λi=>ts.getD i Md)=ts.any id:=by
 have e:(z4 ts.length).map (λi=>ts.getD i Md)=ts:=by
  apply UM
  ·simp
  ·intro i h1 h2;simp[KU,tv h2]
 constructor
 ·conv=>rhs;rw[<-e]
  rw[List.all_map];rfl
 ·conv=>rhs;rw[<-e]
  rw[List.any_map];rfl
theorem yU(L:X.calm=F2){pins:List (N2×Obj)}{s:q7}{σ:St}{H:Hp}{M:Mem}{x:D}{ds:List D}{ts:List Bool}{v:V}{u:gV}{Q:gV->q7->Prop}{g:List Bool->Bool}(I:Inv X pins σ H s)(rm:RM X.K M H)(rd:RD X.K H x v)(ru:RelV v u)(e1:aJ M x=Z ds)(e2:aA u9 ds=Z ts)(fin:∀h' tk,Inv X pins σ H {s with heap:=h',toks:=tk}->Q (.bool (g ts)) {s with heap:=h',toks:=tk})(gg:Nat->(Nat->Bool)->Bool)(O:gg ts.length (λi=>ts.getD i Md)=g ts):
 La (model X.prog X.w) X.A.in1 (SU u) (λit s₂=>∃I fp wr n P St tr,it=.ref I/\Walks X.prog X.w X.A.in1 I fp wr n P St/\St 0 s₂.heap/\TruthOf X.prog X.w X.A.in1 P tr /\
  ∀h' tk,(∀b o,b∉wr->s₂.heap.get? b=Z o->h'.get? b=Z o)->Q (.bool (gg n tr)) {s₂ with heap:=h',toks:=tk}) X.xe s:=by
 obtain⟨p,vs,rfl,sq,U⟩:=pJ rm rd e1
 cases ru
 obtain⟨lt,get⟩:=pW e2;have lv:=U.length;have tr:∀(its:List gV),Vals vs its->TruthOf X.prog X.w X.A.in1 (λi w=>its.toArray[i]?=Z w) (λi=>ts.getD i Md):=by
  intro its rv i w s' Q' E' Fn F;have z:its[i]?=Z w:=by simpa using Fn
  have li:=rv.length;have hi:i<its.length:=(L7.mp z).1;obtain⟨d,hd⟩:∃d,ds[i]?=Z d:=⟨ds[i]'∅,tv ∅⟩
  obtain⟨v',G,rd'⟩:=U.get hd;obtain⟨u',B,ru'⟩:=rv.get G;rw[z]at B;cases B;obtain⟨b,fv,eb⟩:=get i d hd;have:ts.getD i Md=b:=by rw[KU,fv];rfl
  have F:Q' (ts.getD i Md) s':=F;rw[this]at F;exact Bk eb rd' ru' F
 rcases sq with sq|sq
 ·obtain⟨its,rv,pl,hz⟩:=I.list sq;have li:=rv.length;have j:p<s.heap.objs.size:=by obtain⟨o,n,e,_⟩:=pl;exact KR e
  refine NQ pl.isList ⟨s.heap.objs.size,_,_,_,_,_,_,rfl,Walks.list (by rw[U1];exact I.ok.hd L) s.heap.objs.size p (Lr j) its.toArray,⟨⟨_,KY _ rfl,rfl,rfl⟩,pl.isList.at λo e=>i0 _ e⟩,tr its rv,λh' tk k=>?_⟩
  have J:its.toArray.size=ts.length:=by rw[L5];lia
  rw[J,O];exact fin h' tk (I.kept (t':=tk) λb o e=>k b o (by simp;exact Lr (KR e)) (i0 _ e))
 ·obtain⟨its,rv,pl,hz⟩:=I.tuple sq;have li:=rv.length;have j:p<s.heap.objs.size:=by obtain⟨o,e,_⟩:=pl;exact KR e
  have pt:s.heap.IsTuple p its.toArray:=pl;refine Nj pt ⟨s.heap.objs.size,_,_,_,_,_,_,rfl,Walks.tuple (by rw[U1];exact I.ok.hd L) s.heap.objs.size p (Lr j) its.toArray,⟨⟨_,KY _ rfl,rfl,rfl⟩,pt.push _⟩,tr its rv,λh' tk k=>?_⟩
  have J:its.toArray.size=ts.length:=by rw[L5];lia
  rw[J,O];exact fin h' tk (I.kept (t':=tk) λb o e=>k b o (by simp;exact Lr (KR e)) (i0 _ e))
theorem ua(j:X.calm=F2):CallR X (.builtin "all") (lR X.K pU):=by intro pins s σ H xs us Q I rv h;obtain⟨ds,M,rm,rs,x,es,ts,rfl,e1,e2,q⟩:=h;obtain⟨v,rfl,r⟩:=rs.one;obtain⟨u,rfl,ru⟩:=eG rv;exact call_all_walk (yU j I rm r ru e1 e2 (g:=λts=>ts.all id) (λh' tk I'=>⟨.bl _,H,I',rfl,q _ H Ext.refl rm (VQ.mpr rfl)⟩) (λn tr=>(z4 n).all tr) range_all.1)
noncomputable def nY(t:Bool):TEd:=λ_ M Q=>∀p,M p=Y->Q (.ref p) (af M p (.dct t []))
theorem w8{t:Bool}:ad (nY t):=λ_ _ _ _ i q p n=>i _ _ (q p n)
theorem Bl{t:Bool}{pos:Pos}:PE X (.Dict [] [] pos) (lE X.K (nY t)):=by
 cases t with
 |false=>refine PE.imp y7 λσ H Q g9 p n=>?_;obtain⟨ρ,M,rs,rm,q⟩:=g9;exact q p (rm.out n) (.ref p) _ (Ext.lay n) (rm.lay n ⟨[],aC,.nil⟩) (VP.mpr rfl)
 |true=>refine PE.imp y8 λσ H Q g9 p n=>?_;obtain⟨ρ,M,rs,rm,q⟩:=g9;exact q p (rm.out n) (.ref p) _ (Ext.lay n) (rm.lay n ⟨[],aC,.nil⟩) (VP.mpr rfl)
end
end
end Mi
end
namespace Srt
structure Cm(prog:Ln)(w:LL)(A:LQ)(s:q7)(kd:PM)(P:L4->Prop)(lt:L4->L4->Bool):Prop where
 asym:∀x y,lt x y=F2->lt y x=Md
 neg:∀x y z,lt x z=F2->lt x y=F2∨lt y z=F2
 run:∀(x y:L4) (E:gV->q7->Prop) (Q:Bool->q7->Prop),P x->P y->Q (lt x y) s->La (Lk prog w) A (keyLt' kd x.1 y.1) Q E s
variable{M:Q9}{x y:L4}{st:Mn}{i:Nat}
section
variable{prog:Ln}{w:LL}{A:LQ}{E:gV->q7->Prop}{s:q7}{kd:PM}{P:L4->Prop}{lt:L4->L4->Bool}
theorem aa{σ α:Type}{x:α}{st:σ}{Q:α->σ->Prop}(q:Q x st):wpS M A E s (pure x) Q st:=λ_ _ _=>⟨rfl,q⟩
theorem cD{σ:Type}{tag:String}{st:σ}{Q:Unit->σ->Prop}(q:Q () st):wpS M A E s (liftM (PySem.rule tag)) Q st:=wpS_lift (Nt ⟨rfl,q⟩)
theorem Bm{σ:Type}{st st':σ}{Q:PUnit->σ->Prop}(q:Q PUnit.unit st'):wpS M A E s (set st') Q st:=λ_ _ _=>⟨rfl,q⟩
theorem jS(c:Cm prog w A s kd P lt){Q:Option Bool->Mn->Prop}(j:Na st=kd)(hx:P x)(z:P y)(q:Q (Z (lt x y)) st):wpS (Lk prog w) A E s (lt' x y) Q st:=by rw[lt'_eq];refine J4 (OD ?_);refine J4 (wpS_lift ?_);rw[j];intro Γ p hp;rw[Sem.wp_attempt];exact c.run x y (λe s'=>s'=s/\wpS (Lk prog w) A E s (do modify λs=>Qx (Na s) (LF s) (Lf s) (gallopOf s) (Z e);pure Y) Q st) (λb s'=>s'=s/\wpS (Lk prog w) A E s (pure (Z b)) Q st) hx z ⟨rfl,aa q⟩ Γ p hp
theorem aF{arr:Array L4}{Q:L4->Mn->Prop}(h:arr[i]?=Z x)(q:Q x st):wpS (Lk prog w) A E s (elem' arr i) Q st:=by rw[elem'_eq,h];exact aa q
theorem Cm.le_trans(c:Cm prog w A s kd P lt){z:L4}(h:lt y x=Md)(h2:lt z y=Md):lt z x=Md:=by
 cases e:lt z x with
 |false=>rfl
 |true=>rcases c.neg z y x e with q|q<;>simp_all
theorem Cm.irr(c:Cm prog w A s kd P lt):lt x x=Md:=by
 cases e:lt x x with
 |false=>rfl
 |true=>have:=c.asym x x e;rw[e]at this;exact this
theorem ay{σ α:Type}{m:StateT σ Sem α}{st:σ}{Q Q':α->σ->Prop}(h:wpS M A E s m Q st)(q:∀a st',Q a st'->Q' a st'):wpS M A E s m Q' st:=Mz h (λa s' z=>⟨z.1,q _ _ z.2⟩) λ_ _ z=>z
end
noncomputable abbrev DA:=Bool->L4->Array L4->Nat->Nat->Nat->StateT Mn Sem (Option Nat)
noncomputable abbrev DB:=Array L4->Array L4->StateT Mn Sem (Array L4)
noncomputable def bey(lt:L4->L4->Bool)(left:Bool)(key x:L4):Bool:=if left=F2 then lt x key else !(lt key x)
structure Same(st st':Mn):Prop where
 arr:LF st'=LF st
 kind:Na st'=Na st
 pend:Lf st'=Lf st
 fail:Nv st'=Nv st
def io(prog:Ln)(w:LL)(A:LQ)(E:gV->q7->Prop)(s:q7)(kd:PM)(P:L4->Prop)(lt:L4->L4->Bool)(g:DA):Prop:=
 ∀(left:Bool) (key:L4) (arr:Array L4) (L xs R:List L4) (base n hint:Nat) (st:Mn) (Q:Option Nat->Mn->Prop),Na st=kd->P key->arr.toList=L++xs++R->base=L.length->n=xs.length->(∀x∈xs,P x)->hint<n->
  xs.Pairwise (λx y=>lt y x=Md)->
  (∀X Fn,xs=X++Fn->(∀x∈X,bey lt left key x=F2)->(∀x∈Fn,bey lt left key x=Md)->Q (Z X.length) st)->
  wpS (Lk prog w) A E s (g left key arr base n hint) Q st
def iq(prog:Ln)(w:LL)(A:LQ)(E:gV->q7->Prop)(s:q7)(kd:PM)(P:L4->Prop)(lt:L4->L4->Bool)(m:DB):Prop:=
 ∀(a b:Array L4) (st:Mn) (Q:Array L4->Mn->Prop),Na st=kd->(∀x∈a.toList,P x)->(∀x∈b.toList,P x)->0<a.size->0<b.size->
  a.toList.Pairwise (λx y=>lt y x=Md)->b.toList.Pairwise (λx y=>lt y x=Md)->(∀x y,a[0]?=Z x->b[0]?=Z y->lt x y=Md)->(∀x y,a[a.size-1]?=Z x->b[b.size-1]?=Z y->lt x y=Md)->
  (∀r st',r.toList.Perm (a.toList++b.toList)->r.toList.Pairwise (λx y=>lt y x=Md)->Same st st'->Q r st')->
  wpS (Lk prog w) A E s (m a b) Q st
variable{left:Bool}{key:L4}{j ia ib n na nb:Nat}{xs X l Fn la lb:List L4}{a b:Array L4}
section
variable{prog:Ln}{w:LL}{A:LQ}{E:gV->q7->Prop}{s:q7}{kd:PM}{P:L4->Prop}{lt:L4->L4->Bool}
theorem gU(c:Cm prog w A s kd P lt){arr:Array L4}{Q:Option Bool->Mn->Prop}(z:Na st=kd)(hx:P key)(B:P x)(e:arr[j]?=Z x)(q:Q (Z (bey lt left key x)) st):
 wpS (Lk prog w) A E s (do
  let x <-elem' arr j
  if left=F2 then lt' x key else do
   let r <-lt' key x
   pure (Option.map (λx=>!x) r)) Q st:=by
 refine J4 (aF e ?_)
 cases left with
 |true=>exact jS c z B hx q
 |false=>exact J4 (jS c z hx B (aa q))
theorem pX(c:Cm prog w A s kd P lt)(h:lt y x=Md)(j:bey lt left key y=F2):bey lt left key x=F2:=by
 unfold bey at j⊢
 cases left with
 |true=>
  rw[if_pos rfl]at j⊢
  rcases c.neg y x key j with q|q
  ·rw[h]at q;cases q
  ·exact q
 |false=>
  simp at j⊢
  cases e:lt key x with
  |false=>rfl
  |true=>
   rcases c.neg key y x e with q|q
   ·rw[j]at q;cases q
   ·rw[h]at q;cases q
structure Gal(lt:L4->L4->Bool)(left:Bool)(key:L4)(xs:List L4)(lo hi:Nat):Prop where
 le:lo<=hi
 len:hi<=xs.length
 up:∀i x,i<lo->xs[i]?=Z x->bey lt left key x=F2
 dn:∀i x,hi<=i->xs[i]?=Z x->bey lt left key x=Md
theorem fG{R:L4->L4->Prop}(h:xs.Pairwise R)(z:i<j)(hx:xs[i]?=Z x)(B:xs[j]?=Z y):R x y:=by obtain⟨h1,e1⟩:=L7.mp hx;obtain⟨h2,e2⟩:=L7.mp B;rw[<-e1,<-e2];exact List.pairwise_iff_getElem.mp h i j h1 h2 z
theorem ir(c:Cm prog w A s kd P lt)(h:xs.Pairwise (λx y=>lt y x=Md))(z:xs[j]?=Z y)(B:bey lt left key y=F2):∀i x,i<j+1->xs[i]?=Z x->bey lt left key x=F2:=by
 intro i x hi hx
 by_cases e:i=j
 ·subst e;rw[hx]at z;cases z;exact B
 ·exact pX c (fG h ∅ hx z) B
theorem iu(c:Cm prog w A s kd P lt)(h:xs.Pairwise (λx y=>lt y x=Md))(z:xs[j]?=Z y)(B:bey lt left key y=Md):∀i x,j<=i->xs[i]?=Z x->bey lt left key x=Md:=by
 intro i x hi hx
 by_cases e:i=j
 ·subst e;rw[hx]at z;cases z;exact B
 ·cases q:bey lt left key x with
  |false=>rfl
  |true=>have:=pX c (fG h ∅ z hx) q;rw[B]at this;cases this
theorem Gal.out{k:Nat}(g:Gal lt left key xs k k):∃X Fn,xs=X++Fn/\X.length=k/\(∀x∈X,bey lt left key x=F2)/\(∀x∈Fn,bey lt left key x=Md):=by
 refine⟨xs.take k,xs.drop k,(MX k xs).symm,by rw[Lu];exact N7 g.len,λx hx=>?_,λx hx=>?_⟩
 ·obtain⟨i,hi,e⟩:=Nm.mp hx;rw[Lu]at hi;exact g.up i x ∅ (by rw[List.getElem_take]at e;rw[<-e];exact tv _)
 ·obtain⟨i,hi,e⟩:=Nm.mp hx;rw[Nl]at hi;refine g.dn (k+i) x ∅ ?_
  rw[List.getElem_drop]at e;rw[<-e];exact tv _
noncomputable abbrev Ord(lt:L4->L4->Bool)(l:List L4):Prop:=l.Pairwise λx y=>lt y x=Md
theorem pY{out A' B:List L4}(h1:Ord lt (out++(X++A')))(h2:Ord lt (out++B))(h:∀x∈X,∀y∈B,lt y x=Md):Ord lt ((out++X)++A')/\Ord lt ((out++X)++B):=by
 refine⟨by rw[Lh];exact h1,?_⟩
 rw[Lh];obtain⟨j,F,G⟩:=KS.mp h1;obtain⟨U,p2,J⟩:=KS.mp h2;obtain⟨L,Fn,fv⟩:=KS.mp F;refine KS.mpr ⟨j,KS.mpr ⟨L,p2,h⟩,λx hx y O=>?_⟩
 rcases Ld.mp O with z|z
 ·exact G x hx y (LD _ z)
 ·exact J x hx y z
structure ML(lt:L4->L4->Bool)(la lb out:List L4)(ia ib:Nat):Prop where
 pa:Ord lt (out++la.drop ia)
 pb:Ord lt (out++lb.drop ib)
 pm:(out++(la.drop ia++lb.drop ib)).Perm (la++lb)
theorem rR(c:Cm prog w A s kd P lt)(h:Ord lt (l.drop i))(j:l[i]?=Z y)(hx:lt y x=Md):∀z∈l.drop i,lt z x=Md:=by
 obtain⟨hi,e⟩:=L7.mp j;rw[MR hi,e]at h⊢;intro z B
 rcases KZ.mp B with q|q
 ·rw[q];exact hx
 ·exact c.le_trans hx ((PX.mp h).1 z q)
theorem dX(e:l.drop i=X++Fn):l.drop (i+X.length)=Fn:=by rw[<-Rl,e,List.drop_left]
theorem ML.galA(c:Cm prog w A s kd P lt){out:List L4}(m:ML lt la lb out ia ib)(e:la.drop ia=X++Fn)(j:lb[ib]?=Z y)(h:∀x∈X,lt y x=Md):ML lt la lb (out++X) (ia+X.length) ib:=by
 have p2:=(KS.mp m.pb).2.1;have q:=pY (X:=X) (A':=Fn) (by rw[<-e];exact m.pa) m.pb λx hx=>rR c p2 j (h x hx)
 refine⟨by rw[dX e];exact q.1,q.2,?_⟩
 rw[dX e];refine O7.trans (P2 ?_) m.pm;rw[e];simp
theorem ML.galB(c:Cm prog w A s kd P lt){out:List L4}(m:ML lt la lb out ia ib)(e:lb.drop ib=X++Fn)(j:la[ia]?=Z y)(h:∀x∈X,lt y x=Md):ML lt la lb (out++X) ia (ib+X.length):=by
 have p2:=(KS.mp m.pa).2.1;have q:=pY (X:=X) (A':=Fn) (by rw[<-e];exact m.pb) m.pa λx hx=>rR c p2 j (h x hx)
 refine⟨q.2,by rw[dX e];exact q.1,?_⟩
 rw[dX e];refine O7.trans ?_ m.pm;rw[e,Lh];refine LY _ ?_;rw[<-Lh,<-Lh];exact Mw _ Of
theorem dY(h:l[i]?=Z x):l.drop i=[x]++l.drop (i+1):=by obtain⟨hi,e⟩:=L7.mp h;rw[MR hi,e];rfl
theorem ML.pushA(c:Cm prog w A s kd P lt){out:List L4}(m:ML lt la lb out ia ib)(hx:la[ia]?=Z x)(j:lb[ib]?=Z y)(h:lt y x=Md):ML lt la lb (out++[x]) (ia+1) ib:=m.galA c (dY hx) j (by simpa using h)
theorem ML.pushB(c:Cm prog w A s kd P lt){out:List L4}(m:ML lt la lb out ia ib)(hx:la[ia]?=Z x)(j:lb[ib]?=Z y)(h:lt x y=Md):ML lt la lb (out++[y]) ia (ib+1):=m.galB c (dY j) hx (by simpa using h)
def Res(lt:L4->L4->Bool)(la lb r:List L4):Prop:=r.Perm (la++lb)/\Ord lt r
theorem ML.fin{out:List L4}(m:ML lt la lb out ia ib)(h:lb.length<=ib):Res lt la lb (out++la.drop ia++lb.drop ib):=by rw[NX h,MJ];refine⟨?_,m.pa⟩;have:=m.pm;rw[NX h,MJ]at this;exact this
theorem ML.finE{out:List L4}(m:ML lt la lb out ia ib)(h:la.length<=ia):Res lt la lb (out++la.drop ia++lb.drop ib):=by rw[NX h,MJ];refine⟨?_,m.pb⟩;have:=m.pm;rw[NX h,PN]at this;exact this
theorem ML.finA{out:List L4}(m:ML lt la lb out ia ib)(h:∀x∈lb,∀y∈la.drop ia,lt y x=Md):Res lt la lb (out++lb.drop ib++la.drop ia):=by
 refine⟨?_,?_⟩
 ·refine O7.trans ?_ m.pm;rw[Lh];exact LY _ Of
 ·obtain⟨G,B,F⟩:=KS.mp m.pa;refine KS.mpr ⟨m.pb,B,λx hx y j=>?_⟩
  rcases Ld.mp hx with z|z
  ·exact F x z y j
  ·exact h x (Ot z) y j
theorem ML.size{out:List L4}(m:ML lt la lb out ia ib)(j:ia<=la.length)(z:ib<=lb.length):out.length=ia+ib:=by have:=m.pm.length_eq;simp only[I7,Nl]at this;lia
theorem aE(h:i<a.size):∃x,a[i]?=Z x/\a.toList[i]?=Z x/\x∈a.toList:=by refine⟨a[i],LO h,?_,Array.getElem_mem_toList h⟩;rw[Lp];exact LO h
theorem bO:(a.extract i).toList=a.toList.drop i:=by rw[NO];simp only[Qh];exact Nw (by simp)
theorem Bn(e:a.toList.drop i=X++Fn):(a.extract i (i+X.length)).toList=X:=by rw[NO];simp[Qh,e]
theorem Same.refl:Same st st:=⟨rfl,rfl,rfl,rfl⟩
theorem Same.trans{a b c:Mn}(h:Same a b)(g:Same b c):Same a c:=⟨g.arr.trans h.arr,g.kind.trans h.kind,g.pend.trans h.pend,g.fail.trans h.fail⟩
theorem mK{O A' B:List L4}(h1:Ord lt (A'++(Fn++O)))(h2:Ord lt (B++O))(h:∀y∈Fn,∀x∈B,lt y x=Md):Ord lt (B++(Fn++O)):=by
 obtain⟨L,j,U⟩:=KS.mp h1;obtain⟨F,p2,G⟩:=KS.mp h2;refine KS.mpr ⟨F,j,λx hx y J=>?_⟩
 rcases Ld.mp J with z|z
 ·exact h y z x hx
 ·exact G x hx y z
structure MH(lt:L4->L4->Bool)(la lb out:List L4)(na nb:Nat):Prop where
 pa:Ord lt (la.take na++out.reverse)
 pb:Ord lt (lb.take nb++out.reverse)
 pm:(la.take na++lb.take nb++out.reverse).Perm (la++lb)
theorem iw(c:Cm prog w A s kd P lt)(h:Ord lt (l.take n))(J:0<n)(F:l[n-1]?=Z y)(hx:lt x y=Md):∀z∈l.take n,lt x z=Md:=by
 intro z G;obtain⟨i,hi,e⟩:=Nm.mp G;have j:(l.take n)[i]?=Z z:=by rw[<-e];exact tv hi
 have B:(l.take n)[n-1]?=Z y:=by rw[NJ ∅];exact F
 rw[Lu]at hi
 by_cases hin:i=n-1
 ·subst hin;rw[B]at j;cases j;exact hx
 ·exact c.le_trans (fG h ∅ j B) hx
theorem dZ(e:l.take n=X++Fn):l.take X.length=X:=by
 have h:X.length<=n:=by have:=congrArg Nb e;simp only[Lu,I7]at this;lia
 have h2:(l.take n).take X.length=X:=by rw[e,List.take_left]
 rw[List.take_take,N7 h]at h2;exact h2
theorem MH.galA(c:Cm prog w A s kd P lt){out:List L4}(m:MH lt la lb out na nb)(e:la.take na=X++Fn)(j:0<nb)(z:lb[nb-1]?=Z y)(h:∀x∈Fn,lt x y=Md):MH lt la lb (out++Fn.reverse) X.length nb:=by
 have p2:=(KS.mp m.pb).1;have h1:Ord lt (X++(Fn++out.reverse)):=by rw[<-Lh,<-e];exact m.pa
 have q:=mK h1 m.pb λx hx=>iw c p2 j z (h x hx);refine⟨by rw[dZ e];simpa using h1,by simpa using q,?_⟩
 rw[dZ e];refine O7.trans ?_ m.pm;rw[e];simp only[List.reverse_append,T9,Lh];refine LY _ ?_;rw[<-Lh,<-Lh];exact Mw _ Of
theorem MH.galB(c:Cm prog w A s kd P lt){out:List L4}(m:MH lt la lb out na nb)(e:lb.take nb=X++Fn)(j:0<na)(z:la[na-1]?=Z y)(h:∀x∈Fn,lt x y=Md):MH lt la lb (out++Fn.reverse) na X.length:=by
 have p2:=(KS.mp m.pa).1;have h1:Ord lt (X++(Fn++out.reverse)):=by rw[<-Lh,<-e];exact m.pb
 have q:=mK h1 m.pa λx hx=>iw c p2 j z (h x hx);refine⟨by simpa using q,by rw[dZ e];simpa using h1,?_⟩
 rw[dZ e];refine O7.trans (P2 ?_) m.pm;rw[e];simp
theorem cX(j:0<n)(h:l[n-1]?=Z x):l.take n=l.take (n-1)++[x]:=by
 obtain⟨k,rfl⟩:∃k,n=k+1:=⟨n-1,∅⟩
 rw[Nat.add_sub_cancel]at h⊢;rw[Up,h];rfl
theorem rS(j:0<n)(h:l[n-1]?=Z x):(l.take (n-1)).length=n-1:=by obtain⟨hi,_⟩:=L7.mp h;rw[Lu];lia
theorem MH.pushA(c:Cm prog w A s kd P lt){out:List L4}(m:MH lt la lb out na nb)(j:0<na)(z:0<nb)(hx:la[na-1]?=Z x)(B:lb[nb-1]?=Z y)(h:lt x y=Md):MH lt la lb (out++[x]) (na-1) nb:=by
 have q:=m.galA c (cX j hx) z B (by simpa using h)
 rw[rS j hx]at q;simpa using q
theorem MH.pushB(c:Cm prog w A s kd P lt){out:List L4}(m:MH lt la lb out na nb)(B:0<na)(j:0<nb)(hx:la[na-1]?=Z x)(z:lb[nb-1]?=Z y)(h:lt y x=Md):MH lt la lb (out++[y]) na (nb-1):=by
 have q:=m.galB c (cX j z) B hx (by simpa using h)
 rw[rS j z]at q;simpa using q
theorem MH.fin{out:List L4}(m:MH lt la lb out na nb)(h:na=0∨nb=0):Res lt la lb (la.take na++lb.take nb++out.reverse):=by
 refine⟨m.pm,?_⟩
 rcases h with rfl|rfl
 ·simpa using m.pb
 ·simpa using m.pa
theorem MH.finB{out:List L4}(m:MH lt la lb out na nb)(h:∀x∈lb.take nb,∀y∈la,lt y x=Md):Res lt la lb (lb.take nb++la.take na++out.reverse):=by
 refine⟨O7.trans (Mw _ Of) m.pm,?_⟩;obtain⟨j,G,B⟩:=KS.mp m.pb;rw[Lh];refine KS.mpr ⟨j,m.pa,λx hx y F=>?_⟩
 rcases Ld.mp F with z|z
 ·exact h x hx y (Ou z)
 ·exact B x hx y z
theorem MH.size{out:List L4}(m:MH lt la lb out na nb)(j:na<=la.length)(z:nb<=lb.length):out.length+na+nb=la.length+lb.length:=by have:=m.pm.length_eq;simp only[I7,Lu,Tt]at this;lia
theorem eM:a.toList.take a.size=a.toList:=Nw (by simp)
theorem bq:(a.extract 0 i).toList=a.toList.take i:=by rw[NO];simp[Qh]
theorem yV(e:a.toList.take n=X++Fn):(a.extract X.length n).toList=Fn:=by rw[NO];simp only[Qh];rw[<-List.drop_take,e,List.drop_left]
theorem yW:∀(m old L R:List L4) (a:Array L4),a.toList=L++old++R->m.length=old.length->(Qu (λa x=>a.setIfInBounds (L.length+x.snd) x.fst) a m.zipIdx).toList=L++m++R:=by
 have g:∀(m old L R:List L4) (k:Nat) (a:Array L4),a.toList=L++old++R->m.length=old.length->∀b:Nat,b+k=L.length->(Qu (λa x=>a.setIfInBounds (b+x.snd) x.fst) a (m.zipIdx k)).toList=L++m++R:=by
  intro m
  induction m with
  |nil=>intro old L R k a e h b j;have:old=[]:=LU.mp h.symm;subst this;simpa using e
  |cons x m ih=>
   intro old L R k a e h b j
   cases old with
   |nil=>simp at h
   |cons y old=>
    rw[S2,SD];have e2:(a.setIfInBounds (b+k) x).toList=(L++[x])++old++R:=by rw[Rm,e,j];simp
    have:=ih old (L++[x]) R (k+1) _ e2 (by simpa using h) b (by simp;lia)
    rw[this];simp
 exactλm old L R a e h=>g m old L R 0 a e h L.length ∅
theorem ae{σ α:Type}{p:Prop}[Decidable p]{j z:StateT σ Sem α}{st:σ}{Q:α->σ->Prop}(h1:p->wpS M A E s j Q st)(h2:¬p->wpS M A E s z Q st):wpS M A E s (if p then j else z) Q st:=by
 split
 ·next h=>exact h1 h
 ·next h=>exact h2 h
theorem ML.cut{out:Array L4}(m:ML lt la lb (out.toList++X) i j)(e:a.toList.drop n=X++Fn):ML lt la lb (out++a.extract n (n+X.length)).toList i j:=by rw[Lg,Bn e];exact m
theorem MH.cut{out:Array L4}(m:MH lt la lb (out.toList++Fn.reverse) i j)(e:a.toList.take n=X++Fn):MH lt la lb (out++(a.extract X.length n).reverse).toList i j:=by rw[Lg,LW,yV e];exact m
theorem w9{σ α:Type}{m:StateT σ Sem α}{st:σ}{Q:α->σ->Prop}{P:σ->Prop}(j:P st)(h:∀st',P st'->wpS M A E s m Q st'):wpS M A E s m Q st:=h st j
theorem Ab{σ α:Type}{m:StateT σ Sem α}{st:σ}{Q:α->σ->Prop}(h:∀Q':α->σ->Prop,(∀a st',Q a st'->Q' a st')->wpS M A E s m Q' st):wpS M A E s m Q st:=h Q λ_ _ h=>h
theorem Ac(h:bey lt Md key x=F2):lt key x=Md:=by simpa[bey]using h
theorem wa(h:bey lt Md key x=Md):lt key x=F2:=by simpa[bey]using h
theorem Ad(h:bey lt F2 key x=F2):lt x key=F2:=by simpa[bey]using h
theorem wb(h:bey lt F2 key x=Md):lt x key=Md:=by simpa[bey]using h
theorem pZ(e:l.drop i=X++Fn)(h:l[i+X.length]?=Z x):x∈Fn:=by rw[<-dX e,dY h];simp
theorem q8(e:l.take n=X++Fn)(h0:0<X.length)(h:l[X.length-1]?=Z x):x∈X:=by have:=cX h0 h;rw[dZ e]at this;rw[this];simp
theorem q9(e:a.toList.drop i=X++Fn):X.length<=a.size-i:=by have:=congrArg Nb e;simp at this;lia
theorem mL(e:a.toList.take n=X++Fn)(h:n<=a.size):X.length+Fn.length=n:=by have:=congrArg Nb e;simp at this;lia
theorem gf(h:n<=a.size):n=(a.toList.take n).length:=by simp;lia
theorem ML.finR{out:Array L4}(m:ML lt a.toList b.toList out.toList ia ib)(h:b.size<=ib):Res lt a.toList b.toList (out++a.extract ia++b.extract ib).toList:=by
 have:=m.fin (by simpa using h)
 simpa only[Lg,bO]using this
theorem ML.finS{out:Array L4}(m:ML lt a.toList b.toList out.toList ia ib)(h:a.size<=ia):Res lt a.toList b.toList (out++a.extract ia++b.extract ib).toList:=by
 have:=m.finE (by simpa using h)
 simpa only[Lg,bO]using this
theorem ML.finL{out:Array L4}(m:ML lt a.toList b.toList out.toList ia ib)(h:∀x∈b.toList,∀y∈a.toList.drop ia,lt y x=Md):Res lt a.toList b.toList (out++b.extract ib++a.extract ia).toList:=by have:=m.finA h;simpa only[Lg,bO]using this
theorem MH.finR{out:Array L4}(m:MH lt a.toList b.toList out.toList na nb)(h:∀x∈b.toList.take nb,∀y∈a.toList,lt y x=Md):Res lt a.toList b.toList (b.extract 0 nb++a.extract 0 na++out.reverse).toList:=by have:=m.finB h;simpa only[Lg,LW,bq]using this
theorem MH.finL{out:Array L4}(m:MH lt a.toList b.toList out.toList na nb)(h:na=0∨nb=0):Res lt a.toList b.toList (a.extract 0 na++b.extract 0 nb++out.reverse).toList:=by have:=m.fin h;simpa only[Lg,LW,bq]using this
theorem Ff(c:Cm prog w A s kd P lt):
 ∃(g:DA) (lo hi:DB),(io prog w A E s kd P lt g/\(io prog w A E s kd P lt g->iq prog w A E s kd P lt lo)/\(io prog w A E s kd P lt g->iq prog w A E s kd P lt hi))/\(io prog w A E s kd P lt g->iq prog w A E s kd P lt lo->iq prog w A E s kd P lt hi->
  ∀(i sa na pa sb nb pb:Nat) (L r1 r2 R:List L4) (st:Mn) (Q:Bool->Mn->Prop),Na st=kd->Nv st=Y->(Lf st)[i]?=Z (sa,na,pa)->(Lf st)[i+1]?=Z (sb,nb,pb)->
   (LF st).toList=L++(r1++r2)++R->sa=L.length->na=r1.length->sb=L.length+r1.length->nb=r2.length->r1≠[]->r2≠[]->(∀x∈r1,P x)->(∀x∈r2,P x)->Ord lt r1->Ord lt r2->
   (∀m st',(LF st').toList=L++m++R->m.Perm (r1++r2)->Ord lt m->Na st'=kd->Nv st'=Y->Lf st'=((Lf st).setIfInBounds i (sa,na+nb,pa)).eraseIdxIfInBounds (i+1)->Q F2 st')->
   wpS (Lk prog w) A E s (Vy i) Q st):=by
 apply Uq;apply Uq;apply Uq;apply Pa
 rotate_left
 ·intro hg Kw Kx i sa na pa sb nb pb L r1 r2 R st Q hk hf h1 h2 fv JV Jm JW JB Kz KA K8 K9 o1 o2 q;unfold Vy;refine J4 (OD ?_);rw[h1,h2];dsimp only;refine J4 (Bm ?_);obtain⟨y0,t2,rfl⟩:∃y t,r2=y::t:=by cases r2 with|nil=>exact absurd rfl KA|cons y t=>exact⟨y,t,rfl⟩
  have hz:(LF st)[sb]?=Z y0:=by rw[<-Lp,fv,JW];simp
  refine J4 (aF hz ?_);refine J4 (hg Md y0 (LF st) L r1 (y0::t2++R) sa na 0 _ _ hk (K9 _ (by simp)) (by rw[fv];simp) JV Jm K8 (by rw[Jm];exact Mk.mpr Kz) o1 λX Fn e hX hY=>?_)
  dsimp only;have lX:∀x∈X,lt y0 x=Md:=λx hx=>by have:=hX x hx;simpa[bey]using this
  have lY:∀x∈Fn,lt x y0=Md:=λx hx=>c.asym _ _ (by have:=hY x hx;simpa[bey]using this)
  have hlen:na-X.length=Fn.length:=by rw[Jm,e];simp
  subst e;obtain⟨oX,oY,oXY⟩:=KS.mp o1;have oy:=PX.mp o2;have JX:∀x∈X,∀z∈y0::t2,lt z x=Md:=λx hx z hz=>by
   rcases KZ.mp hz with h|h
   ·rw[h];exact lX x hx
   ·exact c.le_trans (lX x hx) (oy.1 z h)
  refine ae (λh=>?_) (λh=>?_)
  ·have JY:Fn=[]:=LU.mp (by rw[<-hlen];simpa using h)
   subst JY;refine aa (q (X++(y0::t2)) _ (by simpa using fv) (by simp) ?_ hk hf rfl)
   exact KS.mpr ⟨oX,o2,JX⟩
  ·have JY:0<Fn.length:=by
    have:na-X.length≠0:=by simpa using h
    lia
   obtain⟨Y0,xl,rfl⟩:∃Y0 xl,Fn=Y0++[xl]:=⟨Fn.dropLast,Fn.getLast (by intro z;rw[z]at JY;simp at JY),(Ng _).symm⟩
   have KB:(LF st)[sa+X.length+(na-X.length)-1]?=Z xl:=by
    rw[<-Lp,fv,hlen,JV];simp only[Lh,I7,Mp];rw[D0 ∅,D0 ∅,D0 ∅]
    rw[show L.length+X.length+(Y0.length+1)-1-L.length-X.length-Y0.length=0 by lia];rfl
   refine J4 (aF KB ?_);refine J4 (hg F2 xl (LF st) (L++(X++(Y0++[xl]))) (y0::t2) R sb nb (nb-1) _ _ hk (K8 _ (by simp)) (by rw[fv];simp) (by rw[JW];simp) JB K9 (by rw[JB];simp) o2 λX2 Y2 e2 Jn Jo=>?_)
   dsimp only;have KD:∀x∈X2,lt xl x=Md:=λx hx=>c.asym _ _ (by have:=Jn x hx;simpa[bey]using this)
   have Ki:∀x∈Y2,lt x xl=Md:=λx hx=>by have:=Jo x hx;simpa[bey]using this
   have KF:Ord lt (X2++Y2):=by rw[<-e2];exact o2
   obtain⟨KG,KH,Kj⟩:=KS.mp KF;obtain⟨KP,_,oYl⟩:=KS.mp oY;have lYY:∀x∈Y0++[xl],∀z∈Y2,lt z x=Md:=λx hx z hz=>by
    rcases Ld.mp hx with h|h
    ·exact c.le_trans (oYl x h xl (by simp)) (Ki z hz)
    ·simp at h;subst h;exact Ki z hz
   refine ae (λh=>?_) (λh=>?_)
   ·have Jg:X2=[]:=LU.mp (by simpa using h)
    subst Jg;have e2:y0::t2=Y2:=by simpa using e2
    refine aa (q (X++(Y0++[xl])++(y0::t2)) _ (by simpa using fv) (Ta _) ?_ hk hf rfl)
    refine KS.mpr ⟨o1,o2,λx hx z hz=>?_⟩
    rcases Ld.mp hx with g|g
    ·exact JX x g z hz
    ·exact lYY x g z (by rw[<-e2];exact hz)
   ·have Jg:X2≠[]:=λz=>h (by rw[z];rfl)
    have hx:((LF st).extract (sa+X.length) sb).toList=Y0++[xl]:=by
     rw[NO,fv,JV,JW];simp only[Qh];have e1:(L++(X++(Y0++[xl])++y0::t2)++R).drop (L.length+X.length)=(Y0++[xl])++(y0::t2++R):=by rw[<-Rl];simp
     rw[e1,show L.length+(X++(Y0++[xl])).length-(L.length+X.length)=(Y0++[xl]).length by simp only[I7];lia,List.take_left]
    have hy:((LF st).extract sb (sb+X2.length)).toList=X2:=by
     rw[NO,fv,JW];simp only[Qh];have e1:(L++(X++(Y0++[xl])++y0::t2)++R).drop (L.length+(X++(Y0++[xl])).length)=(y0::t2)++R:=by rw[<-Rl];simp
     rw[e1,e2];simp
    have G:∀(r:Array L4) (IJ:Mn),r.toList.Perm ((Y0++[xl])++X2)->Ord lt r.toList->Same (PyProof.Rows.SortSt.mk' (Na st) (LF st) (((Lf st).setIfInBounds i (sa,na+nb,pa)).eraseIdxIfInBounds (i+1)) (gallopOf st) (Nv st)) IJ->∀IG:Mn,LF IG=Qu (λa x=>a.setIfInBounds (sa+X.length+x.snd) x.fst) (LF IJ) r.toList.zipIdx->Na IG=Na IJ->Nv IG=Nv IJ->Lf IG=Lf IJ->Q (Nv IG).isNone IG:=by
     intro r IJ hp ho hs IG g1 g2 g3 g4;have Kk:Nv IG=Y:=g3.trans (hs.fail.trans hf);rw[Kk];refine q (X++r.toList++Y2) IG ?_ ?_ ?_ (g2.trans (hs.kind.trans hk)) Kk (g4.trans hs.pend)
     ·rw[g1,hs.arr];have e3:(LF st).toList=(L++X)++((Y0++[xl])++X2)++(Y2++R):=by
       rw[fv,e2];simp
      rw[show sa+X.length=(L++X).length by rw[JV];simp]
      rw[yW _ _ _ _ _ e3 (hp.length_eq)];simp
     ·rw[e2];refine O7.trans (Mw _ (LY _ hp)) ?_;simp
     ·refine KS.mpr ⟨KS.mpr ⟨oX,ho,λx hx z hz=>?_⟩,KH,λx hx z hz=>?_⟩
      ·rcases Ld.mp (hp.mem_iff.mp hz)with g|g
       ·exact oXY x hx z g
       ·exact JX x hx z (by rw[e2];exact LD _ g)
      ·rcases Ld.mp hx with g|g
       ·exact JX x g z (by rw[e2];exact Lo _ hz)
       ·rcases Ld.mp (hp.mem_iff.mp g)with g|g
        ·exact lYY x g z hz
        ·exact Kj x g z hz
    have K6:∀x y,((LF st).extract (sa+X.length) sb)[0]?=Z x->((LF st).extract sb (sb+X2.length))[0]?=Z y->lt x y=Md:=by
     intro x y J8 JC;rw[<-Lp,hx]at J8;rw[<-Lp,hy]at JC;have JD:=Lj J8;have:y=y0:=by
      cases X2 with
      |nil=>exact absurd rfl Jg
      |cons z t=>simp at e2 JC;rw[<-JC,<-e2.1]
     subst this;exact lY x JD
    have preL:∀x y,((LF st).extract (sa+X.length) sb)[((LF st).extract (sa+X.length) sb).size-1]?=Z x->((LF st).extract sb (sb+X2.length))[((LF st).extract sb (sb+X2.length)).size-1]?=Z y->lt x y=Md:=by
     intro x y J8 JC;rw[<-Lp,<-Ly,hx]at J8;rw[<-Lp,<-Ly,hy]at JC;have J9:=Lj JC;have:x=xl:=by simp at J8;exact J8.symm
     subst this;exact KD y J9
    have Kl:0<((LF st).extract (sa+X.length) sb).size:=by rw[<-Ly,hx];simp
    have Km:0<((LF st).extract sb (sb+X2.length)).size:=by rw[<-Ly,hy];exact Mk.mpr Jg
    have Kn:∀x∈((LF st).extract (sa+X.length) sb).toList,P x:=by rw[hx];exactλx hx=>K8 x (Lo _ hx)
    have Ko:∀x∈((LF st).extract sb (sb+X2.length)).toList,P x:=by rw[hy];exactλx hx=>K9 x (by rw[e2];exact LD _ hx)
    have Kq:Ord lt ((LF st).extract (sa+X.length) sb).toList:=by rw[hx];exact oY
    have Kr:Ord lt ((LF st).extract sb (sb+X2.length)).toList:=by rw[hy];exact KG
    refine ae (λh=>?_) (λh=>?_)
    ·refine J4 (Kw _ _ _ _ hk Kn Ko Kl Km Kq Kr K6 preL λr IJ hp ho hs=>?_);rw[hx,hy]at hp;refine J4 (Nx ?_);refine J4 (OD ?_);exact aa (G r IJ hp ho hs _ rfl rfl rfl rfl)
    ·refine J4 (Kx _ _ _ _ hk Kn Ko Kl Km Kq Kr K6 preL λr IJ hp ho hs=>?_);rw[hx,hy]at hp;refine J4 (Nx ?_);refine J4 (OD ?_);exact aa (G r IJ hp ho hs _ rfl rfl rfl rfl)
 apply Pa
 ·intro left key arr L xs R base n hint st Q hk Jh fv Ka hn hP hh hs q;subst Ka hn;have at_:∀i,i<xs.length->∃x,xs[i]?=Z x/\arr[L.length+i]?=Z x/\P x:=by
   intro i hi;refine⟨xs[i],tv hi,?_,hP _ (Pq _)⟩;rw[<-Lp,fv,Lh,D0 ∅,Lb ∅]
   rw[show L.length+i-L.length=i by lia]
   exact tv hi
  obtain⟨x0,J8,JE,KI⟩:=at_ hint hh;refine J4 (gU c hk Jh KI JE ?_)
  try dsimp only
  refine ae (λhb=>?_) (λhb=>?_)
  ·skip
   refine J4 (ay (Q:=λr st'=>st'=st/\∃la ofs,r=(Y,la,ofs)/\hint+la<xs.length/\la<ofs/\(∀j x,j<hint+la+1->xs[j]?=Z x->bey lt left key x=F2)/\(xs.length<=hint+ofs∨∀j x,hint+ofs<=j->xs[j]?=Z x->bey lt left key x=Md))
    (Mg (λi r st'=>st'=st/\∃la ofs,r=(Y,la,ofs)/\hint+la<xs.length/\la<ofs/\i+1<=ofs/\(∀j x,j<hint+la+1->xs[j]?=Z x->bey lt left key x=F2)) ?_ ?_ ⟨rfl,0,1,rfl,hh,∅,∅,ir c hs J8 hb⟩) ?_)
   ·rintro i r st' _ hi ⟨rfl,la,ofs,rfl,h1,h2,h3,h4⟩
    try dsimp only
    refine ae (λJp=>?_) (λJp=>?_)
    ·exact aa ⟨rfl,la,ofs,rfl,h1,h2,h4,.inl ∅⟩
    ·skip
     obtain⟨x1,J1,Jq,Jr⟩:=at_ (hint+ofs) ∅
     refine J4 (gU c hk Jh Jr Jq ?_)
     try dsimp only
     refine ae (λhf=>?_) (λhf=>?_)
     ·exact aa ⟨rfl,la,ofs,rfl,h1,h2,h4,.inr (iu c hs J1 (by simpa using hf))⟩
     ·exact aa ⟨rfl,ofs,2*ofs+1,rfl,∅,∅,∅,ir c hs J1 (by simpa using hf)⟩
   ·rintro r st' ⟨rfl,la,ofs,rfl,h1,h2,h3,h4⟩;exact⟨rfl,la,ofs,rfl,h1,h2,h4,.inl ∅⟩
   ·rintro r st' ⟨rfl,la,ofs,rfl,h1,h2,h3,h4⟩
    try dsimp only
    have hG:Gal lt left key xs (hint+la+1) (hint+min ofs (xs.length-hint)):=by
     refine⟨∅,∅,h3,λi x hi hx=>?_⟩
     have KQ:i<xs.length:=(L7.mp hx).1
     rcases h4 with h4|h4
     ·lia
     ·exact h4 i x ∅ hx
    generalize hint+la+1=lo at hG;generalize hint+min ofs (xs.length-hint)=hi at hG;refine J4 (ay (Q:=λr st''=>st''=st'/\∃k,r=(Y,k,k)/\Gal lt left key xs k k)
     (Mg (λi r st''=>st''=st'/\∃lo hi,r=(Y,lo,hi)/\Gal lt left key xs lo hi/\hi-lo+i<=xs.length) ?_ ?_ ⟨rfl,lo,hi,rfl,hG,by have:=hG.len;lia⟩) ?_)
    ·rintro i r st'' _ hi ⟨rfl,lo,hi,rfl,hG,hm⟩
     try dsimp only
     have hl:=hG.le;have JF:=hG.len;refine ae (λJp=>?_) (λJp=>?_)
     ·exact aa ⟨rfl,hi,by rw[show lo=hi by lia],by rw[show lo=hi by lia]at hG;exact hG⟩
     ·skip
      obtain⟨x1,J1,Jq,Jr⟩:=at_ (lo+(hi-lo) / 2) ∅
      refine J4 (gU c hk Jh Jr Jq ?_)
      try dsimp only
      refine ae (λhf=>?_) (λhf=>?_)
      ·exact aa ⟨rfl,_,_,rfl,⟨∅,JF,ir c hs J1 hf,hG.dn⟩,∅⟩
      ·exact aa ⟨rfl,_,_,rfl,⟨∅,∅,hG.up,iu c hs J1 (by simpa using hf)⟩,∅⟩
    ·rintro r st'' ⟨rfl,lo,hi,rfl,hG,hm⟩;have hl:=hG.le;exact⟨rfl,hi,by rw[show lo=hi by lia],by rw[show lo=hi by lia]at hG;exact hG⟩
    ·rintro r st'' ⟨rfl,k,rfl,hG⟩;obtain⟨X,Fn,e,hl,hX,hY⟩:=hG.out;subst hl;exact aa (q X Fn e hX hY)
  ·skip
   refine J4 (ay (Q:=λr st'=>st'=st/\∃la ofs,r=(Y,la,ofs)/\la<=hint/\la<ofs/\(∀j x,hint-la<=j->xs[j]?=Z x->bey lt left key x=Md)/\(hint<ofs∨∀j x,j<hint-ofs+1->xs[j]?=Z x->bey lt left key x=F2))
    (Mg (λi r st'=>st'=st/\∃la ofs,r=(Y,la,ofs)/\la<=hint/\la<ofs/\i+1<=ofs/\(∀j x,hint-la<=j->xs[j]?=Z x->bey lt left key x=Md)) ?_ ?_ ⟨rfl,0,1,rfl,∅,∅,∅,iu c hs J8 (by simpa using hb)⟩) ?_)
   ·rintro i r st' _ hi ⟨rfl,la,ofs,rfl,h1,h2,h3,h4⟩
    try dsimp only
    refine ae (λJp=>?_) (λJp=>?_)
    ·exact aa ⟨rfl,la,ofs,rfl,h1,h2,h4,.inl ∅⟩
    ·skip
     obtain⟨x1,J1,Jq,Jr⟩:=at_ (hint-ofs) ∅
     refine J4 (gU c hk Jh Jr Jq ?_)
     try dsimp only
     refine ae (λhf=>?_) (λhf=>?_)
     ·exact aa ⟨rfl,la,ofs,rfl,h1,h2,h4,.inr (ir c hs J1 hf)⟩
     ·exact aa ⟨rfl,ofs,2*ofs+1,rfl,∅,∅,∅,iu c hs J1 (by simpa using hf)⟩
   ·rintro r st' ⟨rfl,la,ofs,rfl,h1,h2,h3,h4⟩;exact⟨rfl,la,ofs,rfl,h1,h2,h4,.inl ∅⟩
   ·rintro r st' ⟨rfl,la,ofs,rfl,h1,h2,h3,h4⟩
    try dsimp only
    have hG:Gal lt left key xs (hint+1-min ofs (hint+1)) (hint-la):=by
     refine⟨∅,∅,λi x hi hx=>?_,h3⟩
     rcases h4 with h4|h4
     ·lia
     ·exact h4 i x ∅ hx
    generalize hint+1-min ofs (hint+1)=lo at hG;generalize hint-la=hi at hG;refine J4 (ay (Q:=λr st''=>st''=st'/\∃k,r=(Y,k,k)/\Gal lt left key xs k k)
     (Mg (λi r st''=>st''=st'/\∃lo hi,r=(Y,lo,hi)/\Gal lt left key xs lo hi/\hi-lo+i<=xs.length) ?_ ?_ ⟨rfl,lo,hi,rfl,hG,by have:=hG.len;lia⟩) ?_)
    ·rintro i r st'' _ hi ⟨rfl,lo,hi,rfl,hG,hm⟩
     try dsimp only
     have hl:=hG.le;have JF:=hG.len;refine ae (λJp=>?_) (λJp=>?_)
     ·exact aa ⟨rfl,hi,by rw[show lo=hi by lia],by rw[show lo=hi by lia]at hG;exact hG⟩
     ·skip
      obtain⟨x1,J1,Jq,Jr⟩:=at_ (lo+(hi-lo) / 2) ∅
      refine J4 (gU c hk Jh Jr Jq ?_)
      try dsimp only
      refine ae (λhf=>?_) (λhf=>?_)
      ·exact aa ⟨rfl,_,_,rfl,⟨∅,JF,ir c hs J1 hf,hG.dn⟩,∅⟩
      ·exact aa ⟨rfl,_,_,rfl,⟨∅,∅,hG.up,iu c hs J1 (by simpa using hf)⟩,∅⟩
    ·rintro r st'' ⟨rfl,lo,hi,rfl,hG,hm⟩;have hl:=hG.le;exact⟨rfl,hi,by rw[show lo=hi by lia],by rw[show lo=hi by lia]at hG;exact hG⟩
    ·rintro r st'' ⟨rfl,k,rfl,hG⟩;obtain⟨X,Fn,e,hl,hX,hY⟩:=hG.out;subst hl;exact aa (q X Fn e hX hY)
 apply Pa
 ·intro hg a b st Q hk Js Jt JZ K0 sa sb JG JH q;refine J4 (cD ?_);obtain⟨b0,K1,JI,KK⟩:=aE K0;obtain⟨a0,JE,Jz,KL⟩:=aE JZ;refine J4 (aF K1 ?_);have m0:ML lt a.toList b.toList [] 0 0:=⟨sa,sb,by simp⟩
  have m1:ML lt a.toList b.toList [b0] 0 1:=m0.pushB c Jz JI (JG a0 b0 JE K1);have Ja:∀x∈b.toList,∀(i:Nat),i+1=a.size->∀y∈a.toList.drop i,lt y x=Md:=by
   intro x hx i hi y hy;obtain⟨aL,K5,JJ,_⟩:=aE (a:=a) (i:=i) ∅
   obtain⟨bL,Kb,JA,_⟩:=aE (a:=b) (i:=b.size-1) ∅
   have e:a.toList.drop i=[aL]:=by rw[dY JJ,NX (by simp;lia)];rfl
   rw[e]at hy;simp at hy;subst hy;have hl:=JH y bL (by rw[show a.size-1=i by lia];exact K5) Kb
   obtain⟨j,hj,e⟩:=Nm.mp hx;have Ju:b.toList[j]?=Z x:=by rw[<-e];exact tv hj
   by_cases hjb:j=b.size-1
   ·subst hjb;rw[JA]at Ju;cases Ju;exact hl
   ·have:=fG sb (show j<b.size-1 by simp at hj;lia) Ju JA
    exact c.le_trans this hl
  try dsimp -zeta -zetaHave -zetaUnused only
  refine ae (λh=>?_) (λh=>?_)
  ·skip
   have h:1=b.size:=by simpa using h
   refine aa ?_;have r:=m1.fin (by simp;lia)
   exact q _ _ (by simpa only[Lg,Li,LI,bO]using r.1) (by simpa only[Lg,Li,LI,bO]using r.2) Same.refl
  ·skip
   refine ae (λh2=>?_) (λh2=>?_)
   ·skip
    have h2:0+1=a.size:=by simpa using h2
    refine aa ?_;have r:=m1.finA (Ja · · 0 h2);exact q _ _ (by simpa only[Lg,Li,LI,bO]using r.1) (by simpa only[Lg,Li,LI,bO]using r.2) Same.refl
   ·skip
    have h:1≠b.size:=by simpa using h
    have h2:0+1≠a.size:=by simpa using h2
    refine J4 (OD ?_)
    try dsimp -zeta -zetaHave -zetaUnused only
    refine J4 (ay (Q:=λr st'=>Same st st'/\∃res t,r=(Z res,t)/\Res lt a.toList b.toList res.toList)
     (Mg (λi r st'=>Same st st'/\∃out ia ib mg,r=(Y,out,ia,ib,mg)/\ML lt a.toList b.toList out.toList ia ib/\ia+1<a.size/\ib<b.size/\i+1<=out.size) ?_ ?_ ⟨Same.refl,_,_,_,_,rfl,m1,∅,∅,by simp⟩) ?_)
    ·rintro i r J2 _ hi ⟨sm,out,ia,ib,mg,rfl,m,Kc,Kd,hsz⟩
     try dsimp -zeta -zetaHave -zetaUnused only
     refine J4 (ay (Q:=λr st'=>st'=J2/\((∃B IU IY ac bc,r=(Y,B,IU,IY,ac,bc)/\ML lt a.toList b.toList B.toList IU IY/\IU+1<a.size/\IY<b.size/\i+2<=B.size)∨∃res t,r=(Z res,t)/\Res lt a.toList b.toList res.toList))
      (Mg (λj r st'=>st'=J2/\∃B IU IY ac bc,r=(Y,B,IU,IY,ac,bc)/\ML lt a.toList b.toList B.toList IU IY/\IU+1<a.size/\IY<b.size/\i+1+j<=B.size) ?_ ?_ ⟨rfl,_,_,_,_,_,rfl,m,Kc,Kd,∅⟩) ?_)
     ·rintro j r IJ _ hj ⟨rfl,B,IU,IY,ac,bc,rfl,m2,h1,h2,h3⟩
      try dsimp only
      obtain⟨y,hy,J3,J9⟩:=aE (a:=b) h2;obtain⟨x,hx,JK,JD⟩:=aE (a:=a) (i:=IU) ∅
      refine J4 (aF hy (J4 (aF hx (J4 (jS c (sm.kind.trans hk) (Jt _ J9) (Js _ JD) ?_)))))
      try dsimp only
      refine ae (λhl=>?_) (λhl=>?_)
      ·skip
       refine J4 (aF hy ?_)
       try dsimp only
       have m3:=m2.pushB c JK J3 (c.asym _ _ hl);refine ae (λh=>?_) (λh=>?_)
       ·skip
        have h:IY+1=b.size:=by simpa using h
        exact aa ⟨rfl,.inr ⟨_,_,rfl,by simpa only[Lg,Li,LI,bO]using m3.fin (by simp;lia)⟩⟩
       ·skip
        have h:IY+1≠b.size:=by simpa using h
        refine ae (λ_=>?_) (λ_=>?_)
        ·exact aa ⟨rfl,.inl ⟨_,_,_,_,_,rfl,by simpa only[Lg,Li]using m3,h1,∅,by simp;lia⟩⟩
        ·exact aa ⟨rfl,_,_,_,_,_,rfl,by simpa only[Lg,Li]using m3,h1,∅,by simp;lia⟩
      ·skip
       refine J4 (aF hx ?_)
       try dsimp only
       have m3:=m2.pushA c JK J3 (by simpa using hl)
       refine ae (λh=>?_) (λh=>?_)
       ·skip
        have h:IU+1+1=a.size:=by simpa using h
        exact aa ⟨rfl,.inr ⟨_,_,rfl,by simpa only[Lg,Li,LI,bO]using m3.finA (Ja · · _ h)⟩⟩
       ·skip
        have h:IU+1+1≠a.size:=by simpa using h
        refine ae (λ_=>?_) (λ_=>?_)
        ·exact aa ⟨rfl,.inl ⟨_,_,_,_,_,rfl,by simpa only[Lg,Li]using m3,∅,h2,by simp;lia⟩⟩
        ·exact aa ⟨rfl,_,_,_,_,_,rfl,by simpa only[Lg,Li]using m3,∅,h2,by simp;lia⟩
     ·rintro r IJ ⟨rfl,B,IU,IY,ac,bc,rfl,m2,h1,h2,h3⟩;exact⟨rfl,.inl ⟨_,_,_,_,_,rfl,m2,h1,h2,∅⟩⟩
     ·rintro r IJ ⟨rfl,⟨B,IU,IY,ac,bc,rfl,m2,h1,h2,h3⟩|⟨res,t,rfl,J⟩⟩
      ·dsimp -zeta -zetaHave -zetaUnused only;refine J4 (cD ?_);refine J4 (ay (Q:=fun r st'=>Same st st'/\((∃F IM IH IV ac bc,r=(Y,F,IM,IH,IV,ac,bc)/\ML lt a.toList b.toList F.toList IM IH/\IM+1<a.size/\IH<b.size/\i+2<=F.size)∨∃res t,r=(Z res,t)/\Res lt a.toList b.toList res.toList))
        (Mg (λj r st'=>Same st st'/\∃F IM IH IV ac bc,r=(Y,F,IM,IH,IV,ac,bc)/\ML lt a.toList b.toList F.toList IM IH/\IM+1<a.size/\IH<b.size/\i+2<=F.size) ?_ ?_ ⟨sm,_,_,_,_,_,_,rfl,m2,h1,h2,h3⟩) ?_)
       ·rintro j r IG _ hj ⟨IW,F,IM,IH,IV,JL,JM,rfl,m3,h1,h2,h5⟩;obtain⟨y,hy,J3,J9⟩:=aE (a:=b) h2;refine Ab λQQ hQ=>?_;have G:∀(st':Mn) (res:Array L4) t,Same st st'->Res lt a.toList b.toList res.toList->QQ (.done (Z res,t)) st':=λst' res t hs hr=>hQ _ _ ⟨hs,.inr ⟨_,_,rfl,hr⟩⟩;have Ke:∀(st':Mn) (out:Array L4) ia ib mg ac bc,Same st st'->ML lt a.toList b.toList out.toList ia ib->ia+1<a.size->ib<b.size->i+2<=out.size->QQ (.done (Y,out,ia,ib,mg,ac,bc)) st'/\QQ (.yield (Y,out,ia,ib,mg,ac,bc)) st':=λst' out ia ib mg ac bc hs p1 p2 p3 p4=>⟨hQ _ _ ⟨hs,.inl ⟨_,_,_,_,_,_,rfl,p1,p2,p3,p4⟩⟩,hQ _ _ ⟨hs,_,_,_,_,_,_,rfl,p1,p2,p3,p4⟩⟩;clear hQ hj
        extract_lets -underBinder s0 vout s1 via s2 vib s3 vmg s4 vac vbc jp vmx
        have JN:∀mg,wpS (Lk prog w) A E s (jp () mg) QQ IG:=by
         intro mg;dsimp -zeta -zetaHave -zetaUnused only[jp,s0,vout,s1,via,s2,vib,s3,vmg,s4,vac,vbc];clear vmx jp vbc vac s4 vmg s3 vib s2 via s1 vout s0;refine J4 (Nx ?_);refine w9 (P:=Same st) (IW.trans ⟨rfl,rfl,rfl,rfl⟩) λJv IN=>?_;have JO:=IN.kind.trans hk;refine J4 (aF hy ?_);refine J4 (hg Md y a (a.toList.take IM) (a.toList.drop IM) [] _ _ _ _ _ JO (Jt _ J9) (by simp) (gf ∅) (by simp) (λx hx=>Js x (Ot hx)) ∅ ((KS.mp m3.pa).2.1) λX Fn e hX hY=>?_)
         dsimp -zeta -zetaHave -zetaUnused only;have m4:=m3.galA c e J3 λx hx=>Ac (hX x hx);have IO:∀x4,a.toList[IM+X.length]?=Z x4->lt x4 y=Md:=λx4 Jb=>c.asym _ _ (wa (hY x4 (pZ e Jb)));have Jw:=q9 e
         extract_lets -underBinder +onlyGivenNames vac Jc
         clear_value vac
         have Ji:∀(O:Array L4) (J6:Nat),ML lt a.toList b.toList O.toList J6 IH->(∀x4,a.toList[J6]?=Z x4->lt x4 y=Md)->J6+1<a.size->i+2<=O.size->wpS (Lk prog w) A E s (Jc () O J6) QQ Jv:=by
          intro O J6 Kf Jd KM JP;dsimp -zeta -zetaHave -zetaUnused only[Jc];clear Jc Jw IO m4 hX hY;obtain⟨x4,Jb,IS,JQ⟩:=aE (a:=a) (i:=J6) ∅
          refine J4 (aF hy ?_);have m5:=Kf.pushB c IS J3 (Jd x4 IS);rw[<-Li]at m5;have IT:i+2<=(O.push y).size:=by rw[QS];lia
          try dsimp -zeta -zetaHave -zetaUnused only
          extract_lets -underBinder +onlyGivenNames vo5 vi5
          dsimp -zeta -zetaHave -zetaUnused only[vo5];clear vo5;have e5:vi5=IH+1:=rfl
          clear_value vi5
          subst e5
          revert m5 IT
          generalize O.push y=out5;intro m5 IT;refine ae (λh=>?_) (λh=>?_)
          ·exact aa (G _ _ _ IN (m5.finR (by have h:=Oi h;lia)))
          ·have h:IH+1≠b.size:=by simpa using h
           refine J4 (aF Jb ?_);refine J4 (hg F2 x4 b (b.toList.take (IH+1)) (b.toList.drop (IH+1)) [] _ _ _ _ _ JO (Js _ JQ) (by simp) (gf ∅) (by simp) (λx hx=>Jt x (Ot hx)) ∅ ((KS.mp m5.pb).2.1) λX2 Y2 e2 Jn Jo=>?_)
           dsimp -zeta -zetaHave -zetaUnused only;have m6:=m5.galB c e2 IS λx hx=>c.asym _ _ (Ad (Jn x hx));have IP:∀y6,b.toList[IH+1+X2.length]?=Z y6->lt y6 x4=Md:=λy6 JR=>wb (Jo y6 (pZ e2 JR));have Jx:=q9 e2
           extract_lets -underBinder +onlyGivenNames vbc Je
           clear_value vbc
           have Jj:∀(II:Array L4) (Jy:Nat),ML lt a.toList b.toList II.toList J6 Jy->(∀y6,b.toList[Jy]?=Z y6->lt y6 x4=Md)->Jy<b.size->i+2<=II.size->wpS (Lk prog w) A E s (Je () II Jy) QQ Jv:=by
            intro II Jy Kg Jf K7 Ks;dsimp -zeta -zetaHave -zetaUnused only[Je];clear Je Jx IP m6 Jn Jo m5 IT JP h5 h1 h2 hsz Kd Kc h3;obtain⟨y6,JR,Jk,Ku⟩:=aE (a:=b) (i:=Jy) K7;refine J4 (aF Jb ?_);have m7:=Kg.pushA c IS Jk (Jf y6 Jk);rw[<-Li]at m7;dsimp only;refine ae (λh=>?_) (λh=>?_)
            ·exact aa (G _ _ _ IN (m7.finL (Ja · · (J6+1) (Oi h))))
            ·have h:J6+1+1≠a.size:=by simpa using h
             have:=Ke Jv (II.push x4) (J6+1) Jy mg vac vbc IN m7 ∅ K7 (by rw[QS];lia)
             exact ae (λ_=>aa this.1) (λ_=>aa this.2)
           clear_value Je
           refine ae (λh0=>?_) (λh0=>?_)
           ·dsimp only;have m6:=m6.cut (a:=b) e2;refine ae (λh=>?_) (λh=>?_)
            ·exact aa (G _ _ _ IN (m6.finR (by have h:=Oi h;lia)))
            ·have h:IH+1+X2.length≠b.size:=by simpa using h
             exact Jj _ _ m6 IP ∅ (by rw[Pe];lia)
           ·have Jg:X2=[]:=LU.mp ∅
            subst Jg;exact Jj _ _ m5 IP ∅ IT
         clear_value Jc
         refine ae (λh0=>?_) (λh0=>?_)
         ·dsimp only;have m4:=m4.cut (a:=a) e;refine ae (λh=>?_) (λh=>?_)
          ·exact aa (G _ _ _ IN (m4.finL (Ja · · _ (Oi h))))
          ·have h:IM+X.length+1≠a.size:=by simpa using h
           refine ae (λh=>?_) (λh9=>?_)
           ·exact aa (G _ _ _ IN (m4.finS (by have h:=Oi h;lia)))
           ·have h9:IM+X.length≠a.size:=by simpa using h9
            exact Ji _ _ m4 IO ∅ (by rw[Pe];lia)
         ·have Jg:X=[]:=LU.mp ∅
          subst Jg;exact Ji _ _ m3 IO h1 h5
        clear_value jp
        exact ae (λ_=>JN _) (λ_=>JN _)
       ·rintro r IG ⟨IW,F,IM,IH,IV,JL,JM,rfl,m3,h1,h2,h5⟩;exact⟨IW,.inl ⟨_,_,_,_,_,_,rfl,m3,h1,h2,h5⟩⟩
       ·rintro r IG ⟨IW,⟨F,IM,IH,IV,JL,JM,rfl,m3,h1,h2,h5⟩|⟨res,t,rfl,J⟩⟩
        ·dsimp -zeta -zetaHave -zetaUnused only;refine J4 (Nx ?_);exact aa ⟨IW.trans ⟨rfl,rfl,rfl,rfl⟩,_,_,_,_,rfl,m3,h1,h2,∅⟩
        ·exact aa ⟨IW,_,_,rfl,J⟩
      ·exact aa ⟨sm,_,_,rfl,J⟩
    ·rintro r J2 ⟨sm,out,ia,ib,mg,rfl,m,Kc,Kd,hsz⟩;have:=m.size (by simp;lia) (by simp;lia)
     simp at this;lia
    ·rintro r J2 ⟨sm,res,t,rfl,J⟩;exact aa (q res J2 J.1 J.2 sm)
 ·intro hg a b st Q hk Js Jt JZ K0 sa sb JG JH q;refine J4 (cD ?_);obtain⟨bL,Kb,JA,KN⟩:=aE (a:=b) (i:=b.size-1) ∅
  obtain⟨aL,K5,JJ,KO⟩:=aE (a:=a) (i:=a.size-1) ∅
  refine J4 (aF K5 ?_);have m0:MH lt a.toList b.toList [] a.size b.size:=⟨by rw[eM];simpa using sa,by rw[eM];simpa using sb,by rw[eM,eM];simp⟩
  have m1:MH lt a.toList b.toList [aL] (a.size-1) b.size:=m0.pushA c JZ K0 JJ JA (JH aL bL K5 Kb);have J0:∀x∈b.toList.take 1,∀y∈a.toList,lt y x=Md:=by
   intro x hx y hy;obtain⟨b0,K1,JI,_⟩:=aE K0;obtain⟨a0,JE,Jz,_⟩:=aE JZ;have ex:x=b0:=by
    rw[cX ∅ JI]at hx
    simpa using hx
   subst ex;have h:=JG a0 x JE K1;obtain⟨j,hj,e⟩:=Nm.mp hy;have Ju:a.toList[j]?=Z y:=by rw[<-e];exact tv hj
   by_cases hj0:j=0
   ·subst hj0;rw[Jz]at Ju;cases Ju;exact h
   ·exact c.le_trans h (fG sa ∅ Jz Ju)
  try dsimp -zeta -zetaHave -zetaUnused only
  refine ae (λh=>?_) (λh=>?_)
  ·skip
   have h:a.size-1=0:=by simpa using h
   refine aa ?_;have r:=m1.fin (.inl h);exact q _ _ (by simpa only[Lg,Li,LW,LI,bq]using r.1) (by simpa only[Lg,Li,LW,LI,bq]using r.2) Same.refl
  ·skip
   refine ae (λh2=>?_) (λh2=>?_)
   ·skip
    have h2:b.size=1:=by simpa using h2
    refine aa ?_;have r:=m1.finB (by rw[h2];exact J0)
    exact q _ _ (by simpa only[Lg,Li,LW,LI,bq]using r.1) (by simpa only[Lg,Li,LW,LI,bq]using r.2) Same.refl
   ·skip
    have h:a.size-1≠0:=by simpa using h
    have h2:b.size≠1:=by simpa using h2
    refine J4 (OD ?_)
    try dsimp -zeta -zetaHave -zetaUnused only
    refine J4 (ay (Q:=λr st'=>Same st st'/\∃res t,r=(Z res,t)/\Res lt a.toList b.toList res.toList)
     (Mg (λi r st'=>Same st st'/\∃na nb out mg,r=(Y,na,nb,out,mg)/\MH lt a.toList b.toList out.toList na nb/\0<na/\1<nb/\na<a.size/\nb<=b.size/\i+1<=out.size) ?_ ?_ ⟨Same.refl,_,_,_,_,rfl,m1,∅,∅,∅,∅,by simp⟩) ?_)
    ·rintro i r J2 _ hi ⟨sm,na,nb,out,mg,rfl,m,Jm,JB,JS,JT,hsz⟩
     try dsimp -zeta -zetaHave -zetaUnused only
     refine J4 (ay (Q:=λr st'=>st'=J2/\((∃IQ IR B ac bc,r=(Y,IQ,IR,B,ac,bc)/\MH lt a.toList b.toList B.toList IQ IR/\0<IQ/\1<IR/\IQ<a.size/\IR<=b.size/\i+2<=B.size)∨∃res t,r=(Z res,t)/\Res lt a.toList b.toList res.toList))
      (Mg (λj r st'=>st'=J2/\∃IQ IR B ac bc,r=(Y,IQ,IR,B,ac,bc)/\MH lt a.toList b.toList B.toList IQ IR/\0<IQ/\1<IR/\IQ<a.size/\IR<=b.size/\i+1+j<=B.size) ?_ ?_ ⟨rfl,_,_,_,_,_,rfl,m,Jm,JB,JS,JT,∅⟩) ?_)
     ·rintro j r IJ _ hj ⟨rfl,IQ,IR,B,ac,bc,rfl,m2,h1,h2,IX,IZ,h3⟩
      try dsimp only
      obtain⟨y,hy,J3,J9⟩:=aE (a:=b) (i:=IR-1) ∅
      obtain⟨x,hx,JK,JD⟩:=aE (a:=a) (i:=IQ-1) ∅
      refine J4 (aF hy (J4 (aF hx (J4 (jS c (sm.kind.trans hk) (Jt _ J9) (Js _ JD) ?_)))))
      try dsimp only
      refine ae (λhl=>?_) (λhl=>?_)
      ·skip
       refine J4 (aF hx ?_)
       try dsimp only
       have m3:=m2.pushA c h1 ∅ JK J3 (c.asym _ _ hl)
       refine ae (λh=>?_) (λh=>?_)
       ·skip
        have h:IQ-1=0:=by simpa using h
        exact aa ⟨rfl,.inr ⟨_,_,rfl,by have r:=m3.fin (.inl h);simpa only[Lg,Li,LW,LI,bq]using r⟩⟩
       ·skip
        have h:IQ-1≠0:=by simpa using h
        refine ae (λ_=>?_) (λ_=>?_)
        ·exact aa ⟨rfl,.inl ⟨_,_,_,_,_,rfl,by simpa only[Lg,Li,LW,LI,bq]using m3,∅,h2,∅,IZ,by simp;lia⟩⟩
        ·exact aa ⟨rfl,_,_,_,_,_,rfl,by simpa only[Lg,Li,LW,LI,bq]using m3,∅,h2,∅,IZ,by simp;lia⟩
      ·skip
       refine J4 (aF hy ?_)
       try dsimp only
       have m3:=m2.pushB c h1 ∅ JK J3 (by simpa using hl)
       refine ae (λh=>?_) (λh=>?_)
       ·skip
        have h:IR-1=1:=by simpa using h
        exact aa ⟨rfl,.inr ⟨_,_,rfl,by have r:=m3.finB (by rw[h];exact J0);simpa only[Lg,Li,LW,LI,bq]using r⟩⟩
       ·skip
        have h:IR-1≠1:=by simpa using h
        refine ae (λ_=>?_) (λ_=>?_)
        ·exact aa ⟨rfl,.inl ⟨_,_,_,_,_,rfl,by simpa only[Lg,Li,LW,LI,bq]using m3,h1,∅,IX,∅,by simp;lia⟩⟩
        ·exact aa ⟨rfl,_,_,_,_,_,rfl,by simpa only[Lg,Li,LW,LI,bq]using m3,h1,∅,IX,∅,by simp;lia⟩
     ·rintro r IJ ⟨rfl,IQ,IR,B,ac,bc,rfl,m2,h1,h2,IX,IZ,h3⟩;exact⟨rfl,.inl ⟨_,_,_,_,_,rfl,m2,h1,h2,IX,IZ,∅⟩⟩
     ·rintro r IJ ⟨rfl,⟨IQ,IR,B,ac,bc,rfl,m2,h1,h2,IX,IZ,h3⟩|⟨res,t,rfl,J⟩⟩
      ·try dsimp -zeta -zetaHave -zetaUnused only
       refine J4 (cD ?_);refine J4 (ay (Q:=λr st'=>Same st st'/\((∃IK U F IV ac bc,r=(Y,IK,U,F,IV,ac,bc)/\MH lt a.toList b.toList F.toList IK U/\0<IK/\1<U/\IK<a.size/\U<=b.size/\i+2<=F.size)∨∃res t,r=(Z res,t)/\Res lt a.toList b.toList res.toList))
        (Mg (λj r st'=>Same st st'/\∃IK U F IV ac bc,r=(Y,IK,U,F,IV,ac,bc)/\MH lt a.toList b.toList F.toList IK U/\0<IK/\1<U/\IK<a.size/\U<=b.size/\i+2<=F.size) ?_ ?_ ⟨sm,_,_,_,_,_,_,rfl,m2,h1,h2,IX,IZ,h3⟩) ?_)
       ·rintro j r IG _ hj ⟨IW,IK,U,F,IV,JL,JM,rfl,m3,h1,h2,IX,IZ,h5⟩;obtain⟨y,hy,J3,J9⟩:=aE (a:=b) (i:=U-1) ∅
        refine Ab λQQ hQ=>?_;have G:∀(st':Mn) (res:Array L4) t,Same st st'->Res lt a.toList b.toList res.toList->QQ (.done (Z res,t)) st':=λst' res t hs hr=>hQ _ _ ⟨hs,.inr ⟨_,_,rfl,hr⟩⟩;have Ke:∀(st':Mn) (out:Array L4) na nb mg ac bc,Same st st'->MH lt a.toList b.toList out.toList na nb->0<na->1<nb->na<a.size->nb<=b.size->i+2<=out.size->QQ (.done (Y,na,nb,out,mg,ac,bc)) st'/\QQ (.yield (Y,na,nb,out,mg,ac,bc)) st':=λst' out ia ib mg ac bc hs p1 p2 p3 p4 p5 p6=>⟨hQ _ _ ⟨hs,.inl ⟨_,_,_,_,_,_,rfl,p1,p2,p3,p4,p5,p6⟩⟩,hQ _ _ ⟨hs,_,_,_,_,_,_,rfl,p1,p2,p3,p4,p5,p6⟩⟩;clear hQ hj
        extract_lets -underBinder s0 vna s1 vnb s2 vout s3 vmg s4 vac vbc jp vmx
        have JN:∀mg,wpS (Lk prog w) A E s (jp () mg) QQ IG:=by
         intro mg;dsimp -zeta -zetaHave -zetaUnused only[jp,s0,vna,s1,vnb,s2,vout,s3,vmg,s4,vac,vbc];clear vmx jp vbc vac s4 vmg s3 vout s2 vnb s1 vna s0;refine J4 (Nx ?_);refine w9 (P:=Same st) (IW.trans ⟨rfl,rfl,rfl,rfl⟩) λJv IN=>?_;have JO:=IN.kind.trans hk;refine J4 (aF hy ?_);refine J4 (hg Md y a [] (a.toList.take IK) (a.toList.drop IK) _ _ _ _ _ JO (Jt _ J9) (by simp) rfl (gf ∅) (λx hx=>Js x (Ou hx)) ∅ ((KS.mp m3.pa).1) λX Fn e hX hY=>?_)
         dsimp -zeta -zetaHave -zetaUnused only;have m4:=m3.galA c e ∅ J3 λx hx=>c.asym _ _ (wa (hY x hx))
         have IO:0<X.length->∀x4,a.toList[X.length-1]?=Z x4->lt y x4=Md:=λh0 x4 Jb=>Ac (hX x4 (q8 e h0 Jb));have Jw:=mL e ∅
         extract_lets -underBinder +onlyGivenNames vk vac Jc
         clear_value vac
         have Ji:∀(J7:Nat) (O:Array L4),MH lt a.toList b.toList O.toList J7 U->(∀x4,a.toList[J7-1]?=Z x4->lt y x4=Md)->0<J7->J7<a.size->i+2<=O.size->wpS (Lk prog w) A E s (Jc () J7 O) QQ Jv:=by
          intro J7 O Kf Jd JU KJ JP;dsimp -zeta -zetaHave -zetaUnused only[Jc];clear Jc vk Jw IO m4 hX hY;obtain⟨x4,Jb,IS,JQ⟩:=aE (a:=a) (i:=J7-1) ∅
          refine J4 (aF hy ?_);have m5:=Kf.pushB c JU ∅ IS J3 (Jd x4 IS)
          rw[<-Li]at m5;have IT:i+2<=(O.push y).size:=by rw[QS];lia
          try dsimp -zeta -zetaHave -zetaUnused only
          extract_lets -underBinder +onlyGivenNames vo5
          dsimp -zeta -zetaHave -zetaUnused only[vo5];clear vo5
          revert m5 IT
          generalize O.push y=out5;intro m5 IT;refine ae (λh=>?_) (λh=>?_)
          ·exact aa (G _ _ _ IN (m5.finR (by rw[Oi h];exact J0)))
          ·have h:U-1≠1:=by simpa using h
           refine J4 (aF Jb ?_);refine J4 (hg F2 x4 b [] (b.toList.take (U-1)) (b.toList.drop (U-1)) _ _ _ _ _ JO (Js _ JQ) (by simp) rfl (gf ∅) (λx hx=>Jt x (Ou hx)) ∅ ((KS.mp m5.pb).1) λX2 Y2 e2 Jn Jo=>?_)
           dsimp -zeta -zetaHave -zetaUnused only;have m6:=m5.galB c e2 JU IS λx hx=>wb (Jo x hx);have IP:0<X2.length->∀y6,b.toList[X2.length-1]?=Z y6->lt x4 y6=Md:=λh0 y6 JR=>c.asym _ _ (Ad (Jn y6 (q8 e2 h0 JR)));have Jx:=mL e2 ∅
           extract_lets -underBinder +onlyGivenNames vk vbc Je
           clear_value vbc
           have Jj:∀(Jl:Nat) (II:Array L4),MH lt a.toList b.toList II.toList J7 Jl->(∀y6,b.toList[Jl-1]?=Z y6->lt x4 y6=Md)->1<Jl->Jl<=b.size->i+2<=II.size->wpS (Lk prog w) A E s (Je () Jl II) QQ Jv:=by
            intro Jl II Kg Jf Kv Kh Ks;dsimp -zeta -zetaHave -zetaUnused only[Je];clear Je vk Jx IP m6 Jn Jo m5 IT JP h5 h1 h2 IX IZ hsz Jm JB JS JT h3;obtain⟨y6,JR,Jk,Ku⟩:=aE (a:=b) (i:=Jl-1) ∅
            refine J4 (aF Jb ?_);have m7:=Kg.pushA c JU ∅ IS Jk (Jf y6 Jk)
            rw[<-Li]at m7;dsimp only;refine ae (λh=>?_) (λh=>?_)
            ·exact aa (G _ _ _ IN (m7.finL (.inl (Oi h))))
            ·have h:J7-1≠0:=by simpa using h
             have:=λmg ac bc=>Ke Jv (II.push x4) (J7-1) Jl mg ac bc IN m7 ∅ Kv ∅ Kh (by rw[QS];lia)
             exact ae (λ_=>aa (this _ _ _).1) (λ_=>aa (this _ _ _).2)
           clear_value Je
           refine ae (λh0=>?_) (λh0=>?_)
           ·dsimp only;have m6:=m6.cut (a:=b) e2;refine ae (λh=>?_) (λh=>?_)
            ·exact aa (G _ _ _ IN (m6.finR (by rw[Oi h];exact J0)))
            ·have h:X2.length≠1:=by simpa using h
             refine ae (λh9=>?_) (λh9=>?_)
             ·exact aa (G _ _ _ IN (m6.finL (.inr (Oi h9))))
             ·have h9:X2.length≠0:=by simpa using h9
              exact Jj _ _ m6 (IP ∅) ∅ ∅ (by rw[Pe];lia)
           ·have h0:¬(U-1-X2.length > 0):=h0;have hl:X2.length=U-1:=by lia
            have JF:0<X2.length:=∅
            have hr:=IP JF;rw[hl]at hr;exact Jj _ _ m5 hr ∅ ∅ IT
         clear_value Jc
         refine ae (λh0=>?_) (λh0=>?_)
         ·dsimp only;have m4:=m4.cut (a:=a) e;refine ae (λh=>?_) (λh=>?_)
          ·exact aa (G _ _ _ IN (m4.finL (.inl (Oi h))))
          ·have h:X.length≠0:=by simpa using h
           exact Ji _ _ m4 (IO ∅) ∅ ∅ (by rw[Pe];lia)
         ·have h0:¬(IK-X.length > 0):=h0;have hl:X.length=IK:=by lia
          have hr:=IO ∅
          rw[hl]at hr;exact Ji _ _ m3 hr h1 IX h5
        clear_value jp
        exact ae (λ_=>JN _) (λ_=>JN _)
       ·rintro r IG ⟨IW,IK,U,F,IV,JL,JM,rfl,m3,h1,h2,IX,IZ,h5⟩;exact⟨IW,.inl ⟨_,_,_,_,_,_,rfl,m3,h1,h2,IX,IZ,h5⟩⟩
       ·rintro r IG ⟨IW,⟨IK,U,F,IV,JL,JM,rfl,m3,h1,h2,IX,IZ,h5⟩|⟨res,t,rfl,J⟩⟩
        ·try dsimp -zeta -zetaHave -zetaUnused only
         refine J4 (Nx ?_);exact aa ⟨IW.trans ⟨rfl,rfl,rfl,rfl⟩,_,_,_,_,rfl,m3,h1,h2,IX,IZ,∅⟩
        ·exact aa ⟨IW,_,_,rfl,J⟩
      ·exact aa ⟨sm,_,_,rfl,J⟩
    ·rintro r J2 ⟨sm,na,nb,out,mg,rfl,m,Jm,JB,JS,JT,hsz⟩;have:=m.size (by simp;lia) (by simp;lia)
     simp at this;lia
    ·rintro r J2 ⟨sm,res,t,rfl,J⟩;exact aa (q res J2 J.1 J.2 sm)
end
end Srt
namespace Srt
variable{st:Mn}{L R xs:List L4}{i j n:Nat}{x:L4}
section
variable{prog:Ln}{w:LL}{A:LQ}{E:gV->q7->Prop}{s:q7}{kd:PM}{P:L4->Prop}{lt:L4->L4->Bool}
structure Kp(st st':Mn):Prop where
 kind:Na st'=Na st
 pend:Lf st'=Lf st
 fail:Nv st'=Nv st
theorem Kp.refl:Kp st st:=⟨rfl,rfl,rfl⟩
theorem Kp.trans{a b c:Mn}(h:Kp a b)(g:Kp b c):Kp a c:=⟨g.kind.trans h.kind,g.pend.trans h.pend,g.fail.trans h.fail⟩
theorem r8{a:Array L4}{B:List L4}(e:a.toList=L++(B++R))(hi:i=L.length)(z:j=L.length+B.length):(mirror a i j ((j-i) / 2)).toList=L++(B.reverse++R):=by
 have hs:a.size=L.length+(B.length+R.length):=by rw[<-Ly,e];simp
 apply Ny;intro k;rw[Lp,getElem?_mirror_all ∅]
 have g:∀n:Nat,a[n]?=(L++(B++R))[n]?:=λn=>by rw[<-Lp,e]
 rw[g,g]
 by_cases h1:k<L.length
 ·rw[if_neg ∅,Lb h1,Lb h1]
 ·by_cases h2:k<j
  ·rw[if_pos ∅,D0 ∅,Lb ∅,D0 ∅,Lb (by simp;lia),List.getElem?_reverse ∅]
   congr 1;lia
  ·rw[if_neg ∅,D0 ∅,D0 ∅,D0 ∅,D0 (by simp;lia)]
   simp
theorem r9{a:Array L4}{j z:List L4}(e:a.toList=L++((j++z)++x::R)){src d:Nat}(hi:src=L.length+(j.length+z.length))(hd:d=z.length):(bubble a src d).toList=L++((j++x::z)++R):=by
 have hs:a.size=L.length+(j.length+z.length+(R.length+1)):=by rw[<-Ly,e];simp;lia
 apply Ny;intro k;rw[Lp,getElem?_bubble ∅ d ∅]
 have g:∀n:Nat,a[n]?=(L++((j++z)++x::R))[n]?:=λn=>by rw[<-Lp,e]
 rw[g,g,g]
 by_cases h1:k<L.length
 ·rw[if_neg ∅,if_neg ∅,Lb h1,Lb h1]
 ·by_cases h2:k<L.length+j.length
  ·rw[if_neg ∅,if_neg ∅,D0 ∅,Lb (by simp;lia),Lb ∅,D0 ∅,Lb (by simp;lia),Lb ∅]
  ·by_cases h3:k=L.length+j.length
   ·rw[if_pos ∅,D0 ∅,D0 (by simp;lia),D0 ∅,Lb (by simp;lia),D0 ∅]
    have e1:src-L.length-(j++z).length=0:=by simp;lia
    have e2:k-L.length-j.length=0:=∅
    rw[e1,e2];rfl
   ·by_cases h4:k<=src
    ·rw[if_neg ∅,if_pos ∅,D0 ∅,Lb (by simp;lia),D0 ∅,D0 ∅,Lb (by simp;lia),D0 ∅]
     have e2:k-L.length-j.length=(k-1-L.length-j.length)+1:=∅
     rw[e2,OG]
    ·rw[if_neg ∅,if_neg ∅,D0 ∅,D0 (by simp;lia),D0 ∅,D0 (by simp;lia)]
     have e2:k-L.length-(j++z).length=(k-L.length-(j++x::z).length)+1:=by simp;lia
     rw[e2,OG]
theorem dQ(c:Cm prog w A s kd P lt){y:L4}{Q:Option Bool->Mn->Prop}(z:Na st=kd)(hx:(LF st)[i]?=Z x)(B:(LF st)[j]?=Z y)(px:P x)(py:P y)(q:Q (Z (lt x y)) st):wpS (Lk prog w) A E s (ltAt' i j) Q st:=by rw[ltAt'_eq];exact J4 (OD (J4 (aF hx (J4 (aF B (jS c z px py q))))))
theorem jT{Q:Unit->Mn->Prop}{B:List L4}(e:(LF st).toList=L++(B++R))(hi:i=L.length)(z:j=L.length+B.length)(q:∀st',(LF st').toList=L++(B.reverse++R)->Kp st st'->Q () st'):wpS (Lk prog w) A E s (reverseSlice' i j) Q st:=by rw[reverseSlice'_eq];exact Nx (q _ (r8 e hi z) ⟨rfl,rfl,rfl⟩)
theorem cq(e:(LF st).toList=L++xs)(hi:i=L.length+n):(LF st)[i]?=xs[n]?:=by
 rw[<-Lp,e,hi,D0 ∅]
 congr 1;lia
theorem qa(c:Cm prog w A s kd P lt){y:L4}(h:Ord lt (xs.take n))(B:0<n)(hx:xs[n]?=Z x)(F:xs[n-1]?=Z y)(G:lt x y=Md):Ord lt (xs.take (n+1)):=by
 rw[Up,hx];refine KS.mpr ⟨h,by simp,λz J u j=>?_⟩
 simp at j;subst j;exact iw c h B F G z J
noncomputable abbrev dj(lt:L4->L4->Bool)(l:List L4):Prop:=l.Pairwise λx y=>lt x y=Md
theorem j6(c:Cm prog w A s kd P lt){D:List L4}{e:L4}(h:dj lt (D++[e]))(hx:lt e x=Md):dj lt (D++[e]++[x]):=by
 refine KS.mpr ⟨h,by simp,λz B u j=>?_⟩
 simp at j;subst j;obtain⟨_,_,F⟩:=KS.mp h
 rcases Ld.mp B with g|g
 ·cases q:lt z u with
  |false=>rfl
  | true=>rcases c.neg z e u q with r|r
          ·rw[F z g e (by simp)]at r;cases r
          ·rw[hx]at r;cases r
 ·simp at g;subst g;exact hx
theorem rT{z F:List L4}(h:dj lt (z++F))(he:∀x∈F,∀y∈F,lt x y=Md):dj lt (z++F.reverse):=by obtain⟨h1,h2,B⟩:=KS.mp h;refine KS.mpr ⟨h1,?_,λx hx y j=>B x hx y (Pt.mp j)⟩;rw[SN];exact h2.imp_of_mem λhx j _=>he _ j _ hx
theorem perm_take:(xs.take n++xs.drop n).Perm xs:=by rw[MX]
theorem iT(c:Cm prog w A s kd P lt){Q:Option Nat->Mn->Prop}(hk:Na st=kd)(O:(LF st).toList=L++xs)(h0:xs≠[])(hP:∀x∈xs,P x)(q:∀r R st',(LF st').toList=L++(r++R)->(r++R).Perm xs->r≠[]->Ord lt r->Kp st st'->Q (Z r.length) st'):wpS (Lk prog w) A E s (countRun' L.length xs.length) Q st:=by
 have J6:0<xs.length:=Mk.mpr h0;rw[countRun'_eq]
 try dsimp -zeta -zetaHave -zetaUnused only
 refine J4 (ay (Q:=λr st'=>st'=st/\∃n,r=(Y,n)/\1<=n/\n<=xs.length/\Ord lt (xs.take n)/\(n=xs.length∨∃x y,xs[n]?=Z x/\xs[n-1]?=Z y/\lt x y=F2))
  (Mg (fun i r st'=>st'=st/\r=(Y,i)/\Ord lt (xs.take i)) ?_ ?_ ⟨rfl,rfl,by
   cases xs with
   |nil=>exact absurd rfl h0
   |cons x t=>simp⟩) ?_)
 ·rintro i r st' h1 hi ⟨rfl,rfl,ho⟩;dsimp only;obtain⟨x,hx⟩:∃x,xs[i]?=Z x:=⟨_,tv hi⟩;obtain⟨y,hy⟩:∃y,xs[i-1]?=Z y:=⟨_,tv ∅⟩
  refine J4 (dQ c hk ((cq O rfl).trans hx) ((cq O ∅).trans hy) (hP _ (Lj hx)) (hP _ (Lj hy)) ?_)
  dsimp only;refine ae (λh=>?_) (λh=>?_)
  ·exact aa ⟨rfl,i,rfl,h1,∅,ho,.inr ⟨x,y,hx,hy,h⟩⟩
  ·exact aa ⟨rfl,rfl,qa c ho ∅ hx hy (by simpa using h)⟩
 ·rintro r st' ⟨rfl,rfl,ho⟩;exact⟨rfl,_,rfl,∅,∅,ho,.inl ∅⟩
 ·rintro r st' ⟨rfl,n,rfl,Jt,J7,ho,hc⟩;dsimp -zeta -zetaHave -zetaUnused only;have IS:Q (Z n) st':=by
   have:=q (xs.take n) (xs.drop n) st' (by rw[O,MX]) perm_take (λz=>by have h3:=congrArg Nb z;rw[Lu,ND]at h3;lia) ho Kp.refl
   rw[Lu,N7 J7]at this;exact this
  extract_lets -underBinder +onlyGivenNames vr vn
  dsimp -zeta -zetaHave -zetaUnused only[vr];clear vr;have en:n=vn:=rfl
  clear_value vn
  subst en;refine ae (λh=>aa IS) (λh=>?_);have Ji:n≠xs.length:=by simpa using h
  obtain⟨x,y,hx,hy,Jj⟩:=hc.resolve_left Ji;have Ju:n<xs.length:=∅
  have exs:xs=xs.take n++x::xs.drop (n+1):=by have h1:=(MX n xs).symm;rw[dY hx]at h1;exact h1
  have J8:y∈xs.take n:=by rw[cX ∅ hy];simp
  extract_lets -underBinder +onlyGivenNames jp
  have J9:∀(B:List L4) (IH:Mn),(LF IH).toList=L++(B++x::xs.drop (n+1))->B.Perm (xs.take n)->B.length=n->(∀u∈B,∀v∈B,lt u v=Md)->y∈B->Kp st' IH->wpS (Lk prog w) A E s (jp ()) Q IH:=by
   intro B IH e1 hB II IJ IK IM;dsimp -zeta -zetaHave -zetaUnused only[jp];clear jp;refine J4 (cD ?_)
   try dsimp -zeta -zetaHave -zetaUnused only
   extract_lets -underBinder +onlyGivenNames vn1 vq1
   have Jk:vn1=n+1:=rfl;have eq1:vq1=0:=rfl
   clear_value vn1 vq1
   subst Jk eq1;refine J4 (ay (Q:=λr U=>∃G F R neq,Kp st' U/\(LF U).toList=L++((G++F)++R)/\((G++F)++R).Perm xs/\r=(Y,(G++F).length,neq)/\F.length=neq+1/\dj lt (G++F)/\(∀u∈F,∀v∈F,lt u v=Md))
    (Mg (λi r U=>∃G F R neq,Kp st' U/\(LF U).toList=L++((G++F)++R)/\((G++F)++R).Perm xs/\r=(Y,(G++F).length,neq)/\F.length=neq+1/\dj lt (G++F)/\(∀u∈F,∀v∈F,lt u v=Md)/\(G++F).length=i) ?_ ?_ ?_) ?_)
   ·rintro i r U Jv hi ⟨G,F,R,neq,kp,ea,hp,rfl,hF,hN,hE,Ja⟩;subst Ja;have hlen:=hp.length_eq;rw[I7]at hlen;obtain⟨z,R',rfl⟩:∃z R',R=z::R':=by
     cases R with
     |nil=>simp at hlen;simp at hi;lia
     |cons z R'=>exact⟨z,R',rfl⟩
    have Jl:F≠[]:=λz=>by rw[z]at hF;simp at hF
    obtain⟨F0,e,rfl⟩:∃F0 e,F=F0++[e]:=⟨F.dropLast,F.getLast Jl,(Ng _).symm⟩;have hz:(LF U)[L.length+(G++(F0++[e])).length]?=Z z:=by rw[cq ea rfl,D0 ∅,R4];rfl
    have he:(LF U)[L.length+(G++(F0++[e])).length-1]?=Z e:=by rw[cq ea (n:=(G++F0).length) (by simp<;>lia),Lb (by simp<;>lia),<-Lh,D0 ∅,R4];rfl
    have Jb:P z:=hP z (hp.mem_iff.mp (by simp))
    have Jc:P e:=hP e (hp.mem_iff.mp (by simp))
    dsimp only;refine J4 (dQ c (kp.kind.trans hk) hz he Jb Jc ?_);dsimp only;have IW:dj lt (G++F0++[e]):=by rw[Lh];exact hN
    refine ae (λIX=>?_) (λIX=>?_)
    ·have IN:lt e z=Md:=c.asym _ _ IX;refine ae (λIO=>?_) (λIO=>?_)
     ·refine J4 (jT (L:=L++G) (B:=F0++[e]) (R:=z::R') (by rw[ea];simp) (by simp only[I7]at hF⊢;simp only[Mp]at hF⊢;lia) (by simp<;>lia) λfv e3 Fn=>?_)
      refine aa ⟨G++(F0++[e]).reverse,[z],R',0,kp.trans Fn,by rw[e3];simp,?_,by simp<;>lia,rfl,?_,?_,by simp<;>lia⟩
      ·refine O7.trans ?_ hp;rw[Lh,Lh,Lh];exact LY _ (Mw _ (Qi _))
      ·have h1:=rT hN hE;refine KS.mpr ⟨h1,by simp,λu j v J=>?_⟩
       simp at J;subst J;have hm:=j6 c IW IN;refine(KS.mp hm).2.2 u ?_ v (by simp)
       rw[Lh]
       rcases Ld.mp j with g|g
       ·exact LD _ g
       ·exact Lo _ (Pt.mp g)
      ·intro u j v J;simp at j J;subst j J;exact c.irr
     ·refine aa ⟨G++(F0++[e]),[z],R',0,kp,by rw[ea];simp,by simpa using hp,by simp<;>lia,rfl,?_,?_,by simp<;>lia⟩
      ·have hm:=j6 c IW IN;simpa using hm
      ·intro u j v J;simp at j J;subst j J;exact c.irr
    ·have Jm:lt z e=Md:=by simpa using IX
     refine J4 (dQ c (kp.kind.trans hk) he hz Jc Jb ?_);dsimp only;refine ae (λJd=>?_) (λJd=>?_)
     ·exact aa ⟨G,F0++[e],z::R',neq,kp,ea,hp,rfl,hF,hN,hE⟩
     ·have IN:lt e z=Md:=by simpa using Jd
      refine aa ⟨G,(F0++[e])++[z],R',neq+1,kp,by rw[ea];simp,by simpa using hp,by simp<;>lia,by simp at hF⊢;lia,?_,?_,by simp<;>lia⟩
      ·have hm:=j6 c IW IN;simpa using hm
      ·have Jn:∀u∈F0++[e],lt u z=Md:=fun u j=>by
        cases q1:lt u z with
        |false=>rfl
        | true=>rcases c.neg u e z q1 with r|r
                ·rw[hE u j e (by simp)]at r;cases r
                ·rw[IN]at r;cases r
       have Jo:∀u∈F0++[e],lt z u=Md:=λu j=>by
        cases q1:lt z u with
        |false=>rfl
        | true=>rcases c.neg z e u q1 with r|r
                ·rw[Jm]at r;cases r
                ·rw[hE e (by simp) u j]at r;cases r
       intro u j v J
       rcases Ld.mp j with g|g<;>rcases Ld.mp J with g2|g2
       ·exact hE u g v g2
       ·simp at g2;subst g2;exact Jn u g
       ·simp at g;subst g;exact Jo v g2
       ·simp at g g2;subst g g2;exact c.irr
   ·rintro r U ⟨G,F,R,neq,kp,ea,hp,hr,hF,hN,hE,Ja⟩;exact⟨G,F,R,neq,kp,ea,hp,hr,hF,hN,hE⟩
   ·refine⟨B,[x],xs.drop (n+1),0,IM,by rw[e1];simp,?_,by simp[II],rfl,?_,?_,by simp[II]⟩
    ·have h9:(B++x::xs.drop (n+1)).Perm xs:=by
      have h9:=Mw (x::xs.drop (n+1)) hB;rw[<-exs]at h9;exact h9
     simpa using h9
    ·refine KS.mpr ⟨List.Pairwise.imp_of_mem (λj J _=>IJ _ j _ J) (List.pairwise_of_forall_mem_list (r:=λ_ _=>True) λ_ _ _ _=>trivial),by simp,λu j v J=>?_⟩
     simp at J;subst J
     cases q1:lt u v with
     |false=>rfl
     | true=>rcases c.neg u y v q1 with r|r
             ·rw[IJ u j y IK]at r;cases r
             ·rw[c.asym _ _ Jj]at r;cases r
    ·intro u j v J;simp at j J;subst j J;exact c.irr
   ·rintro r U ⟨G,F,R,neq,kp,ea,hp,rfl,hF,hN,hE⟩;dsimp -zeta -zetaHave -zetaUnused only
    extract_lets -underBinder +onlyGivenNames vr vs vn2 vq2
    dsimp -zeta -zetaHave -zetaUnused only[vr];have Jp:vn2=(G++F).length:=rfl;have eq2:neq=vq2:=rfl
    clear_value vn2 vq2
    clear vs vr;subst Jp eq2
    extract_lets -underBinder +onlyGivenNames IP
    have IT:∀(D:List L4) (fv:Mn),(LF fv).toList=L++(D++R)->dj lt D->(D++R).Perm xs->D.length=(G++F).length->0<D.length->Kp st' fv->wpS (Lk prog w) A E s (IP ()) Q fv:=by
     intro D fv e3 IY IZ IQ IU Fn;dsimp -zeta -zetaHave -zetaUnused only[IP];clear IP;have Jq:0<D.length:=∅
     refine J4 (jT (L:=L) (B:=D) (R:=R) e3 rfl (by rw[IQ]) λJe e4 Jf=>?_)
     have o4:Ord lt D.reverse:=SN.mpr IY;have IR:(D.reverse++R).Perm xs:=(Mw _ (Qi D)).trans IZ;have Jg:(D.reverse++R).length=xs.length:=IR.length_eq;have J0:Ord lt ((D.reverse++R).take D.length):=by rw[List.take_append_of_le_length (by simp),Nw (by simp)];exact o4
     have J1:∀u∈D.reverse++R,P u:=λu j=>hP u (IR.mem_iff.mp j);have Jr:D.length<=xs.length:=by rw[<-Jg];simp
     rw[<-IQ];generalize D.length=N0 at J0 Jq Jr;generalize D.reverse++R=ys at e4 IR Jg J0 J1;refine J4 (ay (Q:=λr IG=>IG=Je/\∃n,r=(Y,n)/\1<=n/\n<=xs.length/\Ord lt (ys.take n))
      (Mg (λi r IG=>IG=Je/\r=(Y,i)/\Ord lt (ys.take i)) ?_ ?_ ⟨rfl,rfl,J0⟩) ?_)
     ·rintro i r IG h1 hi ⟨rfl,rfl,ho⟩;dsimp only;obtain⟨u,j⟩:∃u,ys[i]?=Z u:=⟨_,tv ∅⟩
      obtain⟨v,J⟩:∃v,ys[i-1]?=Z v:=⟨_,tv ∅⟩
      refine J4 (dQ c ((Fn.trans Jf).kind.trans hk) ((cq e4 rfl).trans j) ((cq e4 ∅).trans J) (J1 _ (Lj j)) (J1 _ (Lj J)) ?_)
      dsimp only;refine ae (λh=>?_) (λh=>?_)
      ·exact aa ⟨rfl,i,rfl,∅,∅,ho⟩
      ·exact aa ⟨rfl,rfl,qa c ho ∅ j J (by simpa using h)⟩
     ·rintro r IG ⟨rfl,rfl,ho⟩;exact⟨rfl,_,rfl,∅,∅,ho⟩
     ·rintro r IG ⟨rfl,m,rfl,Jw,Jx,ho⟩;refine aa ?_;have:=q (ys.take m) (ys.drop m) IG (by rw[e4,MX]) (perm_take.trans IR) (fun z=>by
       have h3:=congrArg Nb z;rw[Lu,ND]at h3;lia) ho (Fn.trans Jf)
      rw[Lu,N7 ∅]at this
      exact this
    clear_value IP
    refine ae (λIO=>?_) (λIO=>?_)
    ·refine J4 (jT (L:=L++G) (B:=F) (R:=R) (by rw[ea];simp) (by simp<;>lia) (by simp<;>lia) λfv e3 Fn=>?_)
     have Fn:=kp.trans Fn;have e3:(LF fv).toList=L++((G++F.reverse)++R):=by rw[e3];simp
     have IY:=rT hN hE;have IZ:((G++F.reverse)++R).Perm xs:=(Mw _ (LY _ (Qi _))).trans hp;have IQ:(G++F.reverse).length=(G++F).length:=by simp
     have IU:0<(G++F.reverse).length:=by simp<;>lia
     exact IT _ _ e3 IY IZ IQ IU Fn
    ·exact IT _ _ ea hN hp rfl (by simp<;>lia) kp
  clear_value jp
  refine ae (λh1=>?_) (λh1=>?_)
  ·obtain⟨x0,J2⟩:∃x0,xs[0]?=Z x0:=⟨_,tv J6⟩;refine J4 (dQ c hk ((cq O (n:=0) ∅).trans J2) ((cq O ∅).trans hy) (hP _ (Lj J2)) (hP _ (Lj hy)) ?_)
   dsimp only;refine ae (λhr=>aa IS) (λhr=>?_);have hr:lt x0 y=Md:=by simpa using hr
   have Jh:∀u∈xs.take n,lt u x0=Md:=λu j=>by
    obtain⟨i,hi,eu⟩:=Nm.mp j;have J3:(xs.take n)[i]?=Z u:=by rw[<-eu];exact tv hi
    have IV:(xs.take n)[0]?=Z x0:=by rw[NJ ∅];exact J2
    by_cases hi0:i=0
    ·subst hi0;rw[IV]at J3;cases J3;exact c.irr
    ·exact fG ho ∅ IV J3
   have Js:∀u∈xs.take n,lt y u=Md:=iw c ho ∅ hy c.irr
   have heq:∀u∈xs.take n,∀v∈xs.take n,lt u v=Md:=λu j v J=>by exact c.le_trans (c.le_trans (Js v J) hr) (Jh u j)
   refine J4 (jT (L:=L) (B:=xs.take n) (R:=x::xs.drop (n+1)) (by rw[O];exact congrArg (L ++ ·) exs) rfl (by rw[Lu,N7 J7]) λIH e1 IM=>?_)
   have hB:(xs.take n).reverse.Perm (xs.take n):=Qi _;have II:(xs.take n).reverse.length=n:=by rw[Tt,Lu];lia
   have IJ:∀u∈(xs.take n).reverse,∀v∈(xs.take n).reverse,lt u v=Md:=λu j v J=>heq u (Pt.mp j) v (Pt.mp J);have IK:y∈(xs.take n).reverse:=Pt.mpr J8;exact J9 _ _ e1 hB II IJ IK IM
  ·have IH:=st';have hn:n=1:=by lia
   have IM:Kp st' st':=Kp.refl;have e1:(LF st').toList=L++(xs.take n++x::xs.drop (n+1)):=by rw[O];exact congrArg (L ++ ·) exs
   have hB:(xs.take n).Perm (xs.take n):=Ta _;have II:(xs.take n).length=n:=by rw[Lu];lia
   have IK:=J8;have IJ:∀u∈xs.take n,∀v∈xs.take n,lt u v=Md:=λu j v J=>by
    have e0:xs.take n=[y]:=by subst hn;rw[cX ∅ hy];rfl
    rw[e0]at j J;simp at j J;subst j J;exact c.irr
   exact J9 _ _ e1 hB II IJ IK IM
end
end Srt
namespace Srt
variable{R:List L4}{st:Mn}
section
variable{prog:Ln}{w:LL}{A:LQ}{E:gV->q7->Prop}{s:q7}{kd:PM}{P:L4->Prop}{lt:L4->L4->Bool}
theorem mM(c:Cm prog w A s kd P lt){L r:List L4}{n:Nat}{Q:Bool->Mn->Prop}(hk:Na st=kd)(fv:(LF st).toList=L++(r++R))(h0:r≠[])(ho:Ord lt r)(hn:r.length<=n)(IG:n<=(r++R).length)(hP:∀x∈r++R,P x)(q:∀r' R' st',(LF st').toList=L++(r'++R')->(r'++R').Perm (r++R)->r'.length=n->Ord lt r'->Kp st st'->Q F2 st'):wpS (Lk prog w) A E s (binarySort' L.length n r.length) Q st:=by
 have IN:0<r.length:=Mk.mpr h0;rw[binarySort'_eq];refine J4 (ay (Q:=λx st'=>x=(Y,())/\∃D T,Kp st st'/\(LF st').toList=L++(D++T)/\(D++T).Perm (r++R)/\D.length=n/\Ord lt D)
  (Mg (λi x st'=>x=(Y,())/\∃D T,Kp st st'/\(LF st').toList=L++(D++T)/\(D++T).Perm (r++R)/\D.length=i/\Ord lt D) ?_ ?_ ⟨rfl,r,R,Kp.refl,fv,Ta _,∅,ho⟩) ?_)
 ·rintro k x B IO IP ⟨rfl,D,T,kp,ea,J,hD,O⟩;dsimp only;subst hD;have hlen:=J.length_eq;rw[I7]at hlen;obtain⟨z,T',rfl⟩:∃z T',T=z::T':=by
   cases T with
   |nil=>simp at hlen IG;lia
   |cons z T'=>exact⟨z,T',rfl⟩
  have IH:∀u∈D,P u:=λu G=>hP u (J.mem_iff.mp (LD _ G));have II:P z:=hP z (J.mem_iff.mp (by simp))
  have hz:(LF B)[L.length+D.length]?=Z z:=by rw[cq ea rfl,D0 ∅,R4];rfl
  refine J4 (ay (Q:=λx st'=>st'=B/\∃k,x=(Y,k,k)/\Gal lt Md z D k k)
   (Mg (fun i x st'=>st'=B/\∃lo hi,x=(Y,lo,hi)/\Gal lt Md z D lo hi/\hi-lo+i<=D.length) ?_ ?_ ⟨rfl,0,D.length,rfl,⟨∅,∅,fun _ _ h=>∅,fun i x hi hx=>by have:=(L7.mp hx).1;lia⟩,∅⟩) ?_)
  ·rintro i x U _ hi ⟨rfl,lo,j,rfl,F,hm⟩;dsimp only;have hl:=F.le;have IJ:=F.len;refine ae (λIK=>?_) (λIK=>?_)
   ·exact aa ⟨rfl,j,by rw[show lo=j by lia],by rw[show lo=j by lia]at F;exact F⟩
   ·obtain⟨u,G⟩:∃u,D[(lo+j) / 2]?=Z u:=⟨_,tv ∅⟩
    have IM:(LF U)[L.length+(lo+j) / 2]?=Z u:=by rw[cq ea rfl,Lb ∅];exact G
    refine J4 (dQ c (kp.kind.trans hk) hz IM II (IH _ (Lj G)) ?_);dsimp only;refine ae (λhf=>?_) (λhf=>?_)
    ·exact aa ⟨rfl,_,_,rfl,⟨∅,∅,F.up,iu c O G (by simp[bey,hf])⟩,∅⟩
    ·exact aa ⟨rfl,_,_,rfl,⟨∅,IJ,ir c O G (by simpa[bey]using hf),F.dn⟩,∅⟩
  ·rintro x U ⟨rfl,lo,j,rfl,F,hm⟩;have hl:=F.le;exact⟨rfl,j,by rw[show lo=j by lia],by rw[show lo=j by lia]at F;exact F⟩
  ·rintro x U ⟨rfl,l,rfl,F⟩;dsimp only;obtain⟨X,Fn,e,hl,hX,hY⟩:=F.out;subst hl e;rw[moveDown'_eq];refine J4 (Nx ?_);refine aa ⟨rfl,X++z::Fn,T',kp.trans ⟨rfl,rfl,rfl⟩,r9 ea (by simp) (by simp;lia),?_,by simp;lia,?_⟩
   ·refine O7.trans ?_ J;rw[Lh,Lh];refine LY _ ?_;rw[Pu];exact UN.symm
   ·obtain⟨o1,o2,o3⟩:=KS.mp O;refine KS.mpr ⟨o1,PX.mpr ⟨λu G=>c.asym _ _ (by have:=hY u G;simpa[bey]using this),o2⟩,λu G v hv=>?_⟩
    rcases KZ.mp hv with g|g
    ·subst g;have:=hX u G;simpa[bey]using this
    ·exact o3 u G v g
 ·rintro x B ⟨rfl,D,T,kp,ea,J,hD,O⟩;exact⟨rfl,D,T,kp,ea,J,∅,O⟩
 ·rintro x B ⟨rfl,D,T,kp,ea,J,hD,O⟩;exact aa (q D T B ea J hD O kp)
noncomputable def Pd:Nat->List (List L4)->List (Nat×Nat×Nat)->Prop
 |_,[],ps=>ps=[]
 |s,r::rs,ps=>∃p t,ps=(s,r.length,p)::t/\Pd (s+r.length) rs t
theorem Pd.split:∀{l t:List (List L4)} {s:Nat} {ps:List (Nat×Nat×Nat)},Pd s (l++t) ps->∃pl pt,ps=pl++pt/\pl.length=l.length/\Pd s l pl/\Pd (s+l.flatten.length) t pt
 |[],t,s,ps,h=>⟨[],ps,rfl,rfl,rfl,by simpa using h⟩
 |r::l,t,s,ps,h=>by
  obtain⟨p,q,e,h⟩:=h;obtain⟨pl,pt,e2,j,h1,h2⟩:=Pd.split h;refine⟨(s,r.length,p)::pl,pt,by rw[e,e2];rfl,by simp[j],⟨p,pl,rfl,h1⟩,?_⟩
  rw[Mv,I7,<-QC];exact h2
theorem Pd.join:∀{l t:List (List L4)} {s:Nat} {pl pt:List (Nat×Nat×Nat)},Pd s l pl->Pd (s+l.flatten.length) t pt->Pd s (l++t) (pl++pt)
 |[],t,s,pl,pt,h,g=>by have:pl=[]:=h;subst this;simpa using g
 |r::l,t,s,pl,pt,h,g=>by obtain⟨p,q,e,h⟩:=h;subst e;refine⟨p,q++pt,rfl,Pd.join h ?_⟩;rw[Mv,I7,<-QC]at g;exact g
theorem Pd.length:∀{l:List (List L4)} {s:Nat} {ps:List (Nat×Nat×Nat)},Pd s l ps->ps.length=l.length
 |[],_,_,h=>by rw[show _=[]from h];rfl
 |r::l,s,ps,h=>by obtain⟨p,q,e,h⟩:=h;rw[e];simp[h.length]
structure Rn(lt:L4->L4->Bool)(kd:PM)(a₀:List L4)(st:Mn)(rs:List (List L4))(R:List L4):Prop where
 arr:(LF st).toList=rs.flatten++R
 perm:(rs.flatten++R).Perm a₀
 ord:∀r∈rs,r≠[]/\Ord lt r
 pend:Pd 0 rs (Lf st).toList
 kind:Na st=kd
 fail:Nv st=Y
theorem Rn.merge(c:Cm prog w A s kd P lt){a₀:List L4}(hP:∀x∈a₀,P x){l t:List (List L4)}{j F:List L4}(h:Rn lt kd a₀ st (l++j::F::t) R){i:Nat}(hi:i=l.length){Q:Bool->Mn->Prop}(q:∀m st',Rn lt kd a₀ st' (l++m::t) R->m.length=j.length+F.length->Q F2 st'):wpS (Lk prog w) A E s (Vy i) Q st:=by
 obtain⟨g,lo,IM,⟨O,U,Fn⟩,fv⟩:=Ff (E:=E) c;obtain⟨pl,pt,ep,J,IG,IH⟩:=h.pend.split;obtain⟨L,t1,e1,II⟩:=IH;obtain⟨p2,t2,e2,IJ⟩:=II;subst e1 e2;have o1:=h.ord j (by simp)
 have o2:=h.ord F (by simp)
 have G:∀x,x∈j∨x∈F->P x:=λx hx=>hP x (h.perm.mem_iff.mp (by simp only[NV,Mv,Ld];rcases hx with z|z<;>simp[z]))
 have ip:∀(k:Nat) (v:Nat×Nat×Nat),(Lf st).toList[k]?=Z v->(Lf st)[k]?=Z v:=λk v e=>by rw[<-Lp];exact e
 refine fv O (U O) (Fn O) i (0+l.flatten.length) j.length L (0+l.flatten.length+j.length) F.length p2 l.flatten j F (t.flatten++R) st Q h.kind h.fail (ip _ _ ?_) (ip _ _ ?_) (by rw[h.arr];simp) (R5 _) rfl ∅ rfl o1.1 o2.1 (λx hx=>G x (.inl hx)) (λx hx=>G x (.inr hx)) o1.2 o2.2 ?_
 ·rw[ep,hi,<-J,D0 ∅,R4];rfl
 ·rw[ep,hi,<-J,D0 ∅,show pl.length+1-pl.length=1 by lia];rfl
 ·intro m st' ea hm om hk hf IK;have B:m.length=j.length+F.length:=by rw[hm.length_eq];simp
  refine q m st' ⟨by rw[ea];simp,?_,?_,?_,hk,hf⟩ B
  ·refine O7.trans ?_ h.perm;simp only[NV,Mv,Lh];refine LY _ ?_;rw[<-Lh j];exact Mw _ hm
  ·intro r hr
   rcases Ld.mp hr with z|z
   ·exact h.ord r (LD _ z)
   ·rcases KZ.mp z with z|z
    ·subst z;exact⟨λz=>by rw[z]at B;have:=Mk.mpr o1.1;simp at B;lia,om⟩
    ·exact h.ord r (by simp[z])
  ·rw[IK];have e3:(((Lf st).setIfInBounds i (0+l.flatten.length,j.length+F.length,L)).eraseIdxIfInBounds (i+1)).toList=pl++(0+l.flatten.length,j.length+F.length,L)::t2:=by
    rw[Array.toList_eraseIdxIfInBounds,Rm,ep,hi,<-J];rw[List.set_append_right _ _ ∅,R4,List.eraseIdx_append_of_length_le ∅,show pl.length+1-pl.length=1 by lia];rfl
   rw[e3];refine IG.join ⟨L,t2,by rw[B],?_⟩
   rw[B,<-QC];exact IJ
theorem qb{α:Type}{l:List α}(h:1<l.length):∃t a b,l=t++[a,b]:=by
 obtain⟨t1,b,e1⟩:∃t b,l=t++[b]:=⟨l.dropLast,l.getLast (λz=>by rw[z]at h;simp at h),(Ng _).symm⟩
 obtain⟨j,a,e2⟩:∃t b,t1=t++[b]:=⟨t1.dropLast,t1.getLast (λz=>by rw[e1,z]at h;simp at h),(Ng _).symm⟩
 exact⟨j,a,b,by rw[e1,e2];simp⟩
theorem DC{α:Type}{l:List α}{i:Nat}(h:i+1<l.length):∃t a b u,l=t++a::b::u/\t.length=i:=by
 refine⟨l.take i,l[i],l[i+1],l.drop (i+2),?_,by rw[Lu];lia⟩
 rw[<-MR ∅,<-MR ∅,MX]
theorem Rn.size{a₀:List L4}{rs:List (List L4)}(h:Rn lt kd a₀ st rs R):rs.flatten.length+R.length=a₀.length:=by have:=h.perm.length_eq;rw[I7]at this;exact this
theorem rV:∀{rs:List (List L4)},(∀r∈rs,r≠[])->rs.length<=rs.flatten.length
 |[],_=>by simp
 |r::rs,h=>by
  have h1:=Mk.mpr (h r (by simp))
  have h2:=rV (rs:=rs) λr j=>h r (by simp[j])
  rw[Mv,I7,Mf];lia
theorem wc{l:List (List L4)}{s pw:Nat}{ps:Array (Nat×Nat×Nat)}(h:Pd s l ps.toList):Pd s l (ps.modify (ps.size-1) λx=>(x.1,x.2.1,pw)).toList:=by
 rw[Array.toList_modify];have g:∀(l:List (List L4)) (s k:Nat) (ps:List (Nat×Nat×Nat)),Pd s l ps->Pd s l (ps.modify k λx=>(x.1,x.2.1,pw)):=by
  intro l
  induction l with
  |nil=>intro s k ps h;have:ps=[]:=h;subst this;cases k<;>rfl
  |cons r l ih=>
   intro s k ps h;obtain⟨p,t,e,h⟩:=h;subst e
   cases k with
   |zero=>exact⟨pw,t,rfl,h⟩
   |succ k=>exact⟨p,_,rfl,ih _ k t h⟩
 exact g _ _ _ _ h
theorem rf(c:Cm prog w A s kd P lt){Q:Unit->Mn->Prop}(hk:Na st=kd)(hf:Nv st=Y)(hp:Lf st=#[])(hP:∀x∈(LF st).toList,P x)(q:∀st',(LF st').toList.Perm (LF st).toList->Ord lt (LF st').toList->Nv st'=Y->Q () st'):wpS (Lk prog w) A E s sortRuns' Q st:=by
 rw[sortRuns'_eq];refine J4 (OD ?_)
 try dsimp only
 have hsz:(LF st).size=(LF st).toList.length:=by simp
 generalize hA:(LF st).toList=a₀ at hP q hsz;generalize hS:(LF st).size=size at hsz;generalize minRun' size size 0=minrun;refine J4 (ay (Q:=λr st'=>∃rs lo,r=(Y,lo)/\Rn lt kd a₀ st' rs [])
  (Mg (λi r st'=>∃rs R,r=(Y,rs.flatten.length)/\Rn lt kd a₀ st' rs R/\i<=rs.flatten.length) ?_ ?_ ⟨[],a₀,rfl,⟨by simpa using hA,by simp,by simp,by rw[hp];rfl,hk,hf⟩,by simp⟩) ?_)
 ·rintro i r IO _ hi ⟨rs,R,rfl,L,IK⟩
  try dsimp only
  have IZ:=L.size;refine ae (λIW=>?_) (λIW=>?_)
  ·have:R=[]:=LU.mp ∅
   subst this;exact aa ⟨rs,_,rfl,L⟩
  ·have IP:size-rs.flatten.length=R.length:=by lia
   have IX:R≠[]:=λz=>by rw[z,ND]at IP;lia
   have IQ:∀x∈R,P x:=λx hx=>hP x (L.perm.mem_iff.mp (Lo _ hx));rw[IP];refine J4 (iT c L.kind L.arr IX IQ λr R1 J ea IG U ho kp=>?_)
   try dsimp only
   have F:Rn lt kd a₀ J rs (r++R1):=⟨ea,(LY _ IG).trans L.perm,L.ord,by rw[kp.pend];exact L.pend,kp.kind.trans L.kind,kp.fail.trans L.fail⟩
   have IR:r.length+R1.length=R.length:=by rw[<-IG.length_eq];simp
   refine ae (λIM=>?_) (λIM=>?_)
   ·refine J4 (cD ?_);refine J4 (mM c F.kind F.arr U ho (n:=min R.length minrun) ∅ (by simp;lia) (λx hx=>IQ x (IG.mem_iff.mp hx)) λr2 R2 B IS IJ G IY II=>?_)
    try dsimp only
    refine ae (λh=>absurd h (by simp)) (λ_=>?_)
    have IT:r2≠[]:=λz=>by rw[z]at G;simp at G;have:=Mk.mpr U;lia
    have F:Rn lt kd a₀ B rs (r2++R2):=⟨IS,(LY _ IJ).trans F.perm,F.ord,by rw[II.pend];exact F.pend,II.kind.trans F.kind,II.fail.trans F.fail⟩
    rw[<-G];clear G IJ IS II ea IG kp IR IM;generalize B=J at F;clear ho U;have ho:=IY;have U:=IT;generalize r2=r at F ho U;generalize R2=R1 at F;refine J4 (OD ?_)
    try dsimp only
    have IU:(Lf J).size=rs.length:=by rw[<-Ly];exact F.pend.length
    cases hb:(Lf J).back? with
    |none=>
     try dsimp only
     have HL:rs.flatten.length=rs.flatten.length:=rfl;refine J4 (Nx ?_);have IN:=Mk.mpr U;have Fn:(rs++[r]).flatten.length=rs.flatten.length+r.length:=by rw[NV,I7,HL];simp
     refine aa ⟨rs++[r],R1,by rw[Fn],⟨by rw[show _=_ from F.arr];simp,?_,?_,?_,F.kind,F.fail⟩,by rw[Fn];lia⟩
     ·refine O7.trans (P2 (by simp)) F.perm
     ·intro u hu
      rcases Ld.mp hu with z|z
      ·exact F.ord u z
      ·simp at z;subst z;exact⟨U,ho⟩
     ·have h8:(Lf (Po J ((Lf J).push (rs.flatten.length,r.length,0)))).toList=(Lf J).toList++[(rs.flatten.length,r.length,0)]:=by
       show((Lf J).push _).toList=_;rw[Li]
      rw[show _=_ from h8];exact F.pend.join ⟨0,[],by rw[HL,R5],rfl⟩
    |some v=>
     obtain⟨s1,n1,p1⟩:=v
     try dsimp only
     refine J4 (ay (Q:=λx st'=>x=(Y,())/\∃rs',Rn lt kd a₀ st' rs' (r++R1)/\rs'.flatten.length=rs.flatten.length)
      (Mg (λi x st'=>x=(Y,())/\∃rs',Rn lt kd a₀ st' rs' (r++R1)/\rs'.flatten.length=rs.flatten.length) ?_ ?_ ⟨rfl,rs,F,rfl⟩) ?_)
     ·rintro j x B _ hj ⟨rfl,rs',O,G⟩;refine J4 (OD ?_)
      try dsimp only
      have IH:(Lf B).size=rs'.length:=by rw[<-Ly];exact O.pend.length
      by_cases h1:(Lf B).size > 1
      ·rw[if_pos h1];have h2:(Lf B)[(Lf B).size-2]?=Z ((Lf B)[(Lf B).size-2]'∅):=LO ∅
       rw[h2]
       try dsimp only
       refine ae (λh=>?_) (λh=>?_)
       ·exact aa ⟨rfl,rs',O,G⟩
       ·obtain⟨t,a,b,e⟩:=qb (l:=rs') ∅
        subst e;refine J4 (O.merge c hP (by rw[IH];simp) λm fv h4 hm=>?_)
        refine ae (λh=>absurd h (by simp)) (λ_=>aa ⟨rfl,_,h4,?_⟩)
        rw[<-G];simp[hm]
      ·rw[if_neg h1];exact aa ⟨rfl,rs',O,G⟩
     ·rintro x B ⟨rfl,rs',O,G⟩;exact⟨rfl,rs',O,G⟩
     ·rintro x B ⟨rfl,rs',O,G⟩
      try dsimp only
      refine J4 (Nx ?_);have h4:Rn lt kd a₀ (Po B ((Lf B).modify ((Lf B).size-1) λx=>(x.1,x.2.1,power' size (2*s1+n1) (2*s1+n1+n1+r.length) size))) rs' (r++R1):=⟨O.arr,O.perm,O.ord,wc O.pend,O.kind,O.fail⟩;generalize IV:Po B ((Lf B).modify ((Lf B).size-1) λx=>(x.1,x.2.1,power' size (2*s1+n1) (2*s1+n1+n1+r.length) size))=fv at h4;have HL:=G;refine J4 (Nx ?_);have IN:=Mk.mpr U;have Fn:(rs'++[r]).flatten.length=rs.flatten.length+r.length:=by rw[NV,I7,HL];simp
      refine aa ⟨rs'++[r],R1,by rw[Fn],⟨by rw[show _=_ from h4.arr];simp,?_,?_,?_,h4.kind,h4.fail⟩,by rw[Fn];lia⟩
      ·refine O7.trans (P2 (by simp)) h4.perm
      ·intro u hu
       rcases Ld.mp hu with z|z
       ·exact h4.ord u z
       ·simp at z;subst z;exact⟨U,ho⟩
      ·have h8:(Lf (Po fv ((Lf fv).push (rs.flatten.length,r.length,0)))).toList=(Lf fv).toList++[(rs.flatten.length,r.length,0)]:=by
        show((Lf fv).push _).toList=_;rw[Li]
       rw[show _=_ from h8];exact h4.pend.join ⟨0,[],by rw[HL,R5],rfl⟩
   ·clear ea IG kp IR IM;refine J4 (OD ?_)
    try dsimp only
    have IU:(Lf J).size=rs.length:=by rw[<-Ly];exact F.pend.length
    cases hb:(Lf J).back? with
    |none=>
     try dsimp only
     have HL:rs.flatten.length=rs.flatten.length:=rfl;refine J4 (Nx ?_);have IN:=Mk.mpr U;have Fn:(rs++[r]).flatten.length=rs.flatten.length+r.length:=by rw[NV,I7,HL];simp
     refine aa ⟨rs++[r],R1,by rw[Fn],⟨by rw[show _=_ from F.arr];simp,?_,?_,?_,F.kind,F.fail⟩,by rw[Fn];lia⟩
     ·refine O7.trans (P2 (by simp)) F.perm
     ·intro u hu
      rcases Ld.mp hu with z|z
      ·exact F.ord u z
      ·simp at z;subst z;exact⟨U,ho⟩
     ·have h8:(Lf (Po J ((Lf J).push (rs.flatten.length,r.length,0)))).toList=(Lf J).toList++[(rs.flatten.length,r.length,0)]:=by
       show((Lf J).push _).toList=_;rw[Li]
      rw[show _=_ from h8];exact F.pend.join ⟨0,[],by rw[HL,R5],rfl⟩
    |some v=>
     obtain⟨s1,n1,p1⟩:=v
     try dsimp only
     refine J4 (ay (Q:=λx st'=>x=(Y,())/\∃rs',Rn lt kd a₀ st' rs' (r++R1)/\rs'.flatten.length=rs.flatten.length)
      (Mg (λi x st'=>x=(Y,())/\∃rs',Rn lt kd a₀ st' rs' (r++R1)/\rs'.flatten.length=rs.flatten.length) ?_ ?_ ⟨rfl,rs,F,rfl⟩) ?_)
     ·rintro j x B _ hj ⟨rfl,rs',O,G⟩;refine J4 (OD ?_)
      try dsimp only
      have IH:(Lf B).size=rs'.length:=by rw[<-Ly];exact O.pend.length
      by_cases h1:(Lf B).size > 1
      ·rw[if_pos h1];have h2:(Lf B)[(Lf B).size-2]?=Z ((Lf B)[(Lf B).size-2]'∅):=LO ∅
       rw[h2]
       try dsimp only
       refine ae (λh=>?_) (λh=>?_)
       ·exact aa ⟨rfl,rs',O,G⟩
       ·obtain⟨t,a,b,e⟩:=qb (l:=rs') ∅
        subst e;refine J4 (O.merge c hP (by rw[IH];simp) λm fv h4 hm=>?_)
        refine ae (λh=>absurd h (by simp)) (λ_=>aa ⟨rfl,_,h4,?_⟩)
        rw[<-G];simp[hm]
      ·rw[if_neg h1];exact aa ⟨rfl,rs',O,G⟩
     ·rintro x B ⟨rfl,rs',O,G⟩;exact⟨rfl,rs',O,G⟩
     ·rintro x B ⟨rfl,rs',O,G⟩
      try dsimp only
      refine J4 (Nx ?_);have h4:Rn lt kd a₀ (Po B ((Lf B).modify ((Lf B).size-1) λx=>(x.1,x.2.1,power' size (2*s1+n1) (2*s1+n1+n1+r.length) size))) rs' (r++R1):=⟨O.arr,O.perm,O.ord,wc O.pend,O.kind,O.fail⟩;generalize IV:Po B ((Lf B).modify ((Lf B).size-1) λx=>(x.1,x.2.1,power' size (2*s1+n1) (2*s1+n1+n1+r.length) size))=fv at h4;have HL:=G;refine J4 (Nx ?_);have IN:=Mk.mpr U;have Fn:(rs'++[r]).flatten.length=rs.flatten.length+r.length:=by rw[NV,I7,HL];simp
      refine aa ⟨rs'++[r],R1,by rw[Fn],⟨by rw[show _=_ from h4.arr];simp,?_,?_,?_,h4.kind,h4.fail⟩,by rw[Fn];lia⟩
      ·refine O7.trans (P2 (by simp)) h4.perm
      ·intro u hu
       rcases Ld.mp hu with z|z
       ·exact h4.ord u z
       ·simp at z;subst z;exact⟨U,ho⟩
      ·have h8:(Lf (Po fv ((Lf fv).push (rs.flatten.length,r.length,0)))).toList=(Lf fv).toList++[(rs.flatten.length,r.length,0)]:=by
        show((Lf fv).push _).toList=_;rw[Li]
       rw[show _=_ from h8];exact h4.pend.join ⟨0,[],by rw[HL,R5],rfl⟩
 ·rintro r IO ⟨rs,R,rfl,L,IK⟩;have:=L.size;have:R=[]:=LU.mp ∅
  subst this;exact⟨rs,_,rfl,L⟩
 ·rintro r IO ⟨rs,lo,rfl,L⟩
  try dsimp only
  refine J4 (ay (Q:=λr st'=>r=(Y,())/\∃rs,Rn lt kd a₀ st' rs []/\rs.length<=1)
   (Mg (λi r st'=>r=(Y,())/\∃rs,Rn lt kd a₀ st' rs []/\rs.length+i<=size) ?_ ?_ ⟨rfl,rs,L,?_⟩) ?_)
  ·rintro i r J _ hi ⟨rfl,rs,L,IK⟩;refine J4 (OD ?_)
   try dsimp only
   have IU:(Lf J).size=rs.length:=by rw[<-Ly];exact L.pend.length
   refine ae (λh=>?_) (λh=>?_)
   ·exact aa ⟨rfl,rs,L,∅⟩
   ·have go:∀k,k+1<rs.length->wpS (Lk prog w) A E s (Vy k) (fun b st'=>b=F2/\∃rs',Rn lt kd a₀ st' rs' []/\rs'.length+1=rs.length) J:=by
     intro k hk;obtain⟨t,a,b,u,e,ht⟩:=DC hk;subst e;refine L.merge c hP ht.symm λm B O _=>⟨rfl,_,O,by simp;lia⟩
    refine J4 (ay (go _ ?_) ?_)
    ·(repeat' split)<;>lia
    ·rintro b B ⟨rfl,rs',O,G⟩;refine ae (λh=>absurd h (by simp)) (λ_=>aa ⟨rfl,rs',O,∅⟩)
  ·rintro r J ⟨rfl,rs,L,IK⟩;exact⟨rfl,rs,L,∅⟩
  ·have h1:=rV λr hr=>(L.ord r hr).1;have h2:=L.size;simp only[ND]at h2;lia
  ·rintro r J ⟨rfl,rs,L,hl⟩;refine aa (q J (by rw[L.arr];exact L.perm) ?_ L.fail)
   rw[L.arr,MJ]
   match rs,hl,L with
   |[],_,_=>exact RB
   |[r],_,L=>simpa using(L.ord r (by simp)).2
end
end Srt
namespace Srt
def fH(cap:Nat):Prop:=∀(prog:Ln) (w:LL) (A:LQ) (E:gV->q7->Prop) (s:q7) (kd:PM) (P:L4->Prop) (lt:L4->L4->Bool),Cm prog w A s kd P lt->∀(st:Mn) (Q:Unit->Mn->Prop),Na st=kd->Nv st=Y->Lf st=#[]->(∀x∈(LF st).toList,P x)->2<=(LF st).size->(LF st).size<=cap->
 (∀st',(LF st').toList.Perm (LF st).toList->Ord lt (LF st').toList->Nv st'=Y->Q () st')->wpS (Lk prog w) A E s sortRuns' Q st
theorem ub{cap:Nat}:fH cap:=λ_ _ _ _ _ _ _ _ c _ _ j hf z B _ _ q=>rf c j hf z B q
theorem rh:fH 63:=by
 intro prog w A E s kd P lt c st Q hk hf Fn fv h2 IG q;rw[sortRuns'_eq];refine J4 (OD ?_);dsimp only;have J:minRun' (LF st).size (LF st).size 0=(LF st).size:=by
  obtain⟨f,hf⟩:∃f,(LF st).size=f+1:=⟨(LF st).size-1,∅⟩
  have:minRun' (f+1) (LF st).size 0=(LF st).size:=by rw[minRun'_succ,if_pos ∅];rfl
  rwa[<-hf]at this
 rw[J];have hsz:(LF st).size=(LF st).toList.length:=by simp
 generalize hA:(LF st).toList=a₀ at fv q hsz;generalize hS:(LF st).size=size at hsz h2 IG J;have h0:a₀≠[]:=λz=>by rw[z]at hsz;simp at hsz;lia
 refine J4 (ay (Q:=λr st'=>r=(Y,size)/\(LF st').toList.Perm a₀/\Ord lt (LF st').toList/\Nv st'=Y/\Lf st'=#[(0,size,0)])
  (Mg (λi r st'=>(i=0/\r=(Y,0)/\st'=st)∨(1<=i/\r=(Y,size)/\(LF st').toList.Perm a₀/\Ord lt (LF st').toList/\Nv st'=Y/\Lf st'=#[(0,size,0)])) ?_ ?_ (.inl ⟨rfl,rfl,rfl⟩)) ?_)
 ·rintro i r B _ hi (⟨rfl,rfl,rfl⟩|⟨_,rfl,hD⟩)
  ·dsimp only;rw[if_neg ∅]
   rw[show size-0=a₀.length by lia,show min a₀.length size=size by lia]
   refine J4 (iT (L:=[]) c hk hA h0 fv λr R O ea F IH ho kp=>?_);dsimp only;have hl:=F.length_eq;rw[I7]at hl;have fin:∀(r':List L4) (j:Mn),(LF j).toList=r'->r'.Perm a₀->Ord lt r'->Kp B j->wpS (Lk prog w) A E s (modify λz=>Po z ((Lf z).push (0,size,0))) (λ_ st'=>(LF st').toList.Perm a₀/\Ord lt (LF st').toList/\Nv st'=Y/\Lf st'=#[(0,size,0)]) j:=λr' j e3 p3 o3 k3=>by refine Nx ?_;exact⟨by show(LF j).toList.Perm a₀;rw[e3];exact p3,by show Ord lt (LF j).toList;rw[e3];exact o3,k3.fail.trans hf,by show(Lf j).push _=_;rw[k3.pend,Fn];rfl⟩
   by_cases hlt:r.length<size
   ·rw[if_pos hlt];refine J4 (cD ?_);refine J4 (mM (L:=[]) c (kp.kind.trans hk) ea IH ho (n:=size) ∅ (by simp;lia) (λx hx=>fv x (F.mem_iff.mp hx)) λr2 R2 j II G IO IJ U=>?_)
    rw[if_neg (by simp)]
    refine J4 (OD ?_);have hb:(Lf j).back?=Y:=by rw[U.pend,kp.pend,Fn];rfl
    rw[hb];dsimp only;have IK:=G.length_eq;rw[I7,I7]at IK;have:R2=[]:=LU.mp ∅
    subst this;rw[show 0+size=size by lia]
    refine J4 (ay (fin r2 j (by simpa using II) (by simpa using G.trans F) IJ (kp.trans U)) λ_ IM h4=>aa (.inr ⟨∅,rfl,h4⟩))
   ·rw[if_neg hlt];refine J4 (OD ?_);have hb:(Lf O).back?=Y:=by rw[kp.pend,Fn];rfl
    rw[hb];dsimp only;have:R=[]:=LU.mp ∅
    subst this;have IN:r.length=size:=by simp at hl;lia
    rw[IN,show 0+size=size by lia]
    refine J4 (ay (fin r O (by simpa using ea) (by simpa using F) ho kp) λ_ IM h4=>aa (.inr ⟨∅,rfl,h4⟩))
  ·dsimp only;rw[if_pos (Le _)];exact aa ⟨rfl,hD⟩
 ·rintro r B (⟨h,_,_⟩|⟨_,rfl,hD⟩)
  ·lia
  ·exact⟨rfl,hD⟩
 ·rintro r B ⟨rfl,p1,o1,f1,pd⟩;dsimp only;refine J4 (ay (Mg (I:=λ_ c st''=>st''=B/\c=(Y,())) (Q:=λc st''=>st''=B/\c=(Y,())) ?_ (λ_ _ hh=>hh) ⟨rfl,rfl⟩) ?_)
  ·rintro x c st'' _ _ ⟨rfl,rfl⟩;refine J4 (OD ?_);rw[if_pos (by rw[pd];exact Le 1)]
   exact aa ⟨rfl,rfl⟩
  ·rintro c st'' ⟨rfl,rfl⟩;exact aa (q _ p1 o1 f1)
end Srt
namespace Srt
inductive Ky where
 |int (i:Int)
 |tup (l:List Ky)
mutual
noncomputable def aw:Ky->Ky->Ordering
 |.int a,.int b=>if a<b then .lt else if a=b then .eq else .gt
 |.int _,.tup _=>.lt
 |.tup _,.int _=>.gt
 |.tup a,.tup b=>cmpKs a b
noncomputable def cmpKs:List Ky->List Ky->Ordering
 |[],[]=>.eq
 |[],_::_=>.lt
 |_::_,[]=>.gt
 |x::xs,y::ys=>(aw x y).then (cmpKs xs ys)
end
mutual
theorem dl:∀a b,aw b a=(aw a b).swap
 |.int a,.int b=>by
  simp only[aw]
  by_cases h1:a<b
  ·rw[if_pos h1,if_neg ∅,if_neg ∅];rfl
  ·by_cases h2:a=b
   ·rw[if_neg h1,if_pos h2,if_neg ∅,if_pos h2.symm];rfl
   ·rw[if_neg h1,if_neg h2,if_pos ∅];rfl
 |.int _,.tup _=>by simp[aw]
 |.tup _,.int _=>by simp[aw]
 |.tup a,.tup b=>by simp only[aw];exact cmpKs_swap a b
theorem cmpKs_swap:∀a b,cmpKs b a=(cmpKs a b).swap
 |[],[]=>rfl
 |[],_::_=>rfl
 |_::_,[]=>rfl
 |x::xs,y::ys=>by
  simp only[cmpKs];rw[dl x y,cmpKs_swap xs ys]
  cases aw x y<;>rfl
end
mutual
theorem iy:∀a b,aw a b=.eq->a=b
 |.int a,.int b,h=>by
  simp only[aw]at h
  by_cases h1:a<b
  ·rw[if_pos h1]at h;cases h
  ·by_cases h2:a=b
   ·rw[h2]
   ·rw[if_neg h1,if_neg h2]at h;cases h
 |.int _,.tup _,h=>by simp[aw]at h
 |.tup _,.int _,h=>by simp[aw]at h
 |.tup a,.tup b,h=>by simp only[aw]at h;rw[cmpKs_eq a b h]
theorem cmpKs_eq:∀a b,cmpKs a b=.eq->a=b
 |[],[],_=>rfl
 |[],_::_,h=>by simp[cmpKs]at h
 |_::_,[],h=>by simp[cmpKs]at h
 |x::xs,y::ys,h=>by
  simp only[cmpKs]at h
  cases e:aw x y with
  |lt=>rw[e]at h;cases h
  |gt=>rw[e]at h;cases h
  |eq=>rw[e]at h;rw[iy x y e,cmpKs_eq xs ys h]
end
mutual
theorem jU:∀a b c,aw a b=.lt->aw b c=.lt->aw a c=.lt
 |.int a,.int b,.int c,h,g=>by
  simp only[aw]at h g⊢;have h1:a<b:=by
   by_cases h1:a<b
   ·exact h1
   ·rw[if_neg h1]at h;split at h<;>cases h
  have h2:b<c:=by
   by_cases h1:b<c
   ·exact h1
   ·rw[if_neg h1]at g;split at g<;>cases g
  rw[if_pos ∅]
 |.int _,.tup _,.int _,_,g=>by simp[aw]at g
 |.int _,.int _,.tup _,_,_=>by simp[aw]
 |.int _,.tup _,.tup _,_,_=>by simp[aw]
 |.tup _,.int _,_,h,_=>by simp[aw]at h
 |.tup _,.tup _,.int _,_,g=>by simp[aw]at g
 |.tup a,.tup b,.tup c,h,g=>by simp only[aw]at h g⊢;exact cmpKs_trans a b c h g
theorem cmpKs_trans:∀a b c,cmpKs a b=.lt->cmpKs b c=.lt->cmpKs a c=.lt
 |[],[],_,h,_=>by simp[cmpKs]at h
 |[],_::_,[],_,g=>by simp[cmpKs]at g
 |[],_::_,_::_,_,_=>by simp[cmpKs]
 |_::_,[],_,h,_=>by simp[cmpKs]at h
 |_::_,_::_,[],_,g=>by simp[cmpKs]at g
 |x::xs,y::ys,z::zs,h,g=>by
  simp only[cmpKs]at h g⊢
  cases e:aw x y with
  |gt=>rw[e]at h;cases h
  |eq=>
   have:=iy x y e;subst this;rw[e]at h
   cases e2:aw x z with
   |gt=>rw[e2]at g;cases g
   |lt=>rfl
   |eq=>rw[e2]at g;exact cmpKs_trans xs ys zs h g
  |lt=>
   cases e2:aw y z with
   |gt=>rw[e2]at g;cases g
   |lt=>rw[jU x y z e e2];rfl
   |eq=>have:=iy y z e2;subst this;rw[e];rfl
end
noncomputable def ltK(a b:Ky):Bool:=aw a b==.lt
noncomputable def qc(a b:List Ky):Bool:=cmpKs a b==.lt
theorem qd(a b:Ky)(h:ltK a b=F2):ltK b a=Md:=by unfold ltK at h⊢;rw[dl a b,(by simpa using h:aw a b=.lt)];rfl
theorem mN(a b:Ky)(h:ltK a b=Md)(g:ltK b a=Md):a=b:=by
 unfold ltK at h g;rw[dl a b]at g;apply iy
 cases e:aw a b with
 |eq=>rfl
 |lt=>rw[e]at h;cases h
 |gt=>rw[e]at g;cases g
theorem Bo(a b c:Ky)(h:ltK a c=F2):ltK a b=F2∨ltK b c=F2:=by
 cases e:ltK a b with
 |true=>exact .inl rfl
 |false=>
  right
  cases e2:ltK b a with
  |false=>rw[mN a b e e2]at h;exact h
  |true=>unfold ltK at h e2⊢;rw[jU b a c (by simpa using e2) (by simpa using h)];rfl
theorem wd(x y:Ky)(xs ys:List Ky):qc (x::xs) (y::ys)=if(!ltK x y && !ltK y x)=F2 then qc xs ys else ltK x y:=by
 unfold qc ltK;rw[dl x y];simp only[cmpKs]
 cases aw x y<;>simp
mutual
noncomputable def toK:MP->Ky
 |.int i=>.int i
 |.tuple xs=>.tup (toKs xs)
 |_=>.int 0
noncomputable def toKs:List MP->List Ky
 |[]=>[]
 |x::xs=>toK x::toKs xs
end
inductive Cmpb:MP->MP->Prop where
 |int (a b:Int):Cmpb (.int a) (.int b)
 |nil (ys:List MP):Cmpb (.tuple []) (.tuple ys)
 |nil' (xs:List MP):Cmpb (.tuple xs) (.tuple [])
 |cons {x y:MP} {xs ys:List MP}:Cmpb x y->Cmpb (.tuple xs) (.tuple ys)->Cmpb (.tuple (x::xs)) (.tuple (y::ys))
theorem Cmpb.eqv{x y:MP}(h:Cmpb x y):Mm x y=(!ltK (toK x) (toK y) && !ltK (toK y) (toK x)):=by
 have g:∀{x y:MP},Cmpb x y->Mm x y=(aw (toK x) (toK y)==.eq):=by
  intro x y h
  induction h with
  |int a b=>
   simp only[Mm,toK,aw]
   by_cases h1:a<b
   ·rw[if_pos h1];simp;lia
   ·by_cases h2:a=b
    ·rw[if_neg h1,if_pos h2];simp[h2]
    ·rw[if_neg h1,if_neg h2];simp;lia
  |nil ys=>cases ys<;>simp[Mm,QE,toK,toKs,aw,cmpKs]
  |nil' xs=>cases xs<;>simp[Mm,QE,toK,toKs,aw,cmpKs]
  |@cons x y xs ys h1 h2 ih1 j=>
   simp only[Mm]at j⊢;simp only[QE,toK,toKs,aw,cmpKs]at j⊢;rw[ih1,j]
   cases aw (toK x) (toK y)<;>simp
 rw[g h];unfold ltK;rw[dl (toK x) (toK y)]
 cases aw (toK x) (toK y)<;>rfl
section
variable{prog:Ln}{w:LL}{A:LQ}{E:gV->q7->Prop}{s:q7}
theorem trd{b:Bool}{Q:Bool->q7->Prop}(q:Q b s):La (Lk prog w) A (truthOfDropped (.bool b)) Q E s:=by
 unfold truthOfDropped
 wp_walk
 exact q
theorem iz(a b:Int):ltK (.int a) (.int b)=decide (a<b):=by
 simp only[ltK,aw]
 by_cases h:a<b
 ·simp[h]
 ·by_cases h2:a=b<;>simp[h,h2]
theorem we{a b:Int}{t u:Tok}{Q:gV->q7->Prop}(q:Q (.bool (decide (a<b))) s):La (Lk prog w) A (V7 .Lt (.int a t) (.int b u)) Q E s:=wpAny_richCompare_same (T:="int") rfl rfl F.slot_int_lt (call_int_lt ⟨by simp,q⟩)
noncomputable def cy:List MP->List MP->Option Bool
 |x::xs,y::ys=>if Mm x y=F2 then cy xs ys else Z (ltK (toK x) (toK y))
 |_,_=>Y
theorem j7:∀{xs ys:List MP},Cmpb (.tuple xs) (.tuple ys)->ltK (toK (.tuple xs)) (toK (.tuple ys))=match cy xs ys with|some b=>b|none=>decide (xs.length<ys.length)
 |[],[],_=>rfl
 |[],_::_,_=>by simp[cy,toK,toKs,ltK,aw,cmpKs]
 |_::_,[],_=>by simp[cy,toK,toKs,ltK,aw,cmpKs]
 |x::xs,y::ys,h=>by
  cases h with
  |cons h1 h2=>
   have ih:=j7 h2;have e:∀a b:List Ky,ltK (.tup a) (.tup b)=qc a b:=λa b=>by simp[ltK,qc,aw]
   simp only[toK,toKs,e]at ih⊢;rw[wd,<-h1.eqv];simp only[cy]
   split
   ·rw[ih];simp
   ·rfl
noncomputable def cJ{α β:Type}(M:Q9)(A:LQ)(E:gV->q7->Prop)(f:α->β->Sem (ForInStep β))(Q:β->q7->Prop):List α->β->q7->Prop
 |[],c,s=>Q c s
 |x::xs,c,s=>La M A (f x c) (λr s'=>match r with|.done c'=>Q c' s'|.yield c'=>cJ M A E f Q xs c' s') E s
theorem gj{α β:Type}{M:Q9}{f:α->β->Sem (ForInStep β)}{Q:β->q7->Prop}:∀{l:List α} {c:β} {s:q7},cJ M A E f Q l c s->La M A (forIn l c f) Q E s
 |[],c,s,h=>by rw[Ri];exact z0 h
 |x::xs,c,s,h=>by
  rw[OZ];refine g8 (Mz h (λr s' j=>?_) λ_ _ z=>z)
  cases r with
  |done c'=>exact z0 j
  |yield c'=>exact gj j
theorem bZ{h:Heap}:∀{vs:List gV} {xs:List MP} {as:List N2},T8 h vs xs as->vs.length=xs.length
 |_,_,_,.nil=>rfl
 |_,_,_,.cons _ r=>by simp[bZ r]
theorem j8{α β:Type}{M:Q9}{n:Nat}{f:α->Option β×Unit->Sem (ForInStep (Option β×Unit))}{g:Bool->β}{pr:α->gV×gV}{Q:Option β×Unit->q7->Prop}:
 ∀{l:List α} {vs us:List gV} {xs ys:List MP} {as bs:List N2},l.map pr=vs.zip us->T8 s.heap vs xs as->T8 s.heap us ys bs->Cmpb (.tuple xs) (.tuple ys)->MZ xs=F2->MZ ys=F2->NS xs<=n->
  (∀(z:α) (x y:gV) (d e:MP) (as bs:List N2) (R:ForInStep (Option β×Unit)->q7->Prop),z∈l->pr z=(x,y)->PJ s.heap x d as->PJ s.heap y e bs->Cmpb d e->d.canLay0=F2->e.canLay0=F2->d.depth<=n->
   R (if Mm d e=F2 then .yield (Y,())else .done (Z (g (ltK (toK d) (toK e))),())) s->La M A (f z (Y,())) R E s)->
  Q ((cy xs ys).map g,()) s->cJ M A E f Q l (Y,()) s
 |[],vs,us,xs,ys,as,bs,e,j,B,F,_,_,_,_,q=>by
  have h1:=bZ j;have h2:=bZ B;have:vs=[]∨us=[]:=by
   cases vs with
   |nil=>exact .inl rfl
   | cons v vs=>cases us with
     |nil=>exact .inr rfl
     |cons u us=>simp at e
  have e2:cy xs ys=Y:=by
   rcases this with rfl|rfl
   ·cases xs with
    |nil=>simp[cy]
    |cons x xs=>simp at h1
   ·cases ys with
    |nil=>cases xs<;>simp[cy]
    |cons y ys=>simp at h2
  rw[e2]at q;exact q
 |z::l,vs,us,xs,ys,as,bs,e,j,B,F,lx,ly,hd,hf,q=>by
  cases j with
  |nil=>simp at e
  |cons rx j=>
   cases B with
   |nil=>simp at e
   |cons ry B=>
    simp only[Lc,PV,P4]at e;simp only[MZ,p0]at lx ly;simp only[NS]at hd
    cases F with
    |cons G J=>
     simp only[cJ];refine hf z _ _ _ _ _ _ _ (by simp) e.1 rx ry G lx.1 ly.1 ∅ ?_
     simp only[cy]at q
     split at q
     ·next h=>rw[if_pos h];exact j8 e.2 j B J lx.2 ly.2 ∅ (λz x y d e as bs R L=>hf z x y d e as bs R (by simp[L])) q
     ·next h=>rw[if_neg h];exact q
def Gn(n:Nat):Prop:=∀(prog:Ln) (w:LL) (A:LQ) (s:q7) (a b:gV) (d e:MP) (as bs:List N2) (E:gV->q7->Prop) (Q:gV->q7->Prop),d.depth<=n->Cmpb d e->PJ s.heap a d as->PJ s.heap b e bs->d.canLay0=F2->e.canLay0=F2->A.units+n+1<Om->
 Q (.bool (ltK (toK d) (toK e))) s->La (Lk prog w) A (V7 .Lt a b) Q E s
theorem Fh:∀n,Gn n:=by
 intro n
 induction n with
 |zero=>
  intro prog w A s a b d e as bs E Q hd z ra rb ld le Fn q
  cases z with
  |int i j=>
   cases ra;cases rb
   exact we (by rw[<-iz];exact q)
  |nil ys=>simp[OS]at hd
  |nil' xs=>simp[OS]at hd
  |cons _ _=>simp[OS]at hd
 |succ n ih=>
  intro prog w A s a b d e as bs E Q hd z ra rb ld le Fn q;have tup:∀xs ys,d=.tuple xs->e=.tuple ys->La (Lk prog w) A (V7 .Lt a b) Q E s:=by
   rintro xs ys rfl rfl
   cases ra with
   |tuple h1 h2 fv G=>
    cases rb with
    |tuple g1 g2 g3 J=>
     rename_i l ol vl nl p ob vb nb;have tl:s.TypeIs (.ref l) "tuple":=⟨_,h1,h2⟩;have tb:s.TypeIs (.ref p) "tuple":=⟨_,g1,g2⟩;refine wpAny_richCompare_same_room tl tb Vf (LR Vf tl F.entry_tuple_lt ?_ (F.args_tuple_lt_2 _ _)) ∅
     unfold Nq.«tuple.__lt__»;refine g8 ?_;have L:isSubtype (.type "tuple") (.type "tuple")=pure F2:=by rw[Qj];kernel_rfl
     wp_walk
     rw[fv]
     wp_walk
     rw[g3];refine z0 ?_;refine z0 ?_;refine g8 (gj (j8 (n:=n) (g:=λb=>Fin.done (Flow.ret (TQ b))) (pr:=id) (List.map_id _) G J z ld le (by simp[OS]at hd;lia) ?_ ?_))
     ·rintro⟨x,y⟩ x' y' d e as bs R _ hz rx ry z ld le hd r
      cases hz
      dsimp only;refine g8 (UO d e _ _ _ _ _ _ rx ry ld le ?_ prog w E _ ?_)
      ·show A.units+1+min d.depth e.depth<Om;lia
      ·by_cases B:Mm d e=F2
       ·rw[if_pos B]at r;rw[B];exact z0 r
       ·rw[if_neg B]at r;have B:Mm d e=Md:=by simpa using B
        rw[B];refine g8 (Nt (g8 (ih prog w _ s x y d e as bs E _ hd z rx ry ld le ?_ ?_)))
        ·show A.units+1+n+1<Om;lia
        ·exact z0 r
     ·have e1:=j7 z
      cases e2:cy xs ys with
      |some b=>rw[e2]at e1;dsimp only at e1;rw[e1]at q;exact z0 ⟨_,rfl,by simp,q⟩
      |none=>
       rw[e2]at e1;dsimp only at e1;rw[e1]at q;have O:=bZ G;have U:=bZ J;refine z0 ⟨_,rfl,?_,?_⟩
       ·simp[Qp]
       ·simp only[Ly]at O U;simp only[Qp];rw[O,U];exact q
  cases z with
  |int i j=>
   cases ra;cases rb
   exact we (by rw[<-iz];exact q)
  |nil ys=>exact tup _ _ rfl rfl
  |nil' xs=>exact tup _ _ rfl rfl
  |cons _ _=>exact tup _ _ rfl rfl
end
end Srt
namespace Srt
variable{n:Nat}
section
variable{prog:Ln}{w:LL}{A:LQ}{E:gV->q7->Prop}{s:q7}
theorem jV{α β:Type}{M:Q9}{f:α->Sem β}{g:α->β}:∀{l:List α} {Q:List β->q7->Prop},(∀x∈l,∀R:β->q7->Prop,R (g x) s->La M A (f x) R E s)->Q (l.map g) s->La M A (l.mapM f) Q E s
 |[],Q,_,q=>by rw[List.mapM_nil];exact z0 q
 |x::xs,Q,h,q=>by rw[Ro];refine g8 (h x (by simp) _ (g8 (jV (λy j=>h y (by simp[j])) (z0 q))))
theorem eN{α β:Type}{M:Q9}{f:α->Sem β}{g:α->β}{xs:Array α}{Q:Array β->q7->Prop}(h:∀x∈xs.toList,∀R:β->q7->Prop,R (g x) s->La M A (f x) R E s)(q:Q (xs.map g) s):La M A (xs.mapM f) Q E s:=by
 rw[Array.mapM_eq_mapM_toList];rw[map_eq_pure_bind];refine g8 (jV h (z0 ?_));have:(xs.toList.map g).toArray=xs.map g:=by apply Qy.mp;simp
 rw[this];exact q
theorem mP{a:N2}{v:gV}{vs:List gV}{o:Obj}(h1:s.heap.get? a=Z o)(h2:o.cls=.type "tuple")(j:o.data=.seq (v::vs).toArray n){Q:Option gV->q7->Prop}(q:Q (Z v) s):La (Lk prog w) A (firstOfTuple' (.ref a)) Q E s:=by
 unfold firstOfTuple';have ty:s.TypeIs (.ref a) "tuple":=⟨_,h1,h2⟩
 wp_walk
 rw[j];refine z0 ?_;refine z0 ?_;exact z0 q
theorem Bp{a:N2}{o:Obj}{T:gV}(h1:s.heap.get? a=Z o)(h2:o.cls=T){Q:gV->q7->Prop}(q:Q T s):La (Lk prog w) A (typeOf (.ref a)) Q E s:=by
 wp_walk
 rw[h2];exact q
theorem wf{x y:gV}{d e:MP}{as bs:List N2}(j:Cmpb d e)(rx:PJ s.heap x d as)(ry:PJ s.heap y e bs)(ld:d.canLay0=F2)(le:e.canLay0=F2)(hd:d.depth<=n)(z:A.units+n+1<Om){Q:Bool->q7->Prop}(q:Q (ltK (toK d) (toK e)) s):La (Lk prog w) A (oneLt' Md x y) Q E s:=by rw[oneLt'_eq];exact g8 (Fh n prog w A s x y d e as bs E _ hd j rx ry ld le z (trd q))
theorem mQ{b:Bool}{x y:gV}{xs ys:List MP}{as bs:List N2}(hb:b=F2->∀d e,xs.head?=Z d->ys.head?=Z e->(∃i,d=.int i)/\∃i,e=.int i)(F:Cmpb (.tuple xs) (.tuple ys))(rx:PJ s.heap x (.tuple xs) as)(ry:PJ s.heap y (.tuple ys) bs)(lx:MZ xs=F2)(ly:MZ ys=F2)(hd:NS xs<=n)(hu:A.units+n+1<Om){Q:Bool->q7->Prop}(q:Q (ltK (toK (.tuple xs)) (toK (.tuple ys))) s):
 La (Lk prog w) A (keyLt' (tuples' b) x y) Q E s:=by
 cases rx with
 |tuple h1 h2 h3 G=>
  cases ry with
  |tuple g1 g2 g3 J=>
   refine g8 (Ur h1 h3 ?_);refine g8 (Ur g1 g3 ?_);refine g8 (gj (j8 (n:=n) (g:=id) (pr:=Prod.fst) (List.zipIdx_map_fst _ _) G J F lx ly hd ?_ ?_))
   ·rintro⟨⟨x,y⟩,i⟩ x' y' d e as bs R hz hp rx ry F ld le hd r
    cases hp
    dsimp only;refine g8 (UO d e _ _ _ _ _ _ rx ry ld le ∅ prog w E _ ?_)
    by_cases B:Mm d e=F2
    ·rw[if_pos B]at r;rw[B];exact z0 r
    ·rw[if_neg B]at r;have B:Mm d e=Md:=by simpa using B
     rw[B];refine g8 ?_
     by_cases z:(b&&i==0)=F2
     ·rw[z];simp only[p0,beq_iff_eq]at z;obtain⟨rfl,rfl⟩:=z;have j:=List.mem_zipIdx_iff_getElem?.mp hz;obtain⟨L,O,t1,U,e1,e2⟩:∃(L O:Int) (t1 U:Tok),x=.int L t1/\y=.int O U:=by
       generalize hV:Si _=vl at G j;generalize hU:Si _=ul at J j
       cases G with
       |nil=>simp at j
       |cons p1 p2=>
        cases J with
        |nil=>simp at j
        |cons q1 q2=>
         simp at j;obtain⟨⟨L,ei⟩,⟨O,ej⟩⟩:=hb rfl _ _ rfl rfl;subst ei ej
         cases p1;cases q1
         exact⟨_,_,_,_,j.1.symm,j.2.symm⟩
      subst e1 e2
      cases rx;cases ry
      refine oneLt_int ?_;rw[<-iz];exact z0 r
     ·have z:(b&&i==0)=Md:=by simpa using z
      rw[z];exact wf F rx ry ld le hd hu (z0 r)
   ·have e1:=j7 F
    cases e2:cy xs ys with
    |some b=>rw[e2]at e1;dsimp only at e1;rw[e1]at q;exact z0 q
    |none=>rw[e2]at e1;dsimp only at e1;rw[e1]at q;have Fn:=bZ G;have fv:=bZ J;refine z0 ?_;simp only[Ly]at Fn fv;rw[Fn,fv];exact q
end
end Srt
namespace Srt
structure qe(n:Nat)(ds:List MP):Prop where
 cmp:∀d∈ds,∀e∈ds,Cmpb d e
 lay:∀d∈ds,d.canLay0=F2/\d.depth<=n
 kind:(∀d∈ds,∃i,d=.int i)∨(∀d∈ds,∃i xs,d=.tuple (.int i::xs))∨(∀d∈ds,∃ys xs,d=.tuple (.tuple ys::xs))
noncomputable def cP(h:Heap):gV->Option gV
 |.ref a=>(h.get? a).bind λo=>match o.data with|.seq xs _=>xs[0]?|_=>Y
 |_=>Y
variable{vs:List gV}{h:Heap}{v:gV}
section
variable{prog:Ln}{w:LL}{A:LQ}{E:gV->q7->Prop}{s:q7}
noncomputable def dE(h:Heap)(x:L4):Ky:=toK (Nh h x.1)
def RdL(h:Heap)(vs:List gV)(ds:List MP):Prop:=∀v∈vs,∃d∈ds,∃as,PJ h v d as
theorem gW{arr:Array gV}{T:String}(h0:0<arr.size)(h:∀v∈arr.toList,∀R:gV->q7->Prop,R (.type T) s->La (Lk prog w) A (typeOf v) R E s){Q:Option gV->q7->Prop}(q:Q (Z (.type T)) s):La (Lk prog w) A (oneTypeOnly' arr) Q E s:=by
 rw[oneTypeOnly'_eq];refine g8 (eN (g:=λ_=>LZ T) h ?_);have e:(Qz (λ_=>LZ T) arr)[0]?=Z (LZ T):=by rw[Array.getElem?_map,LO h0];rfl
 rw[e];dsimp only;have e2:((Qz (λ_=>LZ T) arr).all λx=>x==LZ T)=F2:=by rw[Us];intro i hi;simp
 rw[e2];exact z0 q
theorem uc{n:Nat}{kd:PM}{ds:List MP}(j:RdL s.heap vs ds)(hs:qe n ds)(h:∀(x y:gV) (d e:MP) (as bs:List N2) (E:gV->q7->Prop) (Q:Bool->q7->Prop),d∈ds->e∈ds->PJ s.heap x d as->PJ s.heap y e bs->Q (ltK (toK d) (toK e)) s->La (Lk prog w) A (keyLt' kd x y) Q E s):
 Cm prog w A s kd (λx=>x.1∈vs) (λx y=>ltK (dE s.heap x) (dE s.heap y)) where
 asym:=λx y=>qd _ _
 neg:=λx y z=>Bo _ _ _
 run:=λx y E Q hx B q=>by obtain⟨d,hd,as,ra⟩:=j _ hx;obtain⟨e,he,bs,rb⟩:=j _ B;have e1:=NT (hs.lay d hd).1 ra;have e2:=NT (hs.lay e he).1 rb;unfold dE at q;rw[e1,e2]at q;exact h _ _ d e as bs E Q hd he ra rb q
theorem qf(j:∀v∈vs,∃u,cP h v=Z u):((vs.toArray.map (cP h)).all λx=>x.isSome)=F2:=by rw[Us];intro i hi;simp at hi;obtain⟨u,z⟩:=j vs[i] (Pq hi);simp[z]
theorem wg{x:gV}(hx:x∈(Vg id (vs.toArray.map (cP h))).toList):∃v∈vs,cP h v=Z x:=by simp at hx;exact hx
theorem wj{u:gV}(j:cP h v=Z u):0<(Vg id ((v::vs).toArray.map (cP h))).size:=by rw[<-Ly];simp[j]
theorem mR{d:MP}{xs:List MP}{as:List N2}(r:PJ h v (.tuple (d::xs)) as):∃a o u us n bs,v=.ref a/\h.get? a=Z o/\o.cls=.type "tuple"/\o.data=.seq (u::us).toArray n/\PJ h u d bs:=by
 cases r with
 |@tuple a o vs n xs as h1 h2 j h4=>
  generalize z:vs.toList=vl at h4
  cases h4 with
  |@cons u us _ _ bs _ B p2=>exact⟨_,_,u,us,n,bs,rfl,h1,h2,by rw[j];congr 1;apply Qy.mp;simpa using z,B⟩
theorem Fi{n:Nat}{ds:List MP}(U:RdL s.heap (v::vs) ds)(hs:qe n ds)(z:A.units+n+1<Om):
 ∃kd,(∀(E:gV->q7->Prop) (Q:PM->q7->Prop),Q kd s->La (Lk prog w) A (keyKind' (v::vs).toArray) Q E s)/\Cm prog w A s kd (λx=>x.1∈v::vs) (λx y=>ltK (dE s.heap x) (dE s.heap y)):=by
 rcases hs.kind with G|G|G
 ·refine⟨oneType',λE Q q=>?_,uc U hs λx y d e as bs E Q hd he ra rb q=>?_⟩
  ·have hint:∀u∈v::vs,∃i t,u=.int i t:=fun u z=>by
    obtain⟨d,hd,as,ra⟩:=U u z;obtain⟨i,rfl⟩:=G d hd
    cases ra
    exact⟨_,_,rfl⟩
   rw[V8];refine g8 (eN (g:=λ_=>(Y:Option gV)) (λu z R r=>?_) ?_)
   ·obtain⟨i,t,rfl⟩:=hint u (by simpa using z)
    rw[firstOfTuple'_int];exact z0 r
   ·have e1:((Qz (fun _=>(Y:Option gV)) (v::vs).toArray).all fun x=>x.isSome)=Md:=by
     simp
    rw[e1];have e2:((Qz (λ_=>(Y:Option gV)) (v::vs).toArray)[0]?.bind id).isSome=Md:=by simp
    simp only[e2,N3,if_false];refine g8 (gW (T:="int") (by simp) (λu z R r=>?_) ?_)
    ·obtain⟨i,t,rfl⟩:=hint u (by simpa using z)
     exact z0 r
    ·exact z0 q
  ·obtain⟨i,rfl⟩:=G d hd;obtain⟨j,rfl⟩:=G e he
   cases ra;cases rb
   rw[keyLt'_oneType];exact oneLt_int (by rw[<-iz];exact q)
 ·refine⟨tuples' F2,λE Q q=>?_,uc U hs λx y d e as bs E Q hd he ra rb q=>?_⟩
  ·have hf:∀u∈v::vs,∃a o i t us n,u=.ref a/\s.heap.get? a=Z o/\o.cls=.type "tuple"/\o.data=.seq (.int i t::us).toArray n:=fun u z=>by
    obtain⟨d,hd,as,ra⟩:=U u z;obtain⟨i,xs,rfl⟩:=G d hd;obtain⟨a,o,u1,us,n,bs,e1,e2,J,F,L⟩:=mR ra
    cases L
    exact⟨a,o,_,_,us,n,e1,e2,J,F⟩
   have B:∀u∈v::vs,∃i t,cP s.heap u=Z (.int i t):=λu z=>by obtain⟨a,o,i,t,us,n,rfl,e2,J,F⟩:=hf u z;exact⟨i,t,by simp[cP,e2,F]⟩
   rw[V8];refine g8 (eN (g:=cP s.heap) (λu z R r=>?_) ?_)
   ·obtain⟨a,o,i,t,us,n,rfl,e2,J,F⟩:=hf u (by simpa using z)
    refine mP e2 J F ?_;simpa[cP,e2,F]using r
   ·rw[qf (λu z=>let⟨i,t,e⟩:=B u z; ⟨_,e⟩)];refine g8 (Nt ?_);obtain⟨fv,t0,e0⟩:=B v (by simp)
    refine g8 (gW (T:="int") (wj e0) (λu z R r=>?_) ?_)
    ·obtain⟨u',O,e⟩:=wg z;obtain⟨i,t,e'⟩:=B u' O;rw[e']at e;cases e;exact z0 r
    ·exact z0 q
  ·obtain⟨i,xs,rfl⟩:=G d hd;obtain⟨j,ys,rfl⟩:=G e he;have l1:=hs.lay _ hd;have l2:=hs.lay _ he;refine mQ (n:=n) (λ_ d e hd he=>?_) (hs.cmp _ hd _ he) ra rb (by simpa[Qk]using l1.1) (by simpa[Qk]using l2.1) (by have:=l1.2;simp[OS]at this;lia) z q
   simp at hd he;subst hd he;exact⟨⟨_,rfl⟩,_,rfl⟩
 ·refine⟨tuples' Md,λE Q q=>?_,uc U hs λx y d e as bs E Q hd he ra rb q=>?_⟩
  ·have hf:∀u∈v::vs,∃a o b ob us n,u=.ref a/\s.heap.get? a=Z o/\o.cls=.type "tuple"/\o.data=.seq (.ref b::us).toArray n/\s.heap.get? b=Z ob/\ob.cls=.type "tuple":=fun u z=>by
    obtain⟨d,hd,as,ra⟩:=U u z;obtain⟨ys,xs,rfl⟩:=G d hd;obtain⟨a,o,u1,us,n,bs,e1,e2,J,F,L⟩:=mR ra
    cases L with
    |tuple h1 h2 h3 h4=>exact⟨a,o,_,_,us,n,e1,e2,J,F,h1,h2⟩
   have B:∀u∈v::vs,∃b ob,cP s.heap u=Z (.ref b)/\s.heap.get? b=Z ob/\ob.cls=.type "tuple":=λu z=>by obtain⟨a,o,b,ob,us,n,rfl,e2,J,F,L,Fn⟩:=hf u z;exact⟨b,ob,by simp[cP,e2,F],L,Fn⟩
   rw[V8];refine g8 (eN (g:=cP s.heap) (λu z R r=>?_) ?_)
   ·obtain⟨a,o,b,ob,us,n,rfl,e2,J,F,L,Fn⟩:=hf u (by simpa using z)
    refine mP e2 J F ?_;simpa[cP,e2,F]using r
   ·rw[qf (λu z=>let⟨i,t,e,_⟩:=B u z; ⟨_,e⟩)];refine g8 (Nt ?_);obtain⟨fv,t0,e0,_⟩:=B v (by simp)
    refine g8 (gW (T:="tuple") (wj e0) (λu z R r=>?_) ?_)
    ·obtain⟨u',O,e⟩:=wg z;obtain⟨b,ob,e',L,Fn⟩:=B u' O;rw[e']at e;cases e;exact Bp L Fn r
    ·exact z0 q
  ·obtain⟨zs,xs,rfl⟩:=G d hd;obtain⟨zs',ys,rfl⟩:=G e he;have l1:=hs.lay _ hd;have l2:=hs.lay _ he;exact mQ (n:=n) (λh=>by cases h) (hs.cmp _ hd _ he) ra rb (by simpa[Qk]using l1.1) (by simpa[Qk]using l2.1) (by have:=l1.2;simp[OS]at this;lia) z q
end
end Srt
namespace Srt
inductive Pl:MP->Prop where
 |int (i:Int):Pl (.int i)
 |tup (xs:List MP):(∀x∈xs,Pl x)->Pl (.tuple xs)
theorem bb{h h':Heap}(k:∀b o,h.get? b=Z o->o.cls=.type "tuple"->h'.get? b=Z o){d:MP}(p:Pl d):∀{v:gV} {as:List N2},PJ h v d as->PJ h' v d as:=by
 induction p with
 |int i=>intro v as r;cases r;exact .int _ _
 |tup xs hx ih=>
  intro v as r
  cases r with
  |tuple h1 h2 z B=>
   refine .tuple (k _ _ h1 h2) h2 z ?_;have g:∀(xs:List MP),(∀x∈xs,∀{v:gV} {as:List N2},PJ h v x as->PJ h' v x as)->∀(vs:List gV) (as:List N2),T8 h vs xs as->T8 h' vs xs as:=by
    intro xs
    induction xs with
    |nil=>intro _ vs as r;cases r;exact .nil
    |cons x xs ihx=>
     intro j vs as r
     cases r with
     |cons F p2=>exact .cons (j x (by simp) F) (ihx (λy G=>j y (by simp[G])) _ _ p2)
   exact g xs ih _ _ B
section
variable{prog:Ln}{w:LL}{A:LQ}{E:gV->q7->Prop}{s:q7}
theorem yX{α:Type}{R:α->α->Prop}:∀{l:List α},l.length<2->l.Pairwise R
 |[],_=>.nil
 |[_],_=>List.pairwise_singleton _ _
theorem Bq{α:Type}:∀{l:List α},2<=l.length->∃x r,l=x::r
 |x::r,_=>⟨x,r,rfl⟩
theorem Br{cap:Nat}(S:fH cap){m:Nat}{a:N2}{vs:List gV}{n:Nat}{ds:List MP}(ha:s.heap.get? a=Z (U2 "list" vs.toArray n))(Fn:RdL s.heap vs ds)(hs:qe m ds)(hp:∀d∈ds,Pl d)(hl:vs.length<=L3)(IK:vs.length<=cap)(hu:A.units+m+1<Om){Q:PySem.Fin->q7->Prop}(q:∀(h':Heap) (out:List gV) (n':Nat),(∀b o,b≠a->s.heap.get? b=Z o->h'.get? b=Z o)->h'.get? a=Z (U2 "list" out.toArray n')->out.Perm vs->out.Pairwise (λx y=>ltK (toK (Nh s.heap y)) (toK (Nh s.heap x))=Md)->Q (.done (.ret .none)) {s with heap:=h'}):
 La (Lk prog w) A (Nq.«list.sort» ⟨[.ref a],[]⟩) Q E s:=by
 rw[list_sort_plain];refine g8 (Ur ha rfl ?_);refine g8 (OB ha rfl ?_ (by simpa using hl) (by simp))
 have g1:=NU ha (λ_=>#[]);generalize IM:s.heap.update a (Nu λ_=>#[])=h1 at g1;generalize (if((#[]:Array gV).size==vs.toArray.size)=F2 then n else n+1)=n1 at g1
 refine g8 (V9 g1 rfl ?_);refine g8 (Qf ?_ (by simpa using hl))
 refine g8 (QB ?_ (by simp))
 refine Mj ?_;dsimp only;generalize O:({heap:=(h1.push {cls:=LZ "tuple",data:=P5 vs.toArray.toList.toArray}).push {cls:=LZ "list",data:=P5 [].toArray},gens:=s.gens,drawn:=s.drawn,toks:=s.toks,os:=s.os}:q7)=s3;have g3:s3.heap.get? a=Z (U2 "list" #[] n1):=by rw[<-O];exact i0 _ (i0 _ g1)
 have keep:∀b o,b≠a->s.heap.get? b=Z o->s3.heap.get? b=Z o:=λb o G J=>by rw[<-O,<-IM];exact i0 _ (i0 _ (by rw[Ml _ _ _ _ G];exact J))
 have keepT:∀b o,s.heap.get? b=Z o->o.cls=.type "tuple"->s3.heap.get? b=Z o:=λb o G hc=>keep b o (λz=>by rw[z,ha]at G;cases G;simp at hc) G
 have IN:RdL s3.heap vs ds:=λv hv=>by obtain⟨d,hd,as,r⟩:=Fn v hv;exact⟨d,hd,as,bb keepT (hp d hd) r⟩
 have same:∀v∈vs,Nh s3.heap v=Nh s.heap v:=λv hv=>by obtain⟨d,hd,as,r⟩:=Fn v hv;rw[NT (hs.lay d hd).1 r,NT (hs.lay d hd).1 (bb keepT (hp d hd) r)]
 have q:∀(h':Heap) (out:List gV) (n':Nat),(∀b o,b≠a->s.heap.get? b=Z o->h'.get? b=Z o)->h'.get? a=Z (U2 "list" out.toArray n')->out.Perm vs->out.Pairwise (λx y=>ltK (toK (Nh s.heap y)) (toK (Nh s.heap x))=Md)->Q (.done (.ret .none)) {s3 with heap:=h'}:=by rw[<-O];exact q
 have IP:∀A':LQ,A'.units=A.units->True:=λ_ _=>trivial;clear O
 let Good:Mn->Prop:=λst'=>Nv st'=Y/\(LF st').toList.Perm (vs.zip vs)/\(LF st').toList.Pairwise (λx y=>ltK (dE s3.heap y) (dE s3.heap x)=Md)
 by_cases F:vs.toArray.size<2
 ·rw[if_pos F,if_pos F];refine g8 (z0 ?_);have B:vs.length<2:=by simpa using F
  have run:La (Lk prog w) A ((pure ():StateT Mn Sem Unit).run (Qx general' (vs.toArray.zip vs.toArray) #[] 7 Y)) (λr s'=>s'=s3/\Good r.2) E s3:=by
   refine z0 ⟨rfl,rfl,?_,?_⟩
   ·show(vs.toArray.zip vs.toArray).toList.Perm _;simp
   ·show List.Pairwise _ (vs.toArray.zip vs.toArray).toList;exact yX (by simpa using B)
  refine g8 (Mz (Q:=λr s'=>s'=s3/\Good r.2) run (λr s' Fn=>?_) (λ_ _ z=>z));obtain⟨rfl,L,j,U⟩:=Fn;obtain⟨u,st'⟩:=r;refine g8 (V9 g3 rfl ?_);refine g8 (OB g3 rfl ?_ (by simp) (by simp only[Array.size_map];have:=j.length_eq;simp at this;rw[this];lia))
  dsimp only at L;rw[L];simp only[bne_self_eq_false,N3,if_false];refine z0 ?_;have gq:=NU g3 (λ_=>Qz (λx=>x.snd) (LF st'));have eo:Qz (λx=>x.snd) (LF st')=((LF st').toList.map λx=>x.snd).toArray:=by apply Qy.mp;simp
  refine q _ ((LF st').toList.map λx=>x.snd) _ (λb o G J=>?_) (by rw[gq,eo]) ?_ ?_
  ·rw[Ml _ _ _ _ G];exact keep b o G J
  ·have fv:=j.map (λx:L4=>x.snd);rw[UP (by simp)]at fv
   exact fv
  ·rw[Mx];refine U.imp_of_mem λ{x y} hx hy hxy=>?_;have mx:=R6 (j.mem_iff.mp hx);have my:=R6 (j.mem_iff.mp hy);unfold dE at hxy;rw[mx.1,my.1,same y.2 (by rw[<-my.1];exact my.2),same x.2 (by rw[<-mx.1];exact mx.2)]at hxy
   exact hxy
 ·rw[if_neg F,if_neg F];have B:2<=vs.length:=by simpa using F
  obtain⟨v0,IO,IG⟩:=Bq B;obtain⟨kd,IH,II⟩:=Fi (prog:=prog) (w:=w) (A:=A) (v:=v0) (vs:=IO) (by rw[<-IG];exact IN) hs hu
  rw[<-IG]at IH II;refine g8 (IH E _ ?_);have run:La (Lk prog w) A (sortRuns'.run (Qx kd (vs.toArray.zip vs.toArray) #[] 7 Y)) (λr s'=>s'=s3/\Good r.2) E s3:=by
   have ez:(LF (Qx kd (vs.toArray.zip vs.toArray) #[] 7 Y)).toList=vs.zip vs:=by show(vs.toArray.zip vs.toArray).toList=_;simp
   have h9:wpS (Lk prog w) A E s3 sortRuns' (λ_ st'=>Good st') (Qx kd (vs.toArray.zip vs.toArray) #[] 7 Y):=by
    have IJ:(LF (Qx kd (vs.toArray.zip vs.toArray) #[] 7 Y)).size=vs.length:=by rw[<-Ly,ez];simp
    refine S _ _ _ _ _ _ _ _ II (Qx kd (vs.toArray.zip vs.toArray) #[] 7 Y) _ rfl rfl rfl (λx hx=>?_) (by rw[IJ];exact B) (by rw[IJ];exact IK) λst' p1 p2 p3=>⟨p3,by rw[ez]at p1;exact p1,p2⟩
    rw[ez]at hx;exact(R6 hx).2
   exact h9
  refine g8 (Mz (Q:=λr s'=>s'=s3/\Good r.2) run (λr s' Fn=>?_) (λ_ _ z=>z));obtain⟨rfl,L,j,U⟩:=Fn;obtain⟨u,st'⟩:=r;refine g8 (V9 g3 rfl ?_);refine g8 (OB g3 rfl ?_ (by simp) (by simp only[Array.size_map];have:=j.length_eq;simp at this;rw[this];lia))
  dsimp only at L;rw[L];simp only[bne_self_eq_false,N3,if_false];refine z0 ?_;have gq:=NU g3 (λ_=>Qz (λx=>x.snd) (LF st'));have eo:Qz (λx=>x.snd) (LF st')=((LF st').toList.map λx=>x.snd).toArray:=by apply Qy.mp;simp
  refine q _ ((LF st').toList.map λx=>x.snd) _ (λb o G J=>?_) (by rw[gq,eo]) ?_ ?_
  ·rw[Ml _ _ _ _ G];exact keep b o G J
  ·have fv:=j.map (λx:L4=>x.snd);rw[UP (by simp)]at fv
   exact fv
  ·rw[Mx];refine U.imp_of_mem λ{x y} hx hy hxy=>?_;have mx:=R6 (j.mem_iff.mp hx);have my:=R6 (j.mem_iff.mp hy);unfold dE at hxy;rw[mx.1,my.1,same y.2 (by rw[<-my.1];exact my.2),same x.2 (by rw[<-mx.1];exact mx.2)]at hxy
   exact hxy
theorem ud(u:gV):checkBuiltinCall "sorted" ⟨[u],[]⟩=pure ():=by kernel_rfl
theorem mU{cap:Nat}(S:fH cap){m:Nat}{u:gV}{ds:List MP}{C:Heap->List gV->Prop}{Q:gV->q7->Prop}(hu:A.units+m+3<Om)(hs:qe m ds)(F:∀d∈ds,Pl d)(G:∀(E:gV->q7->Prop) (R:List gV->q7->Prop),(∀(h':Heap) (vs':List gV) (t':Nat),C h' vs'->RdL h' vs' ds->vs'.length<=L3/\vs'.length<=cap->s.toks<=t'->R vs' {s with heap:=h',toks:=t'})->La (Lk prog w) A.in1 (collect u) R E s)(q:∀(h1 h2:Heap) (vs out:List gV) (n' t':Nat),C h1 vs->(∀b o,h1.get? b=Z o->h2.get? b=Z o)->h2.get? h1.objs.size=Z (U2 "list" out.toArray n')->out.Perm vs->out.Pairwise (λx y=>ltK (toK (Nh h2 y)) (toK (Nh h2 x))=Md)->RdL h2 out ds->vs.length<=L3->s.toks<=t'->Q (.ref h1.objs.size) {s with heap:=h2,toks:=t'}):
 La (Lk prog w) A (call (.builtin "sorted") [u]) Q E s:=by
 refine TU (codeAny_call_builtin plain_sorted entry_sorted (Oq (ud u) ?_));unfold Builtin.sorted;refine g8 (Oq (a:=()) (by kernel_rfl) ?_)
 refine g8 (G _ _ λh1 vs t' hC L J ht=>?_);obtain⟨J,O⟩:=J;refine g8 (QB ?_ J);refine g8 (Mj ?_);have U:RdL (h1.push {cls:=LZ "list",data:=P5 vs.toArray}) vs ds:=λv B=>by obtain⟨d,hd,as,r⟩:=L v B;exact⟨d,hd,as,bb (λb o z _=>i0 _ z) (F d hd) r⟩
 have ha:(h1.push {cls:=LZ "list",data:=P5 vs.toArray}).get? h1.objs.size=Z (U2 "list" vs.toArray 0):=KY _ rfl;refine LR slot_list_sort (T:="list") ⟨_,ha,rfl⟩ entry_list_sort ?_ (args_list_sort _);refine Br S (m:=m) ha U hs F J O (by show A.units+1+1+m+1<Om;lia) λh2 out n' keep g2 j Fn=>⟨_,rfl,z0 ?_⟩
 have old:∀b o,h1.get? b=Z o->h2.get? b=Z o:=λb o z=>keep b o (Lr (KR z)) (i0 _ z);have fv:RdL h2 vs ds:=λv B=>by obtain⟨d,hd,as,r⟩:=L v B;exact⟨d,hd,as,bb (λb o z _=>old b o z) (F d hd) r⟩
 refine q h1 h2 vs out n' t' hC old g2 j ?_ (λv B=>fv v (j.mem_iff.mp B)) J ht;have same:∀v∈vs,Nh (h1.push {cls:=LZ "list",data:=P5 vs.toArray}) v=Nh h2 v:=λv B=>by obtain⟨d,hd,as,r⟩:=L v B;rw[NT (hs.lay d hd).1 (bb (λb o z _=>old b o z) (F d hd) r),NT (hs.lay d hd).1 (bb (λb o z _=>i0 _ z) (F d hd) r)]
 refine Fn.imp_of_mem λ{x y} hx hy hxy=>?_;rw[same y (j.mem_iff.mp hy),same x (j.mem_iff.mp hx)]at hxy;exact hxy
end
end Srt
namespace It
noncomputable def iO(f0:gV)(b:Bool)(d:N2)(i n ep:Nat)(ok ov:gV):Obj:={cls:=.type "dict_itemiterator",data:=.fields #[f0,.bool b,.ref d,.int i 0,.int n 0,.int ep 0,ok,ov]}
theorem slot_next:Slot "dict_itemiterator" "__next__" "dict_itemiterator.__next__":=.of (owner:="dict_itemiterator") (n:="__next__") (by rw[typeLookup_type,SO];kernel_rfl) (by decide +kernel) (by decide +kernel) (by decide +kernel) (.inl (by decide +kernel)) (by rw[Qj];kernel_rfl)
theorem ce:entryFor table "dict_itemiterator.__next__"=Z Nq.«dict_itemiterator.__next__»:=UQ (by kernel_rfl)
theorem cG(a:gV):argsOk "dict_itemiterator.__next__" ⟨[a],[]⟩:=by unfold argsOk;kernel_rfl
theorem jW:mroOf (.type "dict_itemiterator")=pure [.type "dict_itemiterator",.type "object"]:=by rw[mroOf_type];kernel_rfl
variable{a it d:N2}{b:Bool}{i ep:Nat}{ov:gV}{oa:Obj}
section
variable{prog:Ln}{w:LL}{A:LQ}{E:gV->q7->Prop}{s:q7}
theorem yY{M:Q9}{Q:Option Obj->q7->Prop}(q:Q (s.heap.get? a) s):La M A (loadIfAlive a) Q E s:=λΓ p hp=>by show Sem.wp M Γ (Sem.loadIfAlive a Sem.pure) _ _ p s;rw[Sem.wp_loadIfAlive];exact q
theorem cQ(ty:s.TypeIs (.ref it) "dict_itemiterator"){types:List String}{Q:Bool->q7->Prop}(q:Q (types.any λt=>[LZ "dict_itemiterator",LZ "object"].contains (LZ t)) s):La (model prog w) A (Oe (.ref it) types) Q E s:=by
 have hm:=jW;unfold Oe
 wp_walk
 exact q
theorem wk{n:Nat}{ok:gV}{Q:Bool->q7->Prop}(hi:s.heap.get? it=Z (iO (NH a) b d i n ep ok ov))(j:s.heap.get? a=Z oa)(q:∀h',h'.get? it=Z (iO (NH a) F2 d i n ep ok ov)->MY it s.heap h'->Q Md {s with heap:=h'}):La (model prog w) A (O0 (.ref it)) Q E s:=by
 unfold O0;refine g8 (LV hi rfl (x:=NH a) rfl ?_);refine g8 (yY ?_);rw[show((a:Int)).toNat=a from L6 a,j];dsimp only;rw[if_neg (by simp)]
 refine g8 (LV hi rfl (x:=.bool b) rfl ?_)
 cases b with
 |true=>
  rw[if_neg (by decide)]
  exact z0 (q s.heap hi (Heap.SameBut.refl ..))
 |false=>
  rw[if_pos (by decide)]
  refine g8 (Lv hi (by simp) λh' e' s'=>?_)
  exact z0 (q h' e' s')
theorem wl{n:Nat}{ok k v:gV}{Q:gV->q7->Prop}(hi:s.heap.get? it=Z (iO (NH a) b d i n ep ok ov))(z:s.heap.get? a=Z oa)(q:∀h',h'.get? it=Z (iO (NH a) F2 d i n ep ok ov)->h'.get? s.heap.objs.size=Z {cls:=.type "tuple",data:=.seq #[k,v]}->(∀b o,b≠it->s.heap.get? b=Z o->h'.get? b=Z o)->Q (.ref s.heap.objs.size) {s with heap:=h'}):La (model prog w) A (Nz (.ref it) 6 k v) Q E s:=by
 unfold Nz;refine g8 (Qf ?_ (by size_fits))
 have j:=KR hi;refine g8 (wk (a:=a) (oa:=oa) (i0 _ hi) (i0 _ z) λh' e' s'=>?_);dsimp only;rw[if_neg (by simp)]
 refine z0 (q h' e' ?_ λb o B e=>?_)
 ·exact s'.extBut _ _ (MD j) (KY _ rfl)
 ·exact s'.extBut _ _ B (i0 _ e)
theorem Bs{ok cd:gV}{dd:Option N2}{sl:Array (Option gV)}{es:Array Mt}{e:Mt}{Q:Option gV->q7->Prop}(hi:s.heap.get? it=Z (iO (NH a) b d i es.size ep ok ov))(B:a≠it)(L:s.heap.get? a=Z oa)(hd:s.heap.get? d=Z {cls:=cd,dict:=dd,data:=.dict es ep,slots:=sl})(he:es[i]?=Z e)(q:∀h',h'.get? it=Z (iO (NH a) F2 d (i+1) es.size ep ok ov)->h'.get? s.heap.objs.size=Z {cls:=.type "tuple",data:=.seq #[e.key,e.val]}->(∀b o,b≠it->s.heap.get? b=Z o->h'.get? b=Z o)->Q (Z (.ref s.heap.objs.size)) {s with heap:=h'}):La (model prog w) A (O9 (.ref it)) Q E s:=by
 have ty:s.TypeIs (.ref it) "dict_itemiterator":=⟨_,hi,rfl⟩;unfold O9;refine g8 (NZ (LG (name:=Lw "__next__") ty slot_next (LR slot_next ty ce ?_ (cG _))));unfold Nq.«dict_itemiterator.__next__»;have hm:=jW
 wp_walk
 dsimp only;rw[if_neg (by simp)]
 wp_walk
 simp only[L6,he];refine g8 (Mz (Q:=λn s'=>n=2/\s'=s) ?_ (λn s' hs=>?_) λ_ _ z=>z)
 ·wp_walk
  exact⟨by kernel_rfl,rfl⟩
 obtain⟨rfl,rfl⟩:=hs;refine g8 (cQ ty ?_);refine g8 (Lv hi (by simp) λh1 e1 s1=>?_)
 refine g8 (Mj ?_);have j:Tx {s' with heap:=h1} (.ref it) "dict_itemiterator":=⟨_,e1,rfl⟩
 refine g8 (cQ j ?_);rw[if_neg (by decide +kernel)]at e1
 have e1:h1.get? it=Z (iO (NH a) b d (i+1) es.size ep ok ov):=e1;have hsz:h1.objs.size=s'.heap.objs.size:=s1.1;have F:h1.get? a=Z oa:=s1.extBut a oa B L;refine P1 (by decide +kernel) ?_
 refine g8 (cQ j ?_);refine P1 (by decide +kernel) ?_
 refine wl (s:={s' with heap:=h1}) e1 F λh2 e2 G O=>?_
 refine z0 ⟨_,rfl,z0 ?_⟩;dsimp only at G⊢;rw[hsz]at G⊢;exact q h2 e2 G λb o J e=>O b o J (s1.extBut b o J e)
theorem nx_end{f0 ok cd:gV}{dd:Option N2}{sl:Array (Option gV)}{es:Array Mt}{Q:Option gV->q7->Prop}(j:A.handled=Y)(hi:s.heap.get? it=Z (iO f0 b d es.size es.size ep ok ov))(hd:s.heap.get? d=Z {cls:=cd,dict:=dd,data:=.dict es ep,slots:=sl})(q:∀h',(∀b o,b≠it->s.heap.get? b=Z o->h'.get? b=Z o)->Q Y {s with heap:=h'}):La (model prog w) A (O9 (.ref it)) Q E s:=by
 have ty:s.TypeIs (.ref it) "dict_itemiterator":=⟨_,hi,rfl⟩;unfold O9;refine g8 (NZ (LG (name:=Lw "__next__") ty slot_next (LR slot_next ty ce ?_ (cG _))));unfold Nq.«dict_itemiterator.__next__»;have hm:=jW
 wp_walk
 dsimp only;rw[if_neg (by simp)]
 wp_walk
 have he:es[es.size]?=Y:=OT (Le _);simp only[L6,he];refine g8 (Mz (Q:=λn s'=>n=2/\s'=s) ?_ (λn s' hs=>?_) λ_ _ z=>z)
 ·wp_walk
  exact⟨by kernel_rfl,rfl⟩
 obtain⟨rfl,rfl⟩:=hs;refine g8 (Lv hi (by simp) λh1 e1 s1=>?_)
 refine g8 (m:=Vw (.type "StopIteration") []) ?_;simp only[Vw,Vx];refine g8 (MQ ?_ (by size_fits))
 refine g8 (m:=Pn _ _) (Oq (a:=Ni) (by first|rfl|(simp only[Pn];rfl)) (MQ ?_ (by size_fits)))
 simp only[raiseNew];refine g8 (Tw ?_)
 first|rw[show A.in1.handled=Y from j]|rw[j]
 refine g8 (z0 (V5 ?_));exact g8 (OE (T:="StopIteration") (b:=F2) ⟨_,KY _ rfl,rfl⟩ Rj (z0 (q _ λb o B e=>i0 _ (i0 _ (s1.extBut b o B e)))))
end
end It
namespace It
variable{it d:N2}{ep:Nat}
section
variable{prog:Ln}{w:LL}{A:LQ}{E:gV->q7->Prop}{s:q7}
theorem wm{i n:Nat}{k v:gV}{Q:gV->q7->Prop}(hi:s.heap.get? it=Z (iO .none Md d i n ep .none .none))(q:∀h',h'.get? it=Z (iO (NH s.heap.objs.size) Md d i n ep k v)->h'.get? s.heap.objs.size=Z {cls:=.type "tuple",data:=.seq #[k,v]}->(∀b o,b≠it->s.heap.get? b=Z o->h'.get? b=Z o)->Q (.ref s.heap.objs.size) {s with heap:=h'}):La (model prog w) A (Nz (.ref it) 6 k v) Q E s:=by
 unfold Nz;refine g8 (Qf ?_ (by size_fits))
 have B:=KR hi;have j:=i0 ({cls:=.type "tuple",data:=.seq [k,v].toArray}) hi;unfold O0;refine g8 (g8 (LV j rfl (x:=.none) rfl (z0 ?_)));dsimp only;rw[if_pos rfl];refine g8 (LV j rfl (x:=.none) rfl ?_);refine g8 (LV j rfl (x:=.none) rfl ?_);refine g8 (Lv j (by simp) λh1 e1 s1=>?_)
 refine g8 (Lv e1 (by simp) λh2 e2 s2=>?_)
 refine g8 (Lv e2 (by simp) λL G s3=>?_)
 refine g8 (Lv G (by simp) λF J s4=>?_)
 refine g8 (RE ?_);have kp:∀b o,b≠it->(s.heap.push {cls:=.type "tuple",data:=.seq [k,v].toArray}).get? b=Z o->F.get? b=Z o:=λb o z e=>s4.extBut b o z (s3.extBut b o z (s2.extBut b o z (s1.extBut b o z e)));refine z0 (q F J (kp _ _ (MD B) (KY _ rfl)) λb o z e=>kp b o z (i0 _ e))
theorem Bt{i:Nat}{cd:gV}{dd:Option N2}{sl:Array (Option gV)}{es:Array Mt}{e:Mt}{Q:Option gV->q7->Prop}(hi:s.heap.get? it=Z (iO .none Md d i es.size ep .none .none))(hd:s.heap.get? d=Z {cls:=cd,dict:=dd,data:=.dict es ep,slots:=sl})(he:es[i]?=Z e)(q:∀h',h'.get? it=Z (iO (NH s.heap.objs.size) Md d (i+1) es.size ep e.key e.val)->h'.get? s.heap.objs.size=Z {cls:=.type "tuple",data:=.seq #[e.key,e.val]}->(∀b o,b≠it->s.heap.get? b=Z o->h'.get? b=Z o)->Q (Z (.ref s.heap.objs.size)) {s with heap:=h'}):La (model prog w) A (O9 (.ref it)) Q E s:=by
 have ty:s.TypeIs (.ref it) "dict_itemiterator":=⟨_,hi,rfl⟩;unfold O9;refine g8 (NZ (LG (name:=Lw "__next__") ty slot_next (LR slot_next ty ce ?_ (cG _))));unfold Nq.«dict_itemiterator.__next__»;have hm:=jW
 wp_walk
 dsimp only;rw[if_neg (by simp)]
 wp_walk
 simp only[L6,he];refine g8 (Mz (Q:=λn s'=>n=2/\s'=s) ?_ (λn s' hs=>?_) λ_ _ z=>z)
 ·wp_walk
  exact⟨by kernel_rfl,rfl⟩
 obtain⟨rfl,rfl⟩:=hs;refine g8 (cQ ty ?_);refine g8 (Lv hi (by simp) λh1 e1 s1=>?_)
 refine g8 (Mj ?_);have j:Tx {s' with heap:=h1} (.ref it) "dict_itemiterator":=⟨_,e1,rfl⟩
 refine g8 (cQ j ?_);rw[if_neg (by decide +kernel)]at e1
 have e1:h1.get? it=Z (iO .none Md d (i+1) es.size ep .none .none):=e1;have hsz:h1.objs.size=s'.heap.objs.size:=s1.1;refine P1 (by decide +kernel) ?_
 refine g8 (cQ j ?_);refine P1 (by decide +kernel) ?_
 refine wm (s:={s' with heap:=h1}) e1 λh2 e2 B G=>?_
 refine z0 ⟨_,rfl,z0 ?_⟩;dsimp only at e2 B⊢;rw[hsz]at e2 B⊢;exact q h2 e2 B λb o F e=>G b o F (s1.extBut b o F e)
structure Go(h0:Heap)(s:q7)(it d:N2)(es:Array Mt)(ep i:Nat)(acc:Array gV):Prop where
 dict:∃cd dd sl,s.heap.get? d=Z {cls:=cd,dict:=dd,data:=.dict es ep,slots:=sl}
 iter:(i=0/\s.heap.get? it=Z (iO .none Md d 0 es.size ep .none .none))∨(1<=i/\∃(a:N2) (b:Bool) (ok ov:gV) (oa:Obj),s.heap.get? it=Z (iO (NH a) b d i es.size ep ok ov)/\a≠it/\s.heap.get? a=Z oa/\oa.cls=.type "tuple")
 size:acc.size=i
 nd:acc.toList.Nodup
 item:∀j,j<i->∃t e,acc[j]?=Z (.ref t)/\es[j]?=Z e/\s.heap.get? t=Z {cls:=.type "tuple",data:=.seq #[e.key,e.val]}/\h0.get? t=Y
theorem Bu(hn:A.handled=Y){S:N2}{es:Array Mt}{res:gV}{R:Vp->q7->Prop}(G:S≠it)(IJ:S≠d)(IK:it≠d)(hz:es.size<=L3)(h0:Heap)(IO:S<h0.objs.size->True):
 ∀(k i:Nat) (s:q7) (acc:Array gV) (c:Nat),es.size-i=k->i<=es.size->Go h0 s it d es ep i acc->s.heap.get? S=Z {cls:=.type "list",data:=.seq acc c}->
  (∀b o,b≠it->b≠S->h0.get? b=Z o->s.heap.get? b=Z o)->
  (∀(h':Heap) (acc':Array gV) (c':Nat),(∀b o,b≠it->b≠S->h0.get? b=Z o->h'.get? b=Z o)->h'.get? S=Z {cls:=.type "list",data:=.seq acc' c'}->acc'.size=es.size->acc'.toList.Nodup->(∀j,j<es.size->∃t e,acc'[j]?=Z (.ref t)/\es[j]?=Z e/\h'.get? t=Z {cls:=.type "tuple",data:=.seq #[e.key,e.val]}/\h0.get? t=Y)->R (.ok (.ret res)) {s with heap:=h'})->
  ON (model prog w) A (.builtin "list.extend.loop" ⟨[.ref S,.ref it,res],[]⟩) R s:=by
 intro k
 induction k with
 |zero=>
  intro i s acc c hk hi H O kp q;have J:i=es.size:=∅
  obtain⟨cd,dd,sl,hd⟩:=H.dict;refine P6 Tu ?_;unfold Nq.«list.extend.loop»;dsimp only;refine g8 ?_;have key:∀(f0:gV) (b:Bool) (ok ov:gV),s.heap.get? it=Z (iO f0 b d es.size es.size ep ok ov)->La (model prog w) (A.under (Ut "list.extend.loop" {pos:=[LB S,LB it,res]})) (O9 (.ref it)) (λa s'=>a=Y/\∃h',(∀b o,b≠it->s.heap.get? b=Z o->h'.get? b=Z o)/\s'={s with heap:=h'}) (λe s'=>R (.error e) s') s:=by intro f0 b ok ov hi;refine nx_end hn hi hd λh' kp'=>⟨rfl,h',kp',rfl⟩
  have fv:La (model prog w) (A.under (Ut "list.extend.loop" {pos:=[LB S,LB it,res]})) (O9 (.ref it)) (λa s'=>a=Y/\∃h',(∀b o,b≠it->s.heap.get? b=Z o->h'.get? b=Z o)/\s'={s with heap:=h'}) (λe s'=>R (.error e) s') s:=by
   rcases H.iter with⟨h0,e⟩|⟨h1,a,b,ok,ov,oa,e,_⟩
   ·refine key .none Md .none .none ?_;rw[<-J,h0];rw[<-J,h0]at e;exact e
   ·refine key (NH a) b ok ov ?_;rw[<-J];rw[<-J]at e;exact e
  refine Mz fv (λa s' hs=>?_) λ_ _ z=>z;obtain⟨rfl,h',kp',rfl⟩:=hs;refine z0 (q h' acc c (λb o h1 h2 e=>kp' b o h1 (kp b o h1 h2 e)) (kp' S _ G O) (by rw[H.size];exact J) H.nd λj hj=>?_)
  obtain⟨t,e,e1,e2,B,e4⟩:=H.item j ∅
  refine⟨t,e,e1,e2,kp' t _ (λz=>?_) B,e4⟩
  rcases H.iter with⟨_,e⟩|⟨_,a,b,ok,ov,oa,e,_⟩
  ·rw[z,e]at B;simp[iO]at B
  ·rw[z,e]at B;simp[iO]at B
 |succ k ih=>
  intro i s acc c hk hi H O kp q;have IM:i<es.size:=∅
  obtain⟨cd,dd,sl,hd⟩:=H.dict;have he:es[i]?=Z es[i]:=LO IM;refine P6 Tu ?_;unfold Nq.«list.extend.loop»;dsimp only;refine g8 ?_;have key:La (model prog w) (A.under (Ut "list.extend.loop" {pos:=[LB S,LB it,res]})) (O9 (.ref it)) (λv s'=>v=Z (.ref s.heap.objs.size)/\∃(h':Heap) (a:N2) (b:Bool) (ok ov:gV) (oa:Obj),s'={s with heap:=h'}/\h'.get? it=Z (iO (NH a) b d (i+1) es.size ep ok ov)/\a≠it/\h'.get? a=Z oa/\oa.cls=.type "tuple"/\h'.get? s.heap.objs.size=Z {cls:=.type "tuple",data:=.seq #[es[i].key,es[i].val]}/\∀b o,b≠it->s.heap.get? b=Z o->h'.get? b=Z o) (λe s'=>R (.error e) s') s:=by
   rcases H.iter with⟨h0,e⟩|⟨h1,a,b,ok,ov,oa,e,e1,e2,B⟩
   ·subst h0;refine Bt e hd he λh' g1 g2 g3=>⟨rfl,h',_,_,_,_,_,rfl,g1,?_,g2,rfl,g2,g3⟩;exact MD (KR e)
   ·refine Bs e e1 e2 hd he λh' g1 g2 g3=>⟨rfl,h',a,_,_,_,oa,rfl,g1,e1,g3 a oa e1 e2,B,g2,g3⟩
  refine Mz key (λv s' hs=>?_) λ_ _ z=>z;obtain⟨rfl,h',a,b,ok,ov,oa,rfl,g1,g2,g3,g4,g5,Fn⟩:=hs;have L:=KR O;refine g8 (OB (Fn S _ G O) rfl ?_ (by rw[H.size];lia) (by simp[H.size];lia))
  refine z0 ⟨Tz QW _,?_⟩;have gS:=NU (c:="list") (Fn S _ G O) (λx=>x.push (LB s.heap.objs.size));have oth:∀b o,b≠S->h'.get? b=Z o->(h'.update S (Nu λx=>x.push (LB s.heap.objs.size))).get? b=Z o:=λb o hb e=>by rw[Ml _ _ _ _ hb];exact e
  have tup_ne:∀t (o:Obj),s.heap.get? t=Z o->o.cls=.type "tuple"->t≠it/\t≠S:=λt o e ec=>by
   constructor
   ·intro z
    rcases H.iter with⟨_,e'⟩|⟨_,a,b,ok,ov,oa,e',_⟩
    ·rw[z,e']at e;cases e;simp[iO]at ec
    ·rw[z,e']at e;cases e;simp[iO]at ec
   ·intro z;rw[z,O]at e;cases e;simp at ec
  refine ih (i+1) _ _ _ ∅ ∅ ⟨⟨cd,dd,sl,oth d _ IJ.symm (Fn d _ IK.symm hd)⟩,.inr ⟨∅,a,b,ok,ov,oa,oth it _ G.symm g1,g2,oth a _ ?_ g3,g4⟩,by simp[H.size],?_,?_⟩ gS (λb o h1 h2 e=>oth b o h2 (Fn b o h1 (kp b o h1 h2 e))) λh2 IG c2=>q h2 IG c2
  ·intro z;rw[z,Fn S _ G O]at g3;cases g3;simp at g4
  ·rw[Li];refine Pf.mpr ⟨H.nd,by simp,λx hx y hy IN=>?_⟩
   simp at hy;subst hy IN;obtain⟨j,hj,ej⟩:=Nm.mp hx;obtain⟨t,e,e1,e2,B,e4⟩:=H.item j (by rw[<-H.size];simpa using hj)
   have e5:acc[j]?=Z (LB s.heap.objs.size):=by rw[<-Lp,tv hj,ej]
   rw[e5]at e1;cases e1;exact absurd (KR B) (My _)
  ·intro j hj
   by_cases IH:j<i
   ·obtain⟨t,e,e1,e2,B,e4⟩:=H.item j IH;obtain⟨t1,t2⟩:=tup_ne t _ B rfl;refine⟨t,e,?_,e2,oth t _ t2 (Fn t _ t1 B),e4⟩;rw[Array.getElem?_push_lt (by rw[H.size];exact IH)]
    rw[<-e1,LO]
   ·have:j=i:=by lia
    subst this;have U:it<s.heap.objs.size:=by
     rcases H.iter with⟨_,e'⟩|⟨_,a,b,ok,ov,oa,e',_⟩
     ·exact KR e'
     ·exact KR e'
    have II:h0.get? s.heap.objs.size=Y:=by
     cases hq:h0.get? s.heap.objs.size with
     |none=>rfl
     |some o=>exact absurd (KR (kp _ _ (MD U) (MD L) hq)) (My _)
    refine⟨s.heap.objs.size,es[j],?_,he,oth _ _ (MD L) g5,II⟩;have:=H.size;subst this;simp
end
end It
namespace It
variable{v d:N2}{es:Array Mt}{ep:Nat}{cd:gV}{dd:Option N2}{sl:Array (Option gV)}
section
variable{prog:Ln}{w:LL}{A:LQ}{E:gV->q7->Prop}{s:q7}
theorem Bv{Q:gV->q7->Prop}(j:s.heap.get? v=Z {cls:=.type "dict_items",data:=.fields #[.ref d]})(hd:s.heap.get? d=Z {cls:=cd,dict:=dd,data:=.dict es ep,slots:=sl})(q:Q (.ref s.heap.objs.size) {s with heap:=s.heap.push (iO .none Md d 0 es.size ep .none .none)}):La (model prog w) A (SU (.ref v)) Q E s:=by
 have ty:s.TypeIs (.ref v) "dict_items":=⟨_,j,rfl⟩;refine Uu ty Sx (LR Sx ty F.entry_dict_items_iter ?_ (F.args_dict_items_iter_1 _));unfold Nq.«dict_items.__iter__»
 wp_walk
 exact⟨_,rfl,"dict_itemiterator",_,⟨_,KY _ rfl,rfl⟩,slot_next.lookup,q⟩
theorem wn{Q:Bool->q7->Prop}(B:s.heap.get? v=Z {cls:=.type "dict_items",data:=.fields #[.ref d]})(q:Q Md s):La (model prog w) A (NY (.ref v)) Q E s:=by
 have ty:s.TypeIs (.ref v) "dict_items":=⟨_,B,rfl⟩;unfold NY;refine g8 (SH ty F.slot_dict_items_len.lookup ?_);generalize j:("dict_items.__len__":String)=z
 (fail_if_success (clear j z));wp_delta
 rw[show splitId z=Z ("dict_items","__len__")from by subst j;decide +kernel]
 subst j;refine g8 (OE (b:=F2) ty (by rw[Qj];kernel_rfl) ?_)
 rw[if_neg (by decide)]
 refine Ql (by decide +kernel) ?_
 refine g8 (OP ty ?_);exact z0 q
open Builtin.List in
theorem yZ{B:LQ}(hn:A.handled=Y){S:N2}{c:Nat}{R:Vp->q7->Prop}(res:gV)(J:s.heap.get? v=Z {cls:=.type "dict_items",data:=.fields #[.ref d]})(hd:s.heap.get? d=Z {cls:=cd,dict:=dd,data:=.dict es ep,slots:=sl})(G:s.heap.get? S=Z {cls:=.type "list",data:=.seq #[] c})(hz:es.size<=L3)(q:∀(h':Heap) (acc':Array gV) (c':Nat),(∀b o,b≠S->s.heap.get? b=Z o->h'.get? b=Z o)->h'.get? S=Z {cls:=.type "list",data:=.seq acc' c'}->acc'.size=es.size->acc'.toList.Nodup->(∀j,j<es.size->∃t e,acc'[j]?=Z (.ref t)/\es[j]?=Z e/\h'.get? t=Z {cls:=.type "tuple",data:=.seq #[e.key,e.val]}/\s.heap.get? t=Y)->R (.ok (.ret res)) {s with heap:=h'}):
 La (model prog w) B (listExtendWith (.ref S) (.ref v) res) (λfin s'=>match fin with|.done f=>R (.ok f) s'|.again c'=>c'.quiet=F2/\ON (model prog w) A c' R s') (λe s'=>R (.error e) s') s:=by
 have ty:s.TypeIs (.ref v) "dict_items":=⟨_,J,rfl⟩;have IG:S≠v:=λe=>by rw[e,J]at G;simp at G
 have L:S≠d:=λe=>by rw[e,hd]at G;simp at G
 have O:=KR hd;have z:=KR G;have II:=KR J;have h1:listSameRef (.ref S) (.ref v)=Md:=by simp[listSameRef,IG]
 unfold listExtendWith;refine g8 (OP ty ?_);rw[if_neg (by rw[h1];decide)]
 refine g8 (Bv J hd ?_);refine g8 (Mj (wn (d:=d) (i0 _ J) ?_));refine Ql (by decide +kernel) ?_
 refine g8 (Nt ?_);unfold listTouch;have U:(s.heap.push (iO .none Md d 0 es.size ep .none .none)).get? S=Z (U2 "list" #[] c):=i0 _ G;refine g8 (g8 (OB U rfl ?_ (by simp) (by simp)))
 have Fn:=NU U (λx=>x.push Ni);refine OB Fn rfl ?_ (by simp;decide) (by simp)
 have IH:=NU Fn (λx=>x.pop);refine z0 ⟨Tz QW _,?_⟩;have oth:∀b o,b≠S->s.heap.get? b=Z o->(((s.heap.push (iO .none Md d 0 es.size ep .none .none)).update S (Nu λx=>x.push Ni)).update S (Nu λx=>x.pop)).get? b=Z o:=λb o fv e=>by rw[Ml _ _ _ _ fv,Ml _ _ _ _ fv];exact i0 _ e
 have hit:(((s.heap.push (iO .none Md d 0 es.size ep .none .none)).update S (Nu λx=>x.push Ni)).update S (Nu λx=>x.pop)).get? s.heap.objs.size=Z (iO .none Md d 0 es.size ep .none .none):=by rw[Ml _ _ _ _ (MD z),Ml _ _ _ _ (MD z)];exact KY _ rfl
 refine Bu hn (S:=S) (it:=s.heap.objs.size) (d:=d) (es:=es) (ep:=ep) (Lr z) L (MD O) hz s.heap (λ_=>trivial) es.size 0 _ #[] _ ∅ ∅ ⟨⟨cd,dd,sl,oth d _ L.symm hd⟩,.inl ⟨rfl,hit⟩,rfl,by simp,λj hj=>∅⟩ IH (λb o h1 h2 e=>oth b o h2 e) λh' acc' c' k1 k2 k3 k5 k4=>?_
 exact q h' acc' c' (λb o fv e=>k1 b o (Lr (KR e)) fv e) k2 k3 k5 k4
theorem collect_view(hn:A.handled=Y){Q:List gV->q7->Prop}(Fn:s.heap.get? v=Z {cls:=.type "dict_items",data:=.fields #[.ref d]})(hd:s.heap.get? d=Z {cls:=cd,dict:=dd,data:=.dict es ep,slots:=sl})(hz:es.size<=L3)(q:∀(h':Heap) (us:List gV),(∀b o,s.heap.get? b=Z o->h'.get? b=Z o)->us.length=es.size->us.Nodup->(∀j,j<es.size->∃t e,us[j]?=Z (.ref t)/\es[j]?=Z e/\h'.get? t=Z {cls:=.type "tuple",data:=.seq #[e.key,e.val]}/\s.heap.get? t=Y)->Q us {s with heap:=h'}):La (model prog w) A (collect (.ref v)) Q E s:=by
 unfold collect;refine g8 (wpAny_runValue (P6 SQ ?_));unfold Nq.«proto.collect»;dsimp only;refine g8 (QB ?_ (by simp))
 refine z0 ⟨U3 _ (by decide +kernel),?_⟩
 refine P6 UR ?_;unfold Nq.«list.__iadd__»;refine g8 (Oq (a:=(LB s.heap.objs.size,[LB v])) (by kernel_rfl) ?_)
 have fv:=KR Fn;have z:(s.heap.push {cls:=LZ "list",data:=P5 [].toArray}).get? s.heap.objs.size=Z {cls:=LZ "list",data:=P5 #[] 0}:=KY _ rfl;have fin:∀(h':Heap) (acc:Array gV) (c':Nat),(∀b o,b≠s.heap.objs.size->(s.heap.push {cls:=LZ "list",data:=P5 [].toArray}).get? b=Z o->h'.get? b=Z o)->h'.get? s.heap.objs.size=Z {cls:=.type "list",data:=.seq acc c'}->acc.size=es.size->acc.toList.Nodup->(∀j,j<es.size->∃t e,acc[j]?=Z (.ref t)/\es[j]?=Z e/\h'.get? t=Z {cls:=.type "tuple",data:=.seq #[e.key,e.val]}/\(s.heap.push {cls:=LZ "list",data:=P5 [].toArray}).get? t=Y)->
  La (model prog w) A (do
   let o <-load s.heap.objs.size
   match o.data with
   |.seq xs _=>pure xs.toList
   |_=>unsupported "internal:collect") Q E {s with heap:=h'}:=by
  intro h' acc c' B G J L O;refine g8 (Vn G ?_);exact z0 (q h' acc.toList (λb o e=>B b o (Lr (KR e)) (i0 _ e)) (by simpa using J) L λj hj=>by
   obtain⟨t,e,e1,e2,e3,e4⟩:=O j hj;refine⟨t,e,by rw[Lp];exact e1,e2,e3,?_⟩
   cases hq:s.heap.get? t with
   |none=>rfl
   |some o=>rw[i0 _ hq]at e4;cases e4)
 refine Mz (yZ (s:={s with heap:=s.heap.push {cls:=LZ "list",data:=P5 [].toArray}}) (R:=λr s'=>r=.ok (.ret (.ref s.heap.objs.size))/\La (model prog w) A (do
  let o <-load s.heap.objs.size
  match o.data with
  |.seq xs _=>pure xs.toList
  |_=>unsupported "internal:collect") Q E s') hn (LB s.heap.objs.size) (i0 _ Fn) (i0 _ hd) z hz λh' acc c' B G J L O=>⟨rfl,fin h' acc c' B G J L O⟩) (λfn s' h=>?_) (λe s' h=>?_)
 ·cases fn with
  |done f=>
   obtain⟨e,h⟩:=h
   cases e
   exact h
  |again c'=>refine⟨h.1,Oo h.2 λr s1 U=>?_⟩;obtain⟨rfl,U⟩:=U;exact U
 ·cases h.1
end
end It
section
section
variable{P:Ln}{w:LL}{H:Hp}{h:Heap}{a:N2}{o:HO}
theorem ObjOk.there(x:ObjOk P w H h a o):∃ob,h.get? a=Z ob:=by
 cases o with
 |lst xs=>obtain⟨_,_,_,_,e⟩:=x;exact⟨_,e⟩
 |tup xs=>obtain⟨_,_,_,_,e,_⟩:=x;exact⟨_,e⟩
 |dK kvs=>obtain⟨_,_,_,_,o,_,_,e,_⟩:=x;exact⟨_,e⟩
 |dT kvs=>obtain⟨_,_,_,_,o,_,_,e,_⟩:=x;exact⟨_,e⟩
 |set S n=>obtain⟨o,_,_,_,e,_⟩:=x;exact⟨_,e⟩
 |ins C dx fs=>obtain⟨_,_,_,e,_⟩:=x;exact⟨_,e⟩
 |own y=>obtain⟨_,e⟩:=x;exact⟨_,e⟩
 |xd fs=>obtain⟨_,⟨_,_,_,e,_⟩,_⟩:=x;exact⟨_,e⟩
 |rng lo hi=>obtain⟨_,_,_,e⟩:=x;exact⟨_,e⟩
 |frz ob u=>obtain⟨e,_⟩:=x;exact⟨_,e⟩
 |tbl ps=>exact⟨_,show h.get? a=Z _ from x⟩
 |met f y=>exact⟨_,show h.get? a=Z _ from x⟩
 |ext φ=>obtain⟨_,⟨_,e⟩,_⟩:=x;exact⟨_,e⟩
end
noncomputable def lay(H:Hp)(N:N2->Option HO):Hp:=λb=>match N b with|some o=>Z o|none=>H b
section
variable{X:Cx}{pins:List (N2×Obj)}{σ:List (Option V)}{H:Hp}{s:q7}{h':Heap}{N:N2->Option HO}
theorem kW{o:HO}(e:N b=Z o):lay H N b=Z o:=by unfold lay;rw[e]
theorem iA(e:N b=Y):lay H N b=H b:=by unfold lay;rw[e]
theorem Inv.fresh'(I:Inv X pins σ H s)(e:s.heap.get? b=Y):H b=Y:=by
 cases q:H b with
 |none=>rfl
 |some o=>obtain⟨ob,eo⟩:=(I.hok b o q).there;rw[e]at eo;cases eo
theorem Inv.laidN(I:Inv X pins σ H s)(k:∀b u,s.heap.get? b=Z u->h'.get? b=Z u)(j:∀b o,N b=Z o->s.heap.get? b=Y)(new:∀b o,N b=Z o->ObjOk X.prog X.w (lay H N) h' b o):Inv X pins σ (lay H N) {s with heap:=h',toks:=t'}:=by
 have old:∀b u,s.heap.get? b=Z u->N b=Y:=λb u e=>by
  cases q:N b with
  |none=>rfl
  |some o=>rw[j b o q]at e;cases e
 have oldH:∀b o,H b=Z o->lay H N b=Z o:=λb o e=>by obtain⟨ob,eo⟩:=(I.hok b o e).there;rw[iA (old b ob eo)];exact e
 refine I.un ⟨λb u q _ _ _=>k b u q,λb u q _ _ _=>⟨u.slots,k b u q⟩,λb u q n _=>by rw[iA (old b u q)];exact n,λb u q _=>⟨u,k b u q⟩,λb xs q=>oldH b _ q,λb u xs q=>oldH b _ q,λb ps q=>⟨#[],by rw[oldH b _ q];simp⟩⟩ λb o e=>?_
 cases q:N b with
 |some o'=>rw[kW q]at e;cases e;exact new b o q
 |none=>rw[iA q]at e;exact(I.hok b o e).stay (λc v _ q=>k c v q) (λc q=>oldH c _ q) λc xs q=>oldH c _ q
end
namespace Mi
open L2.Srt
inductive Sh where
 |int
 |tup (l:List Sh)
mutual
noncomputable def hs:Sh->D->Bool
 |.int,.int _=>F2
 |.tup l,.tup ds=>hss l ds
 |_,_=>Md
noncomputable def hss:List Sh->List D->Bool
 |[],[]=>F2
 |s::l,d::ds=>hs s d&&hss l ds
 |_,_=>Md
end
mutual
noncomputable def pd:D->MP
 |.int i=>.int i
 |.tup ds=>.tuple (pds ds)
 |_=>.none
noncomputable def pds:List D->List MP
 |[]=>[]
 |d::ds=>pd d::pds ds
end
mutual
noncomputable def dep:Sh->Nat
 |.int=>0
 |.tup l=>deps l+1
noncomputable def deps:List Sh->Nat
 |[]=>0
 |s::l=>max (dep s) (deps l)
end
noncomputable def gX:Sh->Bool
 |.int=>F2
 |.tup (.int::l)=>decide (deps l<=6)
 |.tup (.tup a::l)=>decide (deps (.tup a::l)<=6)
 |.tup []=>Md
noncomputable def kyD(d:D):Ky:=toK (pd d)
theorem ue{x:D}(h:hs .int x=F2):∃i,x=.int i:=by cases x<;>first|exact⟨_,rfl⟩|cases h
theorem uf{l:List Sh}{x:D}(h:hs (.tup l) x=F2):∃ds,x=.tup ds/\hss l ds=F2:=by cases x<;>first|exact⟨_,rfl,h⟩|cases h
theorem nZ{a:List D}(h:hss [] a=F2):a=[]:=by
 cases a with
 |nil=>rfl
 |cons _ _=>cases h
variable{s:Sh}
theorem og{l:List Sh}{a:List D}(h:hss (s::l) a=F2):∃x r,a=x::r/\hs s x=F2/\hss l r=F2:=by
 cases a with
 |nil=>cases h
 |cons x r=>exact⟨x,r,rfl,QI.mp h⟩
mutual
theorem wo:∀(s:Sh) (x y:D),hs s x=F2->hs s y=F2->Cmpb (pd x) (pd y)
 |.int,_,_,h,g=>by obtain⟨a,rfl⟩:=ue h;obtain⟨b,rfl⟩:=ue g;simp only[pd];exact .int a b
 |.tup l,_,_,h,g=>by obtain⟨a,rfl,h⟩:=uf h;obtain⟨b,rfl,g⟩:=uf g;simp only[pd];exact hss_cmp l a b h g
theorem hss_cmp:∀(l:List Sh) (a b:List D),hss l a=F2->hss l b=F2->Cmpb (.tuple (pds a)) (.tuple (pds b))
 |[],_,_,h,g=>by cases nZ h;cases nZ g;simp only[pds];exact .nil _
 |s::l,_,_,h,g=>by obtain⟨x,a,rfl,j⟩:=og h;clear h;have h:=j;obtain⟨y,b,rfl,z⟩:=og g;clear g;have g:=z;simp only[pds];exact .cons (wo s x y h.1 g.1) (hss_cmp l a b h.2 g.2)
end
mutual
theorem jX:∀(s:Sh) (x:D),hs s x=F2->Pl (pd x)/\(pd x).canLay0=F2/\(pd x).depth<=dep s
 |.int,_,h=>by obtain⟨a,rfl⟩:=ue h;simp only[pd];exact⟨.int a,rfl,by simp[OS]⟩
 |.tup l,_,h=>by obtain⟨a,rfl,h⟩:=uf h;obtain⟨h1,h2,j⟩:=hss_pl l a h;simp only[pd];exact⟨.tup _ h1,by simpa[Qk]using h2,by simp[OS,dep];lia⟩
theorem hss_pl:∀(l:List Sh) (a:List D),hss l a=F2->(∀x∈pds a,Pl x)/\MZ (pds a)=F2/\NS (pds a)<=deps l
 |[],_,h=>by cases nZ h;simp[pds,MZ,NS]
 |s::l,_,h=>by
  obtain⟨x,a,rfl,j⟩:=og h;clear h;have h:=j;obtain⟨h1,h2,F⟩:=jX s x h.1;obtain⟨g1,g2,g3⟩:=hss_pl l a h.2;simp only[pds];refine⟨λy B=>?_,by simp[MZ,h2,g2],by simp[NS,deps];lia⟩
  rcases KZ.mp B with z|z
  ·rw[z];exact h1
  ·exact g1 y z
end
mutual
theorem oh(M:Mem):∀(s:Sh) (x:D) (n:Nat),hs s x=F2->dep s<=n->rb n M x=Z (pd x)
 |.int,_,n,h,_=>by obtain⟨a,rfl⟩:=ue h;cases n<;>simp[rb,pd]
 |.tup l,_,n,h,j=>by
  obtain⟨a,rfl,h⟩:=uf h;simp only[dep]at j;obtain⟨k,rfl⟩:∃k,n=k+1:=⟨n-1,∅⟩
  simp only[rb,pd];rw[hss_rb M l a k h ∅];rfl
theorem hss_rb(M:Mem):∀(l:List Sh) (a:List D) (n:Nat),hss l a=F2->deps l<=n->aA (rb n M) a=Z (pds a)
 |[],_,_,h,_=>by cases nZ h;simp[pds,aA]
 |s::l,_,n,h,j=>by obtain⟨x,a,rfl,z⟩:=og h;clear h;have h:=z;simp only[deps]at j;simp only[pds,aA];rw[oh M s x n h.1 ∅,hss_rb M l a n h.2 ∅];rfl
end
theorem j9(h:gX s=F2):dep s<=7:=by
 match s,h with
 |.int,_=>simp[dep]
 |.tup (.int::l),h=>simp[gX]at h;simp[dep,deps];lia
 |.tup (.tup a::l),h=>simp only[gX,decide_eq_true_eq]at h;simp only[dep];lia
theorem rW(h:gX s=F2){xs:List D}(hx:∀x∈xs,hs s x=F2):qe 7 (xs.map pd)/\∀d∈xs.map pd,Pl d:=by
 refine⟨⟨?_,?_,?_⟩,?_⟩
 ·intro d hd e he;obtain⟨x,h1,rfl⟩:=L9.mp hd;obtain⟨y,h2,rfl⟩:=L9.mp he;exact wo s x y (hx x h1) (hx y h2)
 ·intro d hd;obtain⟨x,h1,rfl⟩:=L9.mp hd;obtain⟨_,g2,g3⟩:=jX s x (hx x h1);exact⟨g2,by have:=j9 h;lia⟩
 ·match s,h with
  |.int,_=>
   left
   intro d hd;obtain⟨x,h1,rfl⟩:=L9.mp hd;have:=hx x h1
   cases x<;>simp[hs]at this
   exact⟨_,rfl⟩
  |.tup (.int::l),_=>
   right;left
   intro d hd;obtain⟨x,h1,rfl⟩:=L9.mp hd;have:=hx x h1
   cases x<;>simp[hs]at this
   rename_i ds
   cases ds with
   |nil=>simp[hss]at this
   |cons y ys=>
    simp[hss]at this
    cases y<;>simp[hs]at this
    exact⟨_,_,rfl⟩
  |.tup (.tup a::l),_=>
   right;right
   intro d hd;obtain⟨x,h1,rfl⟩:=L9.mp hd;have:=hx x h1
   cases x<;>simp[hs]at this
   rename_i ds
   cases ds with
   |nil=>simp[hss]at this
   |cons y ys=>
    simp[hss]at this
    cases y<;>simp[hs]at this
    exact⟨_,_,rfl⟩
 ·intro d hd;obtain⟨x,h1,rfl⟩:=L9.mp hd;exact(jX s x (hx x h1)).1
theorem eO{α β:Type}(f:α->β):∀{l m:List β},l.Perm m->∀{t:List α},t.map f=m->∃t':List α,t'.Perm t/\t'.map f=l:=by
 intro l m h
 induction h with
 |nil=>intro t e;exact⟨[],by rw[List.map_eq_nil_iff.mp e],rfl⟩
 |cons x h ih=>
  intro t e
  cases t with
  |nil=>simp at e
  |cons a t=>simp at e;obtain⟨t',h1,h2⟩:=ih e.2;exact⟨a::t',h1.cons a,by simp[h2,e.1]⟩
 |swap x y l=>
  intro t e
  match t,e with
  |a::b::t,e=>simp at e;exact⟨b::a::t,.swap _ _ _,by simp[e]⟩
 |trans h1 h2 j z=>intro t e;obtain⟨F,p2,e2⟩:=z e;obtain⟨t1,B,e1⟩:=j e2;exact⟨t1,B.trans p2,e1⟩
def gk(ys:List D):Prop:=ys.Pairwise λa b=>ltK (kyD b) (kyD a)=Md
theorem rX{K:Frag}{H:Hp}:∀{ds:List D} {vs:List V} {us:List gV},RDs K H ds vs->Vals vs us->∃t:List (D×V×gV),t.map (·.1)=ds/\t.map (·.2.1)=vs/\t.map (·.2.2)=us/\∀p∈t,RD K H p.1 p.2.1/\RelV p.2.1 p.2.2
 |[],vs,us,h,g=>by
  cases RDs.nil_iff.mp h
  cases g
  exact⟨[],rfl,rfl,rfl,λ_ h=>by simp at h⟩
 |d::ds,vs,us,h,g=>by
  obtain⟨v,r,rfl,h1,h2⟩:=VR.mp h
  cases g with
  |cons g1 g2=>
   rename_i u us;obtain⟨t,e1,e2,j,B⟩:=rX h2 g2;exact⟨(d,v,u)::t,by simp[e1],by simp[e2],by simp[j],λp F=>by
    rcases KZ.mp F with z|z
    ·rw[z];exact⟨h1,g1⟩
    ·exact B p z⟩
theorem rY{K:Frag}{H:Hp}:∀{t:List (D×V×gV)},(∀p∈t,RD K H p.1 p.2.1/\RelV p.2.1 p.2.2)->RDs K H (t.map (·.1)) (t.map (·.2.1))/\Vals (t.map (·.2.1)) (t.map (·.2.2))
 |[],_=>⟨RDs.nil,.nil⟩
 |p::t,h=>by
  obtain⟨h1,h2⟩:=rY (t:=t) λq j=>h q (by simp[j])
  exact⟨RDs.cons (h p (by simp)).1 h1,.cons (h p (by simp)).2 h2⟩
section
variable{X:Cx}
theorem rj{cap:Nat}(S:fH cap)(L:X.A.units+16<Om){pins:List (N2×Obj)}{s:q7}{σ:St}{H:Hp}{Q:VK}(I:Inv X pins σ H s){M:Mem}(rm:RM X.K M H){es:List D}{sh:Sh}{vs:List V}{p:N2}(rvs:RDs X.K H es vs)(hok:gX sh=F2)(O:∀d∈es,hs sh d=F2)(q:∀p ys,M p=Y->ys.Perm es->gk ys->KE' X.K M H Q (.ref p) (af M p (.lst ys))){its:List gV}(hv:Vals vs its)(hl:vs.length<=L3)(II:vs.length<=cap)(U:∀(E:gV->q7->Prop) (R:List gV->q7->Prop),(∀(h':Heap) (tk:Nat),(∀b o,s.heap.get? b=Z o->h'.get? b=Z o)->s.toks<=tk->R its {s with heap:=h',toks:=tk})->La (Lk X.prog X.w) X.A.in1 (collect (.ref p)) R E s):
 La (Lk X.prog X.w) X.A (call (.builtin "sorted") [.ref p]) (EP X pins σ Q) X.xe s:=by
 obtain⟨hS,J⟩:=rW hok O;have IM:=j9 hok;obtain⟨t,t1,t2,t3,t4⟩:=rX rvs hv;have Fn:∀pp∈t,∃as,PJ s.heap pp.2.2 (pd pp.1) as:=λpp j=>by
  have hm:pp.1∈es:=by rw[<-t1];exact Lm j
  exact bF I rm 16 pp.1 (pd pp.1) pp.2.1 pp.2.2 (oh M sh pp.1 16 (O _ hm) ∅) (t4 pp j).1 (t4 pp j).2
 have fv:RdL s.heap its (es.map pd):=λu L=>by rw[<-t3]at L;obtain⟨pp,j,rfl⟩:=L9.mp L;obtain⟨as,ra⟩:=Fn pp j;exact⟨pd pp.1,Lm (by rw[<-t1];exact Lm j),as,ra⟩
 refine mU S (m:=7) (ds:=es.map pd) (C:=λh' vs'=>vs'=its/\∀b o,s.heap.get? b=Z o->h'.get? b=Z o) ∅ hS J (λE R hR=>?_) λh1 h2 vs' out n' tk hC old g2 F IG IN IO ht=>?_
 ·refine U E R λh' tk kp IJ=>hR h' its tk ⟨rfl,kp⟩ (λu L=>?_) ⟨by rw[<-hv.length];exact hl,by rw[<-hv.length];exact II⟩ IJ
  obtain⟨d,hd,as,ra⟩:=fv u L;exact⟨d,hd,as,bb (λb o e _=>kp b o e) (J d hd) ra⟩
 ·obtain⟨rfl,kp⟩:=hC;rw[<-t3]at F;obtain⟨t',p1,p2⟩:=eO (fun pp:D×V×gV=>pp.2.2) F rfl;have hz:=rY (t:=t') fun pp j=>t4 pp (p1.mem_iff.mp j);have IH:∀b o,s.heap.get? b=Z o->h2.get? b=Z o:=fun b o e=>old b o (kp b o e);have z:s.heap.get? h1.objs.size=Y:=by
   cases hq:s.heap.get? h1.objs.size with
   |none=>rfl
   |some o=>exact absurd (KR (kp _ _ hq)) (My _)
  have IK:=I.fresh' z;have hlen:(t'.map (·.2.1)).length<=L3:=by rw[r0,p1.length_eq,<-r0 (f:=λpp:D×V×gV=>pp.2.1),t2];exact hl
  have I2:=I.laidN (t':=tk) (h':=h2) (N:=λb=>if b=h1.objs.size then Z (.lst (t'.map (·.2.1)))else Y) IH (λb o e=>by
   by_cases B:b=h1.objs.size
   ·rw[B];exact z
   ·rw[if_neg B]at e;cases e) (λb o e=>by
   by_cases B:b=h1.objs.size
   ·subst B;rw[if_pos rfl]at e;cases e;exact⟨hlen,out,n',by rw[<-p2];exact hz.2,g2⟩
   ·rw[if_neg B]at e;cases e)
  have eH:lay H (λb=>if b=h1.objs.size then Z (.lst (t'.map (·.2.1)))else Y)=upd H h1.objs.size (.lst (t'.map (·.2.1))):=by
   funext b
   unfold lay upd;dsimp only
   by_cases B:b=h1.objs.size
   ·rw[if_pos B,if_pos B]
   ·rw[if_neg B,if_neg B]
  rw[eH]at I2;refine⟨.ref h1.objs.size,_,I2,rfl,?_⟩;refine cF rm hz.1 (λp' n=>q p' _ n ?_ ?_) IK
  ·have:=p1.map (λpp:D×V×gV=>pp.1);rw[t1]at this;exact this
  ·unfold gk;rw[Mx];rw[<-p2,Mx]at IG;refine IG.imp_of_mem fun {a b} ha B hab=>?_;have rd:∀pp∈t',Nh h2 pp.2.2=pd pp.1:=fun pp j=>by
    have G:=p1.mem_iff.mp j;obtain⟨as,ra⟩:=Fn pp G;have hm:pp.1∈es:=by rw[<-t1];exact Lm G
    exact NT (hS.lay _ (Lm hm)).1 (bb (λb o e _=>IH b o e) (J _ (Lm hm)) ra)
   rw[rd a ha,rd b B]at hab;exact hab
end
end Mi
end
namespace Mi
open L2.Srt
noncomputable def kvD(kv:D×D):D:=.tup [kv.1,kv.2]
noncomputable def jY(ta:TEd):TEd:=λρ M Q=>ta ρ M λx M1=>∃a t kvs sh,x=.ref a/\M1 a=Z (.dct t kvs)/\gX sh=F2/\(∀kv∈kvs,hs sh (kvD kv)=F2)/\∀p ys,M1 p=Y->ys.Perm (kvs.map kvD)->gk ys->Q (.ref p) (af M1 p (.lst ys))
theorem ug{ta:TEd}(h:ad ta):ad (jY ta):=λρ M Q Q' i q=>h _ _ _ _ (λx G j=>(by obtain⟨a,t,kvs,sh,e,e1,e2,z,B⟩:=j;exact⟨a,t,kvs,sh,e,e1,e2,z,λp ys n F hs=>i _ _ (B p ys n F hs)⟩)) q
def kX(K:Frag)(H:Hp)(kv:D×D)(e:Mt):Prop:=∃kV vV,RD K H kv.1 kV/\RelV kV e.key/\RD K H kv.2 vV/\RelV vV e.val
variable{K:Frag}{H:Hp}
theorem rZ{d:D}{k:Key}(h:RKey d k):RD K H d (kV k):=by
 cases d<;>first
  |exact h.elim
  |(cases h;first|exact VO.mpr rfl|exact VW.mpr rfl)
theorem mV{K:Frag}{H:Hp}:∀{ds:List D} {ks:List Key},MK RKey ds ks->RDs K H ds (ks.map kV)
 |_,_,.nil=>RDs.nil
 |_,_,.cons r t=>RDs.cons (rZ r) (mV t)
theorem Ae{P:Ln}{w:LL}{K:Frag}{H:Hp}:∀{kvs:List (D×D)} {ps:List (Key×V)} {vs:List (Key×gV)} {es:List Mt},MK (λ(p:D×D) (q:Key×V)=>RKey p.1 q.1/\RD K H p.2 q.2) kvs ps->KV ps vs->Pairs (aU P w) es vs->MK (kX K H) kvs es
 |_,_,_,_,.nil,.nil,.nil=>.nil
 |_,_,_,_,.cons j t1,.cons z B,.cons h1 h2 t3=>by
  refine .cons ⟨kV _,_,rZ j.1,?_,j.2,by rw[h2];exact z.2⟩ (Ae t1 B t3)
  rw[<-z.1]at h1
  rcases aX h1 with⟨i,t,e1,e2⟩|⟨x,t,e1,e2⟩
  ·rw[e1,e2];exact⟨t,rfl⟩
  ·rw[e1,e2];exact⟨t,rfl⟩
theorem Af{P:Ln}{w:LL}{K:Frag}{H:Hp}:∀{kvs:List (D×D)} {ps:List (List Key×V)} {xs:List (List Key×N2×gV)},MK (λ(p:D×D) (q:List Key×V)=>RKeys p.1 q.1/\RD K H p.2 q.2) kvs ps->MK (λ(p:List Key×V) (q:List Key×N2×gV)=>p.1=q.1/\H q.2.1=Z (.tup (p.1.map kV))/\RelV p.2 q.2.2) ps xs->MK (kX K H) kvs (xs.map (entryOfKey (R8 (aU P w))))
 |_,_,_,.nil,.nil=>.nil
 |kv::_,_,_,.cons z t1,.cons B F=>by
  refine .cons ?_ (Af t1 F);obtain⟨d,v⟩:=kv;have j:=z.1
  cases d<;>first
   |exact j.elim
   |exact⟨.ref _,_,VX ⟨_,_,rfl,B.2.1,mV j⟩,rfl,z.2,B.2.2⟩
theorem cg{α β:Type}{R:α->β->Prop}:∀{l:List α} {m:List β},MK R l m->l.length=m.length
 |_,_,.nil=>rfl
 |_,_,.cons _ t=>by simp[cg t]
noncomputable abbrev Rw:=N2×(D×D)×V×V×Mt
theorem Ag{K:Frag}{H:Hp}{G:N2->Mt->Prop}:∀{kvs:List (D×D)} {es:List Mt} {us:List gV},MK (kX K H) kvs es->us.length=es.length->(∀j,j<es.length->∃t e,us[j]?=Z (.ref t)/\es[j]?=Z e/\G t e)->
 ∃L:List Rw,L.map (λr=>LB r.1)=us/\L.map (λr=>r.2.1)=kvs/\∀r∈L,RD K H r.2.1.1 r.2.2.1/\RelV r.2.2.1 r.2.2.2.2.key/\RD K H r.2.1.2 r.2.2.2.1/\RelV r.2.2.2.1 r.2.2.2.2.val/\G r.1 r.2.2.2.2
 |_,_,us,.nil,B,_=>⟨[],by simp at B;simp[B],rfl,λ_ h=>by simp at h⟩
 |kv::kvs,e::es,us,.cons r t,B,h=>by
  cases us with
  |nil=>simp at B
  |cons u us=>
   obtain⟨L,h1,h2,J⟩:=Ag (us:=us) t (by simpa using B) λj O=>by
    obtain⟨t,e',e1,e2,F⟩:=h (j+1) (by simpa using O)
    exact⟨t,e',by simpa using e1,by simpa using e2,F⟩
   obtain⟨t0,e',e1,e2,F⟩:=h 0 (by simp)
   simp at e1 e2;subst e1 e2;obtain⟨kV,vV,g1,g2,g3,U⟩:=r;exact⟨(t0,kv,kV,vV,e)::L,by simp[h1],by simp[h2],λr Fn=>by
    rcases KZ.mp Fn with z|z
    ·rw[z];exact⟨g1,g2,g3,U,F⟩
    ·exact J r z⟩
theorem za{L:List Rw}(j:(L.map λr=>r.1).Nodup){r:Rw}(B:r∈L):L.find? (λx=>decide (x.1=r.1))=Z r:=by
 induction L with
 |nil=>simp at B
 |cons x L ih=>
  simp only[Lc,MV]at j
  rcases KZ.mp B with z|z
  ·subst z;simp
  ·have:x.1≠r.1:=λe=>j.1 (by rw[e];exact Lm z)
   rw[OU (by simpa using this)]
   exact ih j.2 z
variable{a:N2}{kvs:List (D×D)}
section
variable{X:Cx}
theorem DD{h:Heap}{P:Ln}{w:LL}{ps:List (List Key×V)}(ok:ObjOk P w H h a (.dT ps))(pr:MK (λ(p:D×D) (q:List Key×V)=>RKeys p.1 q.1/\RD K H p.2 q.2) kvs ps):
 ∃cd dd sl es ep,h.get? a=Z {cls:=cd,dict:=dd,data:=.dict es ep,slots:=sl}/\es.size<=L3/\MK (kX K H) kvs es.toList:=by
 obtain⟨G,B,xs,j,o,es,ep,h1,h2,z,F,J⟩:=ok;obtain⟨cd,dd,dat,sl⟩:=o;dsimp only at z;subst z;have pp:=Af (P:=P) (w:=w) pr j;rw[<-F]at pp;refine⟨cd,dd,sl,es,ep,h1,?_,pp⟩;have:=cg pp;have:=cg pr;simp at *;lia
theorem s9{pins:List (N2×Obj)}{σ:St}{s:q7}{M:Mem}(I:Inv X pins σ H s)(rm:RM X.K M H){t:Bool}(e:M a=Z (.dct t kvs)):
 ∃cd dd sl es ep,s.heap.get? a=Z {cls:=cd,dict:=dd,data:=.dict es ep,slots:=sl}/\es.size<=L3/\MK (kX X.K H) kvs es.toList/\IsD H a:=by
 have ro:=rm a _ e
 cases t with
 |false=>obtain⟨ps,j,pr⟩:=ro;obtain⟨J,F,vs,B,o,es,ep,h1,h2,z,L,G,O⟩:=I.hok a _ j;obtain⟨cd,dd,dat,sl⟩:=o;dsimp only at z;subst z;have pp:=Ae pr B G;refine⟨cd,dd,sl,es,ep,h1,?_,pp,.inl ⟨_,Rd.of j⟩⟩;have:=cg pp;have:=cg pr;simp at *;lia
 |true=>obtain⟨ps,j,pr⟩:=ro;obtain⟨cd,dd,sl,es,ep,h1,h2,z⟩:=DD (I.hok a _ j) pr;exact⟨cd,dd,sl,es,ep,h1,h2,z,.inr ⟨_,Rd.of j⟩⟩
theorem wq{d:N2}{Q:gV->q7->Prop}{A:LQ}{E:gV->q7->Prop}{s:q7}{cd:gV}{dd:Option N2}{sl:Array (Option gV)}{es:Array Mt}{ep:Nat}{prog:Ln}{w:LL}(ty:s.TypeIs (.ref d) "dict")(z:(d==N9)=Md)(hd:s.heap.get? d=Z {cls:=cd,dict:=dd,data:=.dict es ep,slots:=sl})(q:Q (.ref s.heap.objs.size) {s with heap:=s.heap.push {cls:=.type "dict_items",data:=.fields #[.ref d]}}):La (model prog w) A (call (.builtin "dict.items") [.ref d]) Q E s:=by
 have j:cd=.type "dict":=by obtain⟨o,h1,h2⟩:=ty;rw[hd]at h1;cases h1;exact h2
 subst j;refine LR Uv ty F.entry_dict_items ?_ (F.args_dict_items_1 _);unfold Nq.«dict.items»
 wp_walk
 exact⟨_,rfl,q⟩
theorem zb{e:Expr}{ta:TEd}{p pos apos cpos:Pos}(hu:X.A.units+16<Om)(m:ad ta)(hc:X.calm=F2)(he:PE X e (lE X.K ta))(hg:Gl X "sorted")(hm:X.mg "sorted"=Y)(IJ:RH e "items" X.env (eval e X.env)=eval e X.env)(IK:(apos.endLine==cpos.line)=F2):
 PE X (.Call (.Name "sorted" p) [.Call (.Attribute e "items" apos) [] [] cpos] [] pos) (lE X.K (jY ta)):=by
 intro pins s σ H Q I h;obtain⟨ρ,M,rs,rm,h⟩:=h;refine N1 (cm I hg hm (u:=.builtin "sorted") (by decide +kernel) ?_ (by decide) (by decide))
 refine Qt ?_ rfl rfl;refine OM ?_;refine wpAny_Call_method0_late IJ IK (thn (he pins s σ H (λv H1=>∃fv a t kvs sh,Ext M H fv H1/\RM X.K fv H1/\v=.ref a/\fv a=Z (.dct t kvs)/\gX sh=F2/\(∀kv∈kvs,hs sh (kvD kv)=F2)/\∀p ys,fv p=Y->ys.Perm (kvs.map kvD)->gk ys->KE' X.K M H Q (.ref p) (af fv p (.lst ys))) I ⟨ρ,M,rs,rm,m _ _ _ _ (λx fv ⟨a,t,kvs,sh,e,e1,e2,e3,q1⟩ v H1 x1 Fn IW=>by subst e;exact⟨fv,a,t,kvs,sh,x1,Fn,VP.mp IW,e1,e2,e3,q1⟩) h⟩) λv s1 ⟨x,H1,I1,r1,fv,a,t,kvs,sh,x1,Fn,ex,e1,hok,IO,q⟩=>?_)
 subst ex;obtain rfl:v=LB a:=r1;obtain⟨cd,dd,sl,es,ep,hd,hz,IP,hD⟩:=s9 I1 Fn e1;obtain⟨t1,t2,IX⟩:=jx I1 hD;refine⟨"dict","dict.items",F.plainAttrs_dict,Uv,F.type_dict_items,t1,t2,Qe rfl (PySem.evalArgs_none ?_)⟩;refine wq t1 IX hd ?_;refine Qb ?_;have kpv:∀b o,s1.heap.get? b=Z o->(s1.heap.push {cls:=LZ "dict_items",data:=V2 #[LB a]}).get? b=Z o:=λb o e=>i0 _ e;obtain⟨hS,IY⟩:=rW (xs:=kvs.map kvD) hok (λd hd=>by obtain⟨kv,IZ,rfl⟩:=L9.mp hd;exact IO kv IZ)
 have U:=j9 hok;have IQ:∀(h':Heap) (r:Rw),(∀b o,s1.heap.get? b=Z o->h'.get? b=Z o)->r.2.1∈kvs->RD X.K H1 r.2.1.1 r.2.2.1->RelV r.2.2.1 r.2.2.2.2.key->RD X.K H1 r.2.1.2 r.2.2.2.1->RelV r.2.2.2.1 r.2.2.2.2.val->h'.get? r.1=Z {cls:=.type "tuple",data:=.seq #[r.2.2.2.2.key,r.2.2.2.2.val]}->∃as,PJ h' (.ref r.1) (pd (kvD r.2.1)) as:=by
  intro h' r kp hm g1 g2 g3 g4 g5;have J:=IO _ hm
  match sh,J,U with
  |.tup l,J,U=>
   simp only[kvD,hs]at J
   match l,J,U with
   |[sa,sb],J,U=>
    simp only[hss,p0,and_true]at J;simp only[dep,deps]at U;obtain⟨as,ra⟩:=bF I1 Fn 16 _ _ _ _ (oh fv sa _ 16 J.1 ∅) g1 g2
    obtain⟨bs,rb'⟩:=bF I1 Fn 16 _ _ _ _ (oh fv sb _ 16 J.2 ∅) g3 g4
    have ra:=bb (λb o e _=>kp b o e) (jX sa _ J.1).1 ra;have rb':=bb (λb o e _=>kp b o e) (jX sb _ J.2).1 rb';have fin:PJ h' (.ref r.1) (.tuple [pd r.2.1.1,pd r.2.1.2]) (as++(bs++[])):=.tuple g5 rfl rfl (.cons ra (.cons rb' .nil));exact⟨_,fin⟩
   |[],J,_=>simp[hss]at J
   |[_],J,_=>simp[hss]at J
   |_::_::_::_,J,_=>simp[hss]at J
  |.int,J,_=>simp[kvD,hs]at J
 refine mU (cap:=L3) ub (m:=7) (ds:=(kvs.map kvD).map pd) (C:=λh' us=>(∀b o,s1.heap.get? b=Z o->h'.get? b=Z o)/\∃L:List Rw,L.map (λr=>LB r.1)=us/\L.map (λr=>r.2.1)=kvs/\us.Nodup/\∀r∈L,RD X.K H1 r.2.1.1 r.2.2.1/\RelV r.2.2.1 r.2.2.2.2.key/\RD X.K H1 r.2.1.2 r.2.2.2.1/\RelV r.2.2.2.1 r.2.2.2.2.val/\h'.get? r.1=Z {cls:=.type "tuple",data:=.seq #[r.2.2.2.2.key,r.2.2.2.2.val]}/\s1.heap.get? r.1=Y) ∅ hS IY (λE R hR=>?_) λh1 h2 us out n' tk hC old g2 IG IR J7 J8 ht=>?_
 ·refine It.collect_view (A:=X.A.in1) (s:={s1 with heap:=s1.heap.push {cls:=LZ "dict_items",data:=V2 #[LB a]}}) (I.ok.hd hc) (KY _ rfl) (kpv _ _ hd) hz λh' us k1 k2 k3 k4=>?_
  obtain⟨L,l1,l2,l3⟩:=Ag (G:=λt e=>h'.get? t=Z {cls:=.type "tuple",data:=.seq #[e.key,e.val]}/\s1.heap.get? t=Y) IP (by simpa using k2) λj hj=>by
   obtain⟨t,e,e1,e2,e3,e4⟩:=k4 j (by simpa using hj)
   refine⟨t,e,e1,by rw[Lp];exact e2,e3,?_⟩
   cases hq:s1.heap.get? t with
   |none=>rfl
   |some o=>rw[kpv _ _ hq]at e4;cases e4
  refine hR h' us _ ⟨λb o e=>k1 b o (kpv b o e),L,l1,l2,k3,l3⟩ (λu hu=>?_) ⟨by rw[k2];exact hz,by rw[k2];exact hz⟩ (Le _)
  rw[<-l1]at hu;obtain⟨r,O,rfl⟩:=L9.mp hu;obtain⟨p1,p2,p3,p4,p5,p6⟩:=l3 r O;have hm:r.2.1∈kvs:=by rw[<-l2];exact Lm O
  obtain⟨as,ra⟩:=IQ h' r (λb o e=>k1 b o (kpv b o e)) hm p1 p2 p3 p4 p5;exact⟨_,Lm (Lm hm),as,ra⟩
 ·obtain⟨kp,L,l1,l2,l3,l4⟩:=hC;rw[<-l1]at IG;obtain⟨L',p1,p2⟩:=eO (fun r:Rw=>LB r.1) IG rfl;have IS:∀b o,s1.heap.get? b=Z o->h2.get? b=Z o:=fun b o e=>old b o (kp b o e);have B:s1.heap.get? h1.objs.size=Y:=by
   cases hq:s1.heap.get? h1.objs.size with
   |none=>rfl
   |some o=>exact absurd (KR (kp _ _ hq)) (My _)
  have J0:(L.map λr=>r.1).Nodup:=by
   rw[<-l1]at l3;have:(L.map λr=>LB r.1)=(L.map λr=>r.1).map LB:=by simp
   rw[this]at l3;exact List.Pairwise.of_map _ (λa b II he=>II (by rw[he])) l3
  have IH:∀r∈L',r∈L:=λr O=>p1.mem_iff.mp O;have hp:∀r∈L,r.1≠h1.objs.size:=λr O=>Lr (KR (l4 r O).2.2.2.2.1)
  let N:N2->Option HO:=λb=>if b=h1.objs.size then Z (.lst (L'.map λr=>V.ref r.1))else(L.find? λx=>decide (x.1=b)).map λr=>.tup [r.2.2.1,r.2.2.2.1]
  have IT:N h1.objs.size=Z (.lst (L'.map λr=>V.ref r.1)):=by show(if _ then _ else _)=_;rw[if_pos rfl]
  have J1:∀r∈L,N r.1=Z (.tup [r.2.2.1,r.2.2.2.1]):=λr O=>by
   show(if _ then _ else _)=_
   rw[if_neg (hp r O),za J0 O];rfl
  have IM:∀b o,N b=Z o->b=h1.objs.size/\o=.lst (L'.map λr=>V.ref r.1)∨∃r∈L,b=r.1/\o=.tup [r.2.2.1,r.2.2.2.1]:=λb o e=>by
   by_cases hb:b=h1.objs.size
   ·subst hb;rw[IT]at e;cases e;exact .inl ⟨rfl,rfl⟩
   ·right
    have e:((L.find? λx=>decide (x.1=b)).map λr=>HO.tup [r.2.2.1,r.2.2.2.1])=Z o:=by
     have e':(if b=h1.objs.size then Z (HO.lst (L'.map λr=>V.ref r.1))else(L.find? λx=>decide (x.1=b)).map λr=>HO.tup [r.2.2.1,r.2.2.2.1])=Z o:=e
     rw[if_neg hb]at e';exact e'
    cases hf:L.find? λx=>decide (x.1=b)with
    |none=>rw[hf]at e;cases e
    |some r=>rw[hf]at e;cases e;have J2:=Vh hf;exact⟨r,Ru hf,(by simpa using J2:r.1=b).symm,rfl⟩
  have oldH:∀b o,H1 b=Z o->lay H1 N b=Z o:=λb o e=>by
   rw[iA]
   ·exact e
   ·cases hq:N b with
    |none=>rfl
    |some o'=>
     obtain⟨ob,eo⟩:=(I1.hok b o e).there
     rcases IM b o' hq with⟨rfl,_⟩|⟨r,O,rfl,_⟩
     ·rw[B]at eo;cases eo
     ·rw[(l4 r O).2.2.2.2.2]at eo;cases eo
  have st:Stab H1 (lay H1 N):=⟨λb xs e=>oldH b _ e,λb o u e=>oldH b _ e⟩;have IN:L'.length=kvs.length:=by rw[p1.length_eq,<-l2];simp
  have J3:=cg IP;have I2:=I1.laidN (t':=tk) (h':=h2) (N:=N) IS (λb o e=>by
   rcases IM b o e with⟨rfl,_⟩|⟨r,O,rfl,_⟩
   ·exact B
   ·exact(l4 r O).2.2.2.2.2) (λb o e=>by
   rcases IM b o e with⟨rfl,rfl⟩|⟨r,O,rfl,rfl⟩
   ·refine⟨by rw[r0,IN,J3];simpa using hz,out,n',?_,g2⟩
    rw[<-p2];have:∀l:List Rw,Vals (l.map λr=>V.ref r.1) (l.map λr=>LB r.1):=by
     intro l
     induction l with
     |nil=>exact .nil
     |cons r l ih=>exact .cons rfl ih
    exact this L'
   ·obtain⟨q1,q2,q3,q4,q5,q6⟩:=l4 r O;exact⟨by show 2<=L3;decide,[r.2.2.2.2.key,r.2.2.2.2.val],.cons q2 (.cons q4 .nil),_,old _ _ q5,rfl,0,rfl⟩)
  refine⟨.ref h1.objs.size,_,I2,rfl,?_⟩;have IU:fv h1.objs.size=Y:=Fn.out (I1.fresh' B);have IV:RDs X.K (lay H1 N) (L'.map λr=>kvD r.2.1) (L'.map λr=>V.ref r.1):=by
   have:∀l:List Rw,(∀r∈l,r∈L)->RDs X.K (lay H1 N) (l.map λr=>kvD r.2.1) (l.map λr=>V.ref r.1):=by
    intro l
    induction l with
    |nil=>intro _;exact RDs.nil
    |cons r l ih=>
     intro hl;obtain⟨q1,q2,q3,q4,q5,q6⟩:=l4 r (hl r (by simp))
     refine RDs.cons (VX ⟨r.1,_,rfl,kW (J1 r (hl r (by simp))),RDs.cons (q1.mono st) (RDs.cons (q3.mono st) RDs.nil)⟩) (ih λr' J6=>hl r' (by simp[J6]))
   exact this L' IH
  refine q h1.objs.size (L'.map λr=>kvD r.2.1) IU ?_ ?_ (.ref h1.objs.size) (lay H1 N) (x1.trans ⟨λb o _ e=>oldH b o e,λb o n e=>?_⟩) (λa' o' e'=>?_) (VP.mpr rfl)
  ·have:=p1.map (λr:Rw=>kvD r.2.1);rw[show L.map (λr:Rw=>kvD r.2.1)=(L.map λr=>r.2.1).map kvD by simp,l2]at this
   exact this
  ·unfold gk;rw[Mx];rw[<-p2,Mx]at IR;refine IR.imp_of_mem fun {a b} ha hb II=>?_;have rd:∀r∈L',Nh h2 (LB r.1)=pd (kvD r.2.1):=fun r O=>by
    obtain⟨q1,q2,q3,q4,q5,q6⟩:=l4 r (IH r O);have hm:r.2.1∈kvs:=by rw[<-l2];exact Lm (IH r O)
    obtain⟨as,ra⟩:=IQ h2 r IS hm q1 q2 q3 q4 (old _ _ q5);exact NT (hS.lay _ (Lm (Lm hm))).1 ra
   rw[rd a ha,rd b hb]at II;exact II
  ·have hb:b≠h1.objs.size:=fun z=>by
    rw[z,I1.fresh' B]at e;cases e
   exact aD hb
  ·by_cases hz:a'=h1.objs.size
   ·subst hz;rw[ab]at e';cases e';exact⟨_,kW IT,IV⟩
   ·rw[aD hz]at e';exact(Fn a' o' e').mono st λho e=>oldH a' ho e
end
section
noncomputable def oi(to tk tx:TEd):TEd:=λρ M Q=>to ρ M λx M1=>∃a t kvs,x=.ref a/\M1 a=Z (.dct t kvs)/\tk ρ M1 λk M2=>tx ρ M2 λz M3=>∃t' kvs',M3 a=Z (.dct t' kvs')/\eI t' k=F2/\Q ((dget kvs' k).getD z) M3
theorem wt{to tk tx:TEd}(h1:ad to)(h2:ad tk)(B:ad tx):ad (oi to tk tx):=λρ M Q Q' i q=>h1 _ _ _ _ (λx O j=>(by obtain⟨a,t,kvs,e,e1,F⟩:=j;exact⟨a,t,kvs,e,e1,h2 _ _ _ _ (λk M2 G=>B _ _ _ _ (λz U j=>(by obtain⟨t',kvs',J,ok,L⟩:=j;exact⟨t',kvs',J,ok,i _ _ L⟩)) G) F⟩)) q
section
variable{X:Cx}
theorem DE{M:Mem}(rm:RM K M H){t:Bool}(e:M a=Z (.dct t kvs)):IsD H a:=by
 have ro:=rm a _ e
 cases t with
 |false=>obtain⟨ps,j,_⟩:=ro;exact .inl ⟨_,Rd.of j⟩
 |true=>obtain⟨ps,j,_⟩:=ro;exact .inr ⟨_,Rd.of j⟩
theorem Bw{o e f:Expr}{to tk tx:TEd}{apos cpos:Pos}(Fn:X.A.units+1<Om)(mo:ad to)(mk:ad tk)(mx:ad tx)(ho:PE X o (lE X.K to))(he:PE X e (lE X.K tk))(hf:PE X f (lE X.K tx))(m:M2 X o "get" apos e f cpos):
 PE X (.Call (.Attribute o "get" apos) [e,f] [] cpos) (lE X.K (oi to tk tx)):=by
 refine PE.imp (y9 Fn ho he hf m) λσ H Q h=>?_;obtain⟨ρ,M,rs,rm,q⟩:=h;refine⟨ρ,M,rs,rm,mo _ _ _ _ (λx fv g9 v H1 L j rd1=>?_) q⟩;obtain⟨a,t,kvs,e,e1,q1⟩:=g9;subst e
 cases VP.mp rd1
 have B:=rs.mono (L.stab rm);refine⟨a,rfl,DE j e1,ρ,fv,B,j,mk _ _ _ _ (λk M2 q2 v2 H2 O F G=>?_) q1⟩;have J:=B.mono (O.stab j);refine⟨ρ,M2,J,F,mx _ _ _ _ (λz M3 g9 v3 H3 U rm3 rd3=>?_) q2⟩;obtain⟨t',kvs',e3,ok,q3⟩:=g9;obtain⟨w,g,g1,g2⟩:=kN rm3 e3 ok (G.mono (U.stab F));refine⟨w,g,?_⟩;refine q3 _ H3 (L.trans (O.trans U)) rm3 ?_
 cases e4:dget kvs' k with
 |none=>rw[g2 e4];exact rd3
 |some d=>obtain⟨w',e5,r5⟩:=g1 d e4;rw[e5];exact r5
end
end
end Mi
namespace Mi
end Mi
namespace Mi
end Mi
section
section
variable{prog:Ln}{w:LL}{A:LQ}{E:gV->q7->Prop}
theorem mW{it l:N2}{items:Array gV}(j:l≠it):∀(n i:Nat) (s:q7) (Q:List gV->q7->Prop),s.heap.IsListIter it l i->s.heap.IsList l items->i+n<=items.size->
 (∀h':Heap,h'.IsListIter it l (i+n)->MY it s.heap h'->Q ((items.toList.drop i).take n) {s with heap:=h'})->La (model prog w) A (draw (.ref it) n) Q E s
 |0,i,s,Q,hi,B,hs,q=>by
  unfold draw;have:=q s.heap (by simpa using hi) ⟨rfl,λ_ _=>rfl⟩
  exact z0 (by simpa using this)
 |n+1,i,s,Q,hi,B,hs,q=>by
  unfold draw;refine g8 (Sj hi B (x:=items[i]'∅) (by simp) λh' F sb=>?_)
  refine g8 (Mj (mW j n (i+1) _ _ F (B.extBut sb.extBut j) ∅ λh2 G z=>?_))
  refine z0 ?_;have e:items[i]'∅::(items.toList.drop (i+1)).take n=(items.toList.drop i).take (n+1):=by rw[MR (i:=i) (l:=items.toList) (by simp;lia),List.take_succ_cons];rfl
  have:=q h2 (by rw[show i+(n+1)=i+1+n by lia];exact G) ⟨z.1.trans sb.1,λb J=>(z.2 b J).trans (sb.2 b J)⟩
  rw[<-e]at this;exact this
theorem ja{l:N2}{items:Array gV}{Q:List gV->q7->Prop}(F:A.handled=Y)(j:s.heap.IsList l items)(q:∀h',(∀b o,s.heap.get? b=Z o->h'.get? b=Z o)->Q items.toList {s with heap:=h'}):La (model prog w) A (V1 (.ref l) items.size Y) Q E s:=by
 unfold V1;have nb:∀Q':Bool->q7->Prop,Q' Md s->La (model prog w) A (US (.ref l)) Q' E s:=λQ' h=>by unfold US;refine g8 (SH j.typeIs slot_list_iter.lookup ?_);exact z0 h
 refine g8 (nb _ ?_);simp only[N3,if_false];refine g8 (Mj (NQ j ?_));have lt:l<s.heap.objs.size:=by obtain⟨o,e,_⟩:=j;exact KR e
 refine g8 (Mj (mW (items:=items) (Lr lt) items.size 0 _ _ ⟨_,KY _ rfl,rfl,rfl⟩ (j.push _) ∅ λh2 G z=>?_))
 have B:h2.IsList l items:=(j.push _).extBut z.extBut (Lr lt);rw[Tb,Nw (by simp)]
 rw[if_neg (by simp)]
 refine g8 (Mj (SJ F (s:={s with heap:=h2}) G B (by simp) λJ eb=>?_))
 simp only[Option.isSome_none,N3,if_false];refine z0 (q J λb o e=>?_);have nb:b≠s.heap.objs.size:=Lr (KR e);exact eb b o nb (z.extBut b o nb (i0 _ e))
theorem rn{k:Nat}{l:N2}{items:Array gV}{Q:Unit->q7->Prop}(z:A.handled=Y)(B:s.heap.IsList l items)(F:(MM elts env).length=items.size)(j:(MM elts env).findIdx? (·.1)=Y)(q:∀h',(∀b o,s.heap.get? b=Z o->h'.get? b=Z o)->La (model prog w) A (RG ((MM elts env).map (·.2)) items.toList) Q E {s with heap:=h'}):
 La (model prog w) A (assign (.Tuple elts k pos) env (.ref l)) Q E s:=by
 rw[assign_Tuple];refine g8 (Ov ?_);unfold unpack;rw[j,F];exact g8 (Mj (ja z B q))
end
section
variable{X:Cx}
noncomputable def Gp(K:Frag)(n:Nat)(t:TGs):TG:=λv σ H Q=>∃a xs,v=.ref a/\SqL K H a xs/\xs.length=n/\t xs σ H Q
theorem DG{es:List Expr}{k:Nat}{t:TGs}{n:Nat}(z:X.calm=F2)(h:PGs X es t)(B:(MM es X.env).length=n)(j:(MM es X.env).findIdx? (·.1)=Y):PG X (.Tuple es k pos) (Gp X.K n t):=by
 intro pins s σ H v u Q I r hw;obtain⟨a,xs,e1,F,G,hw⟩:=hw;subst e1
 cases r
 obtain⟨its,rv,J,O⟩:=I.list F;refine rn (I.ok.hd z) J.isList (by simp[B,<-G,rv.length]) j λh' hx=>?_
 have L:Inv X pins σ H {s with heap:=h'}:=I.kept (t':=s.toks) hx
 exact h pins _ σ H xs _ Q L (by simpa using rv) hw
end
namespace Mi
section
variable{X:Cx}{K:Frag}
noncomputable def lGL(K:Frag)(b:BTs):TG:=λv σ H Q=>∃a vs ds ρ ρ',v=.ref a/\SqL K H a vs/\RDs K H ds vs/\RS K H σ ρ/\b ds ρ=Z ρ'/\∀σ',RS K H σ' ρ'->Q σ' H
theorem DH{es:List Expr}{k:Nat}{bs:BTs}{n:Nat}{pos:Pos}(z:X.calm=F2)(hlen:∀ds ρ ρ',bs ds ρ=Z ρ'->ds.length=n)(h:PGs X es (lGs X.K bs))(B:(MM es X.env).length=n)(j:(MM es X.env).findIdx? (·.1)=Y):PG X (.Tuple es k pos) (lGL X.K bs):=PG.imp (DG z h B j) λv σ H Q g9=>(by obtain⟨a,vs,ds,ρ,ρ',e,sq,r,rs,eb,q⟩:=g9;exact⟨a,vs,e,sq,by rw[r.length];exact hlen _ _ _ eb,ds,ρ,ρ',r,rs,eb,q⟩)
noncomputable def oj(te:TEd)(b:BTs):TSd:=λD ρ M=>te ρ M λx M1=>∃a ds ρ',x=.ref a/\M1 a=Z (.lst ds)/\b ds ρ=Z ρ'/\D.nx ρ' M1
theorem wu{te:TEd}{bt:BTs}(h:ad te):aM (oj te bt):=λa b ρ M i q=>h _ _ _ _ (λd B j=>(by obtain⟨x,ds,ρ',e,e1,e2,z⟩:=j;exact⟨x,ds,ρ',e,e1,e2,i.nx _ _ z⟩)) q
theorem wv{te:TEd}{b:BTs}(m:ad te)(D:bJ)(σ:St)(H:Hp)(h:lS K (oj te b) D σ H):oE (lE K te) (lGL K b) D σ H:=by
 obtain⟨ρ,M,A,rs,rm,l,q⟩:=h;refine⟨ρ,M,rs,rm,m _ _ _ _ (λd B g9 v H1 z j rd1=>?_) q⟩;obtain⟨a,ds,ρ',e1,e2,e,F⟩:=g9;subst e1
 cases VP.mp rd1
 obtain⟨vs,G,rv⟩:=j _ _ e2;exact⟨a,vs,ds,ρ,ρ',rfl,SqL.of G,rv,rs.mono (z.stab rm),e,λσ' rs'=>l.nx ρ' B σ' H1 z rs' j F⟩
end
end Mi
end
namespace Mi
end Mi
namespace Dk
variable{it d:N2}{ep:Nat}{dd:Option N2}{sl:Array (Option gV)}{es:Array Mt}
section
variable{prog:Ln}{w:LL}{A:LQ}{E:gV->q7->Prop}{s:q7}
noncomputable def kO(d:N2)(i n ep:Nat):Obj:={cls:=.type "dict_keyiterator",data:=.fields #[.ref d,.int i 0,.int n 0,.int ep 0]}
theorem slot_next:Slot "dict_keyiterator" "__next__" "dict_keyiterator.__next__":=.of (owner:="dict_keyiterator") (n:="__next__") (by rw[typeLookup_type,SO];kernel_rfl) (by decide +kernel) (by decide +kernel) (by decide +kernel) (.inl (by decide +kernel)) (by rw[Qj];kernel_rfl)
theorem ce:entryFor table "dict_keyiterator.__next__"=Z Nq.«dict_keyiterator.__next__»:=UQ (by kernel_rfl)
theorem cG(a:gV):argsOk "dict_keyiterator.__next__" ⟨[a],[]⟩:=by unfold argsOk;kernel_rfl
theorem cQ(ty:s.TypeIs (.ref it) "dict_keyiterator"){types:List String}{Q:Bool->q7->Prop}(q:Q (types.any λt=>[LZ "dict_keyiterator",LZ "object"].contains (LZ t)) s):La (model prog w) A (Oe (.ref it) types) Q E s:=by
 have hm:=TB;unfold Oe
 wp_walk
 exact q
theorem dM{i:Nat}{cd:gV}{e:Mt}{Q:Option gV->q7->Prop}(hi:s.heap.get? it=Z (kO d i es.size ep))(hd:s.heap.get? d=Z {cls:=cd,dict:=dd,data:=.dict es ep,slots:=sl})(he:es[i]?=Z e)(q:∀h',h'.get? it=Z (kO d (i+1) es.size ep)->MY it s.heap h'->Q (Z e.key) {s with heap:=h'}):La (model prog w) A (O9 (.ref it)) Q E s:=by
 have ty:s.TypeIs (.ref it) "dict_keyiterator":=⟨_,hi,rfl⟩;unfold O9;refine g8 (NZ (LG (name:=Lw "__next__") ty slot_next (LR slot_next ty ce ?_ (cG _))));unfold Nq.«dict_keyiterator.__next__»;have hm:=TB
 wp_walk
 dsimp only;rw[if_neg (by simp)]
 simp only[L6,he];refine g8 (Mz (Q:=λn s'=>n=0/\s'=s) ?_ (λn s' hs=>?_) λ_ _ z=>z)
 ·wp_walk
  exact⟨by kernel_rfl,rfl⟩
 obtain⟨rfl,rfl⟩:=hs;refine g8 (cQ ty ?_);refine g8 (Lv hi (by simp) λh1 e1 s1=>?_)
 rw[if_neg (by decide +kernel)]at e1
 have e1:h1.get? it=Z (kO d (i+1) es.size ep):=e1;have j:Tx {s' with heap:=h1} (.ref it) "dict_keyiterator":=⟨_,e1,rfl⟩
 refine g8 (Mj ?_);refine g8 (cQ j ?_);refine Ql (by decide +kernel) ?_
 refine z0 (z0 ⟨_,rfl,z0 ?_⟩);exact q h1 e1 s1
theorem nx_end{cd:gV}{Q:Option gV->q7->Prop}(j:A.handled=Y)(hi:s.heap.get? it=Z (kO d es.size es.size ep))(hd:s.heap.get? d=Z {cls:=cd,dict:=dd,data:=.dict es ep,slots:=sl})(q:∀h',(∀b o,b≠it->s.heap.get? b=Z o->h'.get? b=Z o)->Q Y {s with heap:=h'}):La (model prog w) A (O9 (.ref it)) Q E s:=by
 have ty:s.TypeIs (.ref it) "dict_keyiterator":=⟨_,hi,rfl⟩;unfold O9;refine g8 (NZ (LG (name:=Lw "__next__") ty slot_next (LR slot_next ty ce ?_ (cG _))));unfold Nq.«dict_keyiterator.__next__»;have hm:=TB
 wp_walk
 dsimp only;rw[if_neg (by simp)]
 have he:es[es.size]?=Y:=OT (Le _);simp only[L6,he];refine g8 (Mz (Q:=λn s'=>n=0/\s'=s) ?_ (λn s' hs=>?_) λ_ _ z=>z)
 ·wp_walk
  exact⟨by kernel_rfl,rfl⟩
 obtain⟨rfl,rfl⟩:=hs;refine g8 (Lv hi (by simp) λh1 e1 s1=>?_)
 refine g8 (m:=Vw (.type "StopIteration") []) ?_;simp only[Vw,Vx];refine g8 (MQ ?_ (by size_fits))
 refine g8 (m:=Pn _ _) (Oq (a:=Ni) (by first|rfl|(simp only[Pn];rfl)) (MQ ?_ (by size_fits)))
 simp only[raiseNew];refine g8 (Tw ?_)
 first|rw[show A.in1.handled=Y from j]|rw[j]
 refine g8 (z0 (V5 ?_));exact g8 (OE (T:="StopIteration") (b:=F2) ⟨_,KY _ rfl,rfl⟩ Rj (z0 (q _ λb o B e=>i0 _ (i0 _ (s1.extBut b o B e)))))
theorem By{Q:gV->q7->Prop}(j:(d==N9)=Md)(hd:s.heap.get? d=Z {cls:=.type "dict",dict:=dd,data:=.dict es ep,slots:=sl})(q:Q (.ref s.heap.objs.size) {s with heap:=s.heap.push (kO d 0 es.size ep)}):La (model prog w) A (SU (.ref d)) Q E s:=by
 have ty:s.TypeIs (.ref d) "dict":=⟨_,hd,rfl⟩;refine Uu ty UT (LR UT ty F.entry_dict_iter ?_ (F.args_dict_iter_1 _));unfold Nq.«dict.__iter__»
 wp_walk
 exact⟨_,rfl,"dict_keyiterator",_,⟨_,KY _ rfl,rfl⟩,slot_next.lookup,q⟩
theorem walk(hn:A.handled=Y)(it d:N2)(hne:d≠it)(es:Array Mt)(ep:Nat):
 Walks prog w A it [it,d] [it] es.size (λi v=>∃e,es[i]?=Z e/\v=e.key) (λi h=>h.get? it=Z (kO d i es.size ep)/\∃cd dd sl,h.get? d=Z {cls:=cd,dict:=dd,data:=.dict es ep,slots:=sl}) where
 sub:=λb hb=>by simp at hb;simp[hb]
 frame:=λ_ _ _ st k=>⟨k it (by simp) _ st.1,by obtain⟨cd,dd,sl,h⟩:=st.2;exact⟨cd,dd,sl,k d (by simp) _ h⟩⟩
 item:=λi s Q E hi st q=>by obtain⟨h1,cd,dd,sl,h2⟩:=st;refine dM (e:=es[i]) h1 h2 (LO hi) λh' e' s'=>?_;exact q _ h' s.toks ⟨_,LO hi,rfl⟩ ⟨e',cd,dd,sl,s'.extBut d _ hne h2⟩ λb o hb x=>s'.extBut b o (λz=>hb (by simp[z])) x
 done:=λs Q E st q=>by obtain⟨h1,cd,dd,sl,h2⟩:=st;exact nx_end hn h1 h2 λh' k=>q h' s.toks λb o hb x=>k b o (λz=>hb (by simp[z])) x
 self:=λi s Q E st q=>wpAny_pyIter_keyiter ⟨_,st.1,rfl,rfl⟩ q
theorem ww{Q:Bool->q7->Prop}(ty:s.TypeIs (.ref d) "dict")(q:Q Md s):La (model prog w) A (NY (.ref d)) Q E s:=by
 unfold NY;refine g8 (SH ty F.slot_dict_len.lookup ?_);generalize j:("dict.__len__":String)=z
 (fail_if_success (clear j z));wp_delta
 rw[show splitId z=Z ("dict","__len__")from by subst j;decide +kernel]
 subst j;refine g8 (OE (b:=F2) ty (by rw[Qj];kernel_rfl) ?_)
 rw[if_neg (by decide)]
 refine Ql (by decide +kernel) ?_
 refine g8 (OP ty ?_);exact z0 q
open Builtin.List in
theorem zc(hn:A.handled=Y){S:N2}{c:Nat}{R:Vp->q7->Prop}(res:gV)(fv:(d==N9)=Md)(hd:s.heap.get? d=Z {cls:=.type "dict",dict:=dd,data:=.dict es ep,slots:=sl})(Fn:s.heap.get? S=Z {cls:=.type "list",data:=.seq #[] c})(hz:es.size<=L3)(q:∀(h':Heap) (tk:Nat) (acc':Array gV) (c':Nat),(∀b o,b≠S->s.heap.get? b=Z o->h'.get? b=Z o)->h'.get? S=Z {cls:=.type "list",data:=.seq acc' c'}->acc'.toList=es.toList.map (·.key)->s.toks<=tk->R (.ok (.ret res)) {s with heap:=h',toks:=tk}):
 La (model prog w) A.in1 (listExtendWith (.ref S) (.ref d) res) (λfin s'=>match fin with|.done f=>R (.ok f) s'|.again c'=>c'.quiet=F2/\ON (model prog w) A c' R s') (λe s'=>R (.error e) s') s:=by
 have ty:s.TypeIs (.ref d) "dict":=⟨_,hd,rfl⟩;have G:S≠d:=λe=>by rw[e,hd]at Fn;simp at Fn
 have h1:listSameRef (.ref S) (.ref d)=Md:=by simp[listSameRef,G]
 unfold listExtendWith;refine g8 (OP ty ?_);rw[if_neg (by rw[h1];decide)]
 refine g8 (By fv hd ?_);refine g8 (Mj (ww (s:={s with heap:=s.heap.push (kO d 0 es.size ep)}) ⟨_,i0 _ hd,rfl⟩ ?_))
 have B:=KR Fn;have J:=KR hd;have W:=(walk (prog:=prog) (w:=w) (A:=A.in1) hn s.heap.objs.size d (Lr J) es ep).toS;have IG:S∉[s.heap.objs.size,d]:=λhm=>by
  simp only[KZ,LK,or_false]at hm
  rcases hm with e|e
  ·exact absurd (e▸B) (My _)
  ·exact G e
 refine Ql (by decide +kernel) ?_
 refine g8 (Nt ?_);unfold listTouch;have L:(s.heap.push (kO d 0 es.size ep)).get? S=Z (U2 "list" #[] c):=i0 _ Fn;refine g8 (g8 (OB L rfl ?_ (by simp) (by simp)))
 have O:=NU L (λx=>x.push Ni);refine OB O rfl ?_ (by simp;decide) (by simp)
 have IH:=NU O (λx=>x.pop);have oth:∀b o,b≠S->s.heap.get? b=Z o->(((s.heap.push (kO d 0 es.size ep)).update S (Nu λx=>x.push Ni)).update S (Nu λx=>x.pop)).get? b=Z o:=λb o U e=>by rw[Ml _ _ _ _ U,Ml _ _ _ _ U];exact i0 _ e
 have hit:(((s.heap.push (kO d 0 es.size ep)).update S (Nu λx=>x.push Ni)).update S (Nu λx=>x.pop)).get? s.heap.objs.size=Z (kO d 0 es.size ep):=by rw[Ml _ _ _ _ (MD B),Ml _ _ _ _ (MD B)];exact KY _ rfl
 refine z0 ⟨Tz QW _,codeAny_extend_loopS W hz _ IG _ es.size 0 _ _ _ rfl (NF _) ⟨hit,_,_,_,oth d _ G.symm hd⟩ IH (ItemsOf.nil _) λs' acc c' hm II ha=>?_⟩;rw[hm.eq_with];refine q _ _ acc c' (λb o U e=>?_) II ?_ hm.toks
 ·exact hm.heap b o (fun z=>by
   simp only[KZ,LK,or_false]at z
   rcases z with z|z
   ·exact U z
   ·exact absurd (z▸KR e) (My _)) (oth b o U e)
 ·obtain⟨g1,g2⟩:=ha;apply Ny;intro j;rw[Lp,L8,Lp]
  by_cases hj:j<es.size
  ·obtain⟨e,he,hv⟩:=g2 j (acc[j]'∅) (LO ∅)
   rw[LO ∅,hv,he];rfl
  ·rw[OT ∅,OT ∅];rfl
theorem collect_dict(L:A.handled=Y){Q:List gV->q7->Prop}(j:(d==N9)=Md)(hd:s.heap.get? d=Z {cls:=.type "dict",dict:=dd,data:=.dict es ep,slots:=sl})(O:es.size<=L3)(q:∀(h':Heap) (tk:Nat),(∀b o,s.heap.get? b=Z o->h'.get? b=Z o)->s.toks<=tk->Q (es.toList.map (·.key)) {s with heap:=h',toks:=tk}):La (model prog w) A (collect (.ref d)) Q E s:=by
 unfold collect;refine g8 (wpAny_runValue (P6 SQ ?_));unfold Nq.«proto.collect»;dsimp only;refine g8 (QB ?_ (by simp))
 refine z0 ⟨U3 _ (by decide +kernel),?_⟩
 refine P6 UR ?_;unfold Nq.«list.__iadd__»;refine g8 (Oq (a:=(LB s.heap.objs.size,[LB d])) (by kernel_rfl) ?_)
 have z:(s.heap.push {cls:=LZ "list",data:=P5 [].toArray}).get? s.heap.objs.size=Z {cls:=LZ "list",data:=P5 #[] 0}:=KY _ rfl;rw[Around.under_plain (by rfl) (by rfl)]
 refine Mz (zc (s:={s with heap:=s.heap.push {cls:=LZ "list",data:=P5 [].toArray}}) (R:=λr s'=>r=.ok (.ret (.ref s.heap.objs.size))/\La (model prog w) A (do
  let o <-load s.heap.objs.size
  match o.data with
  |.seq xs _=>pure xs.toList
  |_=>unsupported "internal:collect") Q E s') L (LB s.heap.objs.size) j (i0 _ hd) z O λh' tk acc c' kp B U G=>⟨rfl,?_⟩) (λfn s' h=>?_) (λe s' h=>?_)
 ·refine g8 (Vn B ?_);refine z0 ?_;rw[U];exact q h' tk (λb o e=>kp b o (Lr (KR e)) (i0 _ e)) G
 ·cases fn with
  |done f=>
   obtain⟨e,h⟩:=h
   cases e
   exact h
  |again c'=>refine⟨h.1,Oo h.2 λr s1 J=>?_⟩;obtain⟨rfl,J⟩:=J;exact J
 ·cases h.1
end
end Dk
namespace Mi
open L2.Srt
noncomputable def jZ:RAd:=λds M Q=>∃a t kvs sh,ds=[.ref a]/\M a=Z (.dct t kvs)/\gX sh=F2/\(∀kv∈kvs,hs sh kv.1=F2)/\kvs.length<=63/\∀p ys,M p=Y->ys.Perm (kvs.map (·.1))->gk ys->Q (.ref p) (af M p (.lst ys))
theorem ka:aN jZ:=λ_ _ _ _ h j=>(by obtain⟨a,t,kvs,sh,e,e1,e2,z,B,q⟩:=j;exact⟨a,t,kvs,sh,e,e1,e2,z,B,λp ys n F hs=>h _ _ (q p ys n F hs)⟩)
theorem sd{K:Frag}{H:Hp}:∀{kvs:List (D×D)} {es:List Mt},MK (kX K H) kvs es->∃vs,RDs K H (kvs.map (·.1)) vs/\Vals vs (es.map (·.key))
 |_,_,.nil=>⟨[],RDs.nil,.nil⟩
 |_,_,.cons r t=>by obtain⟨vs,h1,h2⟩:=sd t;obtain⟨kV,vV,g1,g2,_,_⟩:=r;exact⟨kV::vs,RDs.cons g1 h1,.cons g2 h2⟩
section
variable{X:Cx}
theorem qg(L:X.A.units+16<Om)(O:X.calm=F2):CallR X (.builtin "sorted") (lR X.K jZ):=by
 intro pins s σ H xs us Q I r h;obtain⟨ds,M,rm,rs,a,t,kvs,sh,rfl,e,hok,j,U,q⟩:=h;obtain⟨v,rfl,rv⟩:=rs.one;obtain⟨u,rfl,ru⟩:=eG r
 cases VP.mp rv
 cases(show u=LB a from ru)
 obtain⟨cd,dd,sl,es,ep,hd,Fn,z,fv⟩:=s9 I rm e;obtain⟨t1,t2,B⟩:=jx I fv;obtain⟨vs,h1,h2⟩:=sd z;have F:cd=.type "dict":=by obtain⟨o,g1,g2⟩:=t1;rw[hd]at g1;cases g1;exact g2
 subst F;have hn:X.A.in1.handled=Y:=I.ok.hd O;exact rj rh L I rm h1 hok (λd hd=>by obtain⟨kv,G,rfl⟩:=L9.mp hd;exact j kv G) q h2 (by have:=h2.length;rw[r0]at this;simp at this;lia) (by have:=h2.length;rw[r0]at this;have h9:=h1.length;rw[r0]at h9;lia) λE R hR=>Dk.collect_dict hn B hd Fn λh' tk kp J=>hR h' tk kp J
end
end Mi
namespace Mi
end Mi
namespace Mi
end Mi
namespace Mi
end Mi
namespace Mi
end Mi
namespace Mi
end Mi
section
section
variable{X:Cx}
noncomputable def se:V->List V->Hp->VK->Prop:=λx vs H Q=>∃(l:N2) (xs:List V) (i:Int) (y:V),x=.ref l/\vs=[.int i,y]/\H l=Z (.lst xs)/\0<=i/\i.toNat<=xs.length/\xs.length<L3/\Q .non (upd H l (.lst (xs.take i.toNat++y::xs.drop i.toNat)))
theorem W5:∀{xs:List V} {us:List gV} (n:Nat),Vals xs us->Vals (xs.take n) (us.take n)
 |_,_,0,_=>by simp only[List.take_zero];exact .nil
 |_,_,_+1,.nil=>.nil
 |_,_,n+1,.cons r t=>.cons r (W5 n t)
theorem W4:∀{xs:List V} {us:List gV} (n:Nat),Vals xs us->Vals (xs.drop n) (us.drop n)
 |_,_,0,r=>r
 |_,_,_+1,.nil=>.nil
 |_,_,n+1,.cons _ t=>W4 n t
theorem wx:MtM X "list.insert" se:=by
 intro pins s σ H x vs v us Q I rx rv h;obtain⟨l,xs,i,y,rfl,rfl,B,h0,J,G,q⟩:=h
 cases rx
 obtain⟨u,u2,rfl,ru,j⟩:=nG rv;obtain⟨t,rfl⟩:=ru;obtain⟨z,its,n,r,L,e⟩:=I.lstM B;have hf:¬(!Builtin.List.listFitsIndex i)=F2:=by
  have:Rp i=F2:=by unfold Rp;rw[D2]at G;rw[p0];exact⟨decide_eq_true ∅,decide_eq_true ∅⟩
  rw[this];decide
 have hs:its.toArray.size<=L3:=by rw[L5];lia
 have mt:=PySem.AutoSeq1.list_insert_list_int_val_1 l its.toArray n i t u2 hf hs;refine Qv RQ ⟨_,e,rfl⟩ PySem.F.entry_list_insert (PySem.F.args_list_insert_3 _ _ _) mt ⟨e,?_⟩;refine⟨.non,_,I.lset (its':=its.take i.toNat++u2::its.drop i.toNat) B e ?_ ((W5 i.toNat r).append (.cons j (W4 i.toNat r))) ?_,rfl,q⟩
 ·have hm:(if i<0 then(i+(its.toArray.size:Int)).toNat else min i.toNat its.toArray.size)=i.toNat:=by
   rw[if_neg ∅,L5];lia
  show(its.toArray.extract 0 (if i<0 then(i+(its.toArray.size:Int)).toNat else min i.toNat its.toArray.size)).push u2++its.toArray.extract (if i<0 then(i+(its.toArray.size:Int)).toNat else min i.toNat its.toArray.size)=_
  rw[hm];apply Array.ext';simp only[List.extract_toArray,List.push_toArray,List.append_toArray];simp[Nw]
 ·rw[I7,Mf,Lu,Nl];lia
end
namespace Mi
noncomputable def iB:D->List D->Mem->QD->Prop:=λx ds M Q=>∃(a:N2) (xs:List D) (i:Int) (y:D),x=.ref a/\ds=[.int i,y]/\M a=Z (.lst xs)/\0<=i/\i.toNat<=xs.length/\xs.length<L3/\Q .non (af M a (.lst (xs.take i.toNat++y::xs.drop i.toNat)))
theorem iU:jI iB:=λ_ _ _ _ _ h j=>(by obtain⟨a,xs,k,y,e1,e2,B,F,z,G,q⟩:=j;exact⟨a,xs,k,y,e1,e2,B,F,z,G,h _ _ q⟩)
theorem ze{K:Frag}(v:V)(vs:List V)(H:Hp)(Q:VK)(h:lMt K iB v vs H Q):se v vs H Q:=by
 obtain⟨x,ds,M,rm,rx,rs,a,xs,i,y,rfl,rfl,e,j,z,B,q⟩:=h
 cases VP.mp rx
 obtain⟨J,w,rfl,F,rw'⟩:=rs.two
 cases VO.mp F
 obtain⟨us,G,ru⟩:=rm _ _ e;exact⟨a,us,i,w,rfl,rfl,G,j,by rw[ru.length];exact z,by rw[ru.length];exact B,kR rm e ((ru.take i.toNat).append (RDs.cons rw' (ru.drop i.toNat))) (VV.mpr rfl) q⟩
end Mi
end
namespace Mi
section
section
variable{X:Cx}
noncomputable def uh:R2d
 |.int i,y,M,Q=>∃ns:List Int,aJ M y=Z (ns.map .int)/\Q (.bl (decide (i∈ns))) M
 |_,_,_,_=>False
theorem zf:aG uh:=by
 intro x y M Q Q' h q
 cases x<;>first
  |exact q.elim
  |(obtain⟨ns,e,q⟩:=q;exact⟨ns,e,h _ _ q⟩)
theorem qh{i:Int}:∀ns:List Int,inV (.int i) (ns.map V.int)=decide (i∈ns)
 |[]=>by simp[inV]
 |n::ns=>by
  have ih:=qh (i:=i) ns;unfold inV at ih⊢;rw[Lc,Nr,ih];show(n==i || decide (i∈ns))=_
  by_cases h:n=i
  ·subst h;simp
  ·rw[show(n==i)=Md by simpa using h]
   simp only[QA,KZ];exact decide_eq_decide.mpr ⟨.inr,λz=>z.resolve_left λw=>h w.symm⟩
theorem zg:OpR X (NB .In) (l2 X.K uh):=by
 refine OpR.of vj λv u H Q h=>?_;obtain⟨x,y,M,rm,rx,ry,q⟩:=h
 cases x<;>first
  |exact q.elim
  |skip
 case int i=>
  obtain⟨ns,e,q⟩:=q;obtain⟨p,vs,rfl,hs,r⟩:=pJ rm ry e;have rv:=r.ints_eq;subst rv
  cases VO.mp rx
  refine⟨p,_,rfl,hs,rfl,?_,?_⟩
  ·simp[dB]
  ·rw[if_neg KW,qh];exact q _ H Ext.refl rm (VQ.mpr rfl)
end
end
section
section
variable{X:Cx}
def DF(M:Mem)(a:N2)(t:Bool)(kvs:List (D×D)):Prop:=M a=Z (.dct t kvs)∨(t=F2/\M a=Z (.fdc kvs))
noncomputable def ui(neg:Bool):R2d:=λk x M Q=>∃a t kvs,x=.ref a/\DF M a t kvs/\eI t k=F2/\Q (.bl (if neg then !(dget kvs k).isSome else(dget kvs k).isSome)) M
theorem zh{neg:Bool}:aG (ui neg):=λ_ _ _ _ _ h j=>(by obtain⟨a,t,kvs,e1,e2,z,q⟩:=j;exact⟨a,t,kvs,e1,e2,z,h _ _ q⟩)
theorem DI{K:Frag}{M:Mem}{H:Hp}{a:N2}{t:Bool}{kvs:List (D×D)}{k:D}{v:V}(rm:RM K M H)(e:DF M a t kvs)(ok:eI t k=F2)(rk:RD K H k v):∃o,DGet H a v o/\o.isSome=(dget kvs k).isSome:=by
 have:∃o,DGet H a v o/\(∀d,dget kvs k=Z d->∃w,o=Z w/\RD K H d w)/\(dget kvs k=Y->o=Y):=by
  rcases e with e|⟨rfl,e⟩
  ·exact kN rm e ok rk
  ·obtain⟨ob,ps,j,pr⟩:=rm a _ e;exact pE (.inr ⟨ob,j⟩) pr ok rk
 obtain⟨o,g,g1,g2⟩:=this;refine⟨o,g,?_⟩
 cases h:dget kvs k with
 |none=>rw[g2 h];rfl
 |some d=>obtain⟨w,rfl,_⟩:=g1 d h;rfl
theorem wy(j:X.A.units+1<Om):OpR X (NB .NotIn) (l2 X.K (ui F2)):=by
 intro pins s σ H y x u v Q I ry rx h;obtain⟨dk,dx,M,rm,rk,rd,a,t,kvs,rfl,e,ok,q⟩:=h
 cases VP.mp rd
 cases rx
 obtain⟨o,g,ho⟩:=DI rm e ok rk;exact AL j I g ry λs' I'=>⟨.bl (!o.isSome),H,I',rfl,by rw[ho];exact q _ H Ext.refl rm (VQ.mpr rfl)⟩
end
end
end Mi
namespace Mi
end Mi
namespace Mi
open L2.Srt
end Mi
namespace Srt
open AutoSeq1 (wpAny_loadPart')
open MeetsSeq MeetsSeq2 MeetsSeq3
end Srt
namespace Srt
end Srt
namespace Mi
open L2.Srt
end Mi
namespace Mi
end Mi
namespace Mi
end Mi
namespace Mi
end Mi
namespace It
end It
namespace Mi
end Mi
section
section
variable{X:Cx}
noncomputable def Fj:R2:=λx y H Q=>∃l b xs zs,x=.ref l/\y=.ref b/\H l=Z (.lst xs)/\H b=Z (.lst zs)/\xs.length+zs.length<=L3/\Q (.ref l) (upd H l (.lst (xs++zs)))
theorem Fk{M:Q9}{E:gV->q7->Prop}{a b:gV}{Q:gV->q7->Prop}(B:s.TypeIs a "list")(L:s.TypeIs b "list")(O:La M A (call (.builtin "list.__iadd__") [a,b]) Q E s):La M A (O1 .Add a b) Q E s:=by
 unfold O1;refine Mj ?_;have G:Vs (.type "list") (dunderI "add")=pure (Z (.builtin "list.__iadd__")):=PySem.F.slot_list_iadd.lookup;have J:isSeqSlot (Z (.builtin "list.__iadd__"))=F2:=by decide +kernel
 have j:UU (.type "list") "add" (Operator.Add==.Add)=pure Md:=by unfold UU;show(Vs (.type "list") (dunderI "add")>>=λfi=>pure (fi.isSome && !isSeqSlot fi))=pure Md;rw[G,UD,J];rfl
 have z:seqSlot? (.type "list") (dunderI "add")=pure (Z (.builtin "list.__iadd__")):=PySem.seqSlot_of G J;refine g8 (OP B (g8 (Oq j ?_)));show La M A (if Md=F2 then _ else _) Q E s
 rw[if_neg KW];refine g8 (PySem.wpAny_binaryOp1_none (nm:="add") B L PySem.noFill_list_add ?_);refine g8 (Oq z ?_);exact g8 (Nt O)
theorem Bz:OpR X (O1 .Add) Fj:=by
 intro pins s σ H x y v u Q I rx ry h;obtain⟨l,b,xs,zs,rfl,rfl,G,J,Fn,q⟩:=h
 cases rx
 cases ry
 obtain⟨z,its,n,r,fv,e⟩:=I.lstM G;obtain⟨z2,j,L,O,U,e2⟩:=I.lstM J;have hsz:its.toArray.size+j.toArray.size<=L3:=by rw[L5,L5];lia
 have B:¬(!its.toArray.isEmpty&&Oz (its.toArray.size+j.toArray.size))=F2:=by rw[oM hsz,Bool.and_false];exact KW
 refine Fk ⟨_,e,rfl⟩ ⟨_,e2,rfl⟩ (Qv PySem.F.slot_list_iadd ⟨_,e,rfl⟩ PySem.F.entry_list_iadd (PySem.F.args_list_iadd_2 _ _)
  (AutoSeq1.list___iadd___list_list_0 l its.toArray n b j.toArray L B (by rw[L5];lia) ∅) ⟨e,e2,?_⟩)
 refine⟨.ref l,_,I.lset (its':=its++j) G e (by simp) (r.append O) ?_,rfl,q⟩
 rw[I7];lia
end
namespace Mi
section
variable{X:Cx}
noncomputable def oo:R2d:=λx y M Q=>∃a b xs ys,x=.ref a/\y=.ref b/\M a=Z (.lst xs)/\M b=Z (.lst ys)/\xs.length+ys.length<=L3/\Q (.ref a) (af M a (.lst (xs++ys)))
theorem mX:aG oo:=λ_ _ _ _ _ h j=>(by obtain⟨a,b,xs,y,e1,e2,B,F,z,q⟩:=j;exact⟨a,b,xs,y,e1,e2,B,F,z,h _ _ q⟩)
theorem wz:OpR X (O1 .Add) (l2 X.K oo):=by
 refine OpR.of Bz λv u H Q h=>?_;obtain⟨x,y,M,rm,rx,ry,a,b,xs,ys,rfl,rfl,e1,e2,z,q⟩:=h
 cases VP.mp rx
 cases VP.mp ry
 obtain⟨us,j,ru⟩:=rm _ _ e1;obtain⟨ws,B,rw'⟩:=rm _ _ e2;exact⟨a,b,us,ws,rfl,rfl,j,B,by rw[ru.length,rw'.length];exact z,kR rm e1 (ru.append rw') (VP.mpr rfl) q⟩
end
end Mi
end
namespace Mi
open L2.Srt
end Mi
namespace Mi
end Mi
namespace Mi
end Mi
namespace Mi
section
mutual
noncomputable def GV(K:Frag):D->gV->Prop
 |.int i,v=>∃t,v=.int i t
 |.str x,v=>∃t,v=.str x t
 |.tup ds,v=>∃a o its n,v=.ref a/\K.lookup a=Z o/\o.cls=.type "tuple"/\o.data=.seq its n/\its.size<=L3/\fk ds=Md/\GVs K ds its.toList
 |_,_=>False
noncomputable def GVs(K:Frag):List D->List gV->Prop
 |[],us=>us=[]
 |d::ds,us=>∃u r,us=u::r/\GV K d u/\GVs K ds r
end
end
end Mi
namespace Mi
end Mi
namespace Mi
variable{f:Nat}{cs js:List Nat}{P:N2}{pos:Pos}
section
inductive BOp where|add|sub|mul|fdiv|mod|pow|ext
inductive COp where|eq|ne|lt|gt|ge|inS|ninD
inductive BF where|len|abs|max2|min2|int|list|tuple|all|sorts
inductive MF where|append
set_option genCtorIdx false
set_option genInjectivity false
mutual
inductive MG where
 |name (i:Nat)
 |tup (gs:MGs)
inductive MGs where
 |nil
 |cons (g:MG) (r:MGs)
end
mutual
inductive ME where
 |var (i:Nat)
 |int (i:Int)
 |bl (b:Bool)
 |non
 |bin (op:BOp) (a b:ME)
 |neg (a:ME)
 |cmp (op:COp) (a b:ME)
 |and (es:MEs)
 |or (es:MEs)
 |not (a:ME)
 |ite (c:MT) (a b:ME)
 |tup (es:MEs)
 |lst (es:MEs)
 |ix (a b:ME)
 |sl (a:ME) (lo hi:MO)
 |call (f:Nat) (es:MEs)
 |callC (i:Nat) (es:MEs)
 |callL (f:Nat) (es:MEs) (j:Nat) (cs js:List Nat) (P:N2) (pos:Pos) (q:Str)
 |blt (f:BF) (es:MEs)
 |isin (a:ME) (T:String)
 |lrng2 (a b:ME)
 |dnew (t:Bool)
 |sortI (a:ME)
 |dget (o k x:ME)
 |meth (m:MF) (o a:ME)
 |ins (o i a:ME)
 |comp (fr:List (Option Nat)) (N:List Str) (c:MC)
inductive MEs where
 |nil
 |cons (e:ME) (r:MEs)
inductive MO where
 |none
 |some (e:ME)
inductive MT where
 |tru (e:ME)
 |cmp (op:COp) (a b:ME)
 |and (ts:MTs)
 |or (ts:MTs)
 |not (t:MT)
inductive MTs where
 |nil
 |cons (t:MT) (r:MTs)
inductive MI where
 |seq (e:ME)
 |rng1 (a:ME)
 |rng2 (a b:ME)
 |zip (a b:ME)
 |enum (a:ME)
inductive MC where
 |last (src:MI) (g:MG) (ifs:MTs) (elt:ME)
 |more (src:MI) (g:MG) (ifs:MTs) (rest:MC)
end
mutual
inductive MS where
 |asg (g:MG) (e:ME)
 |asgL (gs:MGs) (e:ME)
 |par (i j:Nat) (a b:ME)
 |put (o i e:ME)
 |aug (i:Nat) (op:BOp) (e:ME)
 |augI (o i:ME) (op:BOp) (e:ME)
 |drop (e:ME)
 |ret (e:ME)
 |ite (c:MT) (a b:MSs)
 |for (g:MG) (src:MI) (b:MSs)
 |while (c:MT) (b:MSs)
 |pass|brk|cnt
inductive MSs where
 |nil
 |cons (s:MS) (r:MSs)
end
set_option genCtorIdx true
set_option genInjectivity true
noncomputable def opB:BOp->R2d
 |.add=>fj|.sub=>oW|.mul=>gM|.fdiv=>jC|.mod=>oZ|.pow=>p8|.ext=>fj
noncomputable def opC:COp->R2d
 |.eq=>wEq|.ne=>wNe|.lt=>wLt| .gt=>wGt|.ge=>wGe| .inS=>uh| .ninD=>ui F2
noncomputable def opF:BF->RAd
 |.len=>fq| .abs=>kP|.max2=>jE|.min2=>jF|.int=>kQ|.list=>nJ|.tuple=>jG| .all=>pU| .sorts=>jZ
noncomputable def opM:MF->D->List D->Mem->QD->Prop
 |.append=>ij
noncomputable def opI:BOp->R2d
 |.add=>jO|.sub=>jP|.mul=>jQ|.ext=>oo|_=>λ_ _ _ _=>False
theorem qi:∀o,aG (opB o)
 |.add=>pe|.sub=>yj|.mul=>yk|.fdiv=>vE|.mod=>ym|.pow=>yn|.ext=>pe
theorem gn:∀o,aG (opC o)
 |.eq=>AV|.ne=>AW|.lt=>AZ| .gt=>B0|.ge=>B1| .inS=>zf| .ninD=>zh
theorem zi:∀o,aN (opF o)
 |.len=>pG| .abs=>pH|.max2=>mm|.min2=>mn|.int=>pI|.list=>mq|.tuple=>jH| .all=>pV| .sorts=>ka
theorem zj:∀o,jI (opM o)
 |.append=>iQ
theorem qj:∀o,aG (opI o)
 |.add=>gQ|.sub=>gR|.mul=>gT|.ext=>mX
 |.fdiv=>λ_ _ _ _ _ _ q=>q.elim|.mod=>λ_ _ _ _ _ _ q=>q.elim|.pow=>λ_ _ _ _ _ _ q=>q.elim
noncomputable abbrev Phi:=Nat->RAd
mutual
noncomputable def bG:MG->BT
 |.name i=>cO i
 |.tup gs=>yC (bGs gs)
noncomputable def bGs:MGs->BTs
 |.nil=>j4
 |.cons g r=>cr (bG g) (bGs r)
end
noncomputable def kb(Φ:Phi)(i:Nat)(t:TAd):TEd:=λρ M Q=>∃a,ρ[i]?=Z (Z (.ref a))/\wAr (Φ (5000+a)) t ρ M Q
theorem uj{Φ:Phi}{i:Nat}{t:TAd}(hΦ:∀f,aN (Φ f))(mt:aQ t):ad (kb Φ i t):=λρ M Q Q' h g9=>(by obtain⟨a,e,q⟩:=g9;exact⟨a,e,fD (hΦ _) mt _ _ _ _ h q⟩)
noncomputable def kY(cs:List Nat)(ρ:au):Option (List D):=cs.mapM λc=>(ρ[c]?).join
noncomputable def kc(Φ:Phi)(f:Nat)(t:TAd)(j:Nat)(cs js:List Nat)(P:N2)(pos:Pos)(q:Str):TEd:=λρ M Q=>∃gs,kY cs ρ=Z gs/\t ρ M λds M1=>M1 P=Z (.tab pos q)/\∀a,M1 a=Y->Φ (1000+f) (ds++[.ref a,.int j,.tup gs,.tup (js.map λi:Nat=>.int i)]) M1 Q
theorem uk{Φ:Phi}{t:TAd}{j:Nat}{q:Str}(hΦ:∀f,aN (Φ f))(mt:aQ t):ad (kc Φ f t j cs js P pos q):=λρ M Q Q' h g9=>(by obtain⟨gs,e,z⟩:=g9;exact⟨gs,e,mt _ _ _ _ (λds B y=>⟨y.1,λa n=>hΦ _ _ _ _ _ h (y.2 a n)⟩) z⟩)
mutual
noncomputable def wE(Φ:Phi):ME->TEd
 |.var i=>fh i
 |.int i=>wC (.int i)
 |.bl b=>wC (.bl b)
 |.non=>wC .non
 |.bin op a b=>wOp (opB op) (wE Φ a) (wE Φ b)
 |.neg a=>wUn pj (wE Φ a)
 |.cmp op a b=>wOp (opC op) (wE Φ a) (wE Φ b)
 |.and es=>wAnds Φ es
 |.or es=>wOrs Φ es
 |.not a=>nO (wE Φ a)
 |.ite c a b=>wIf (wT Φ c) (wE Φ a) (wE Φ b)
 |.tup es=>wAr tJ (wA Φ es)
 |.lst es=>wAr tK (wA Φ es)
 |.ix a b=>wOp wIx (wE Φ a) (wE Φ b)
 |.sl a lo hi=>wSl (wE Φ a) (wO Φ lo) (wO Φ hi)
 |.call f es=>wAr (Φ f) (wA Φ es)
 |.callC i es=>kb Φ i (wA Φ es)
 |.callL f es j cs js P pos q=>kc Φ f (wA Φ es) j cs js P pos q
 |.blt f es=>wAr (opF f) (wA Φ es)
 |.isin a T=>nQ T (wE Φ a)
 |.lrng2 a b=>jJ (av (wE Φ a) (av (wE Φ b) aZ))
 |.dnew t=>nY t
 |.sortI a=>jY (wE Φ a)
 |.dget o k x=>oi (wE Φ o) (wE Φ k) (wE Φ x)
 |.meth m o a=>wBM (opM m) (wE Φ o) (av (wE Φ a) aZ)
 |.ins o i a=>wBM iB (wE Φ o) (av (wE Φ i) (av (wE Φ a) aZ))
 |.comp fr _ c=>wCmp Φ fr c
noncomputable def wA(Φ:Phi):MEs->TAd
 |.nil=>aZ
 |.cons e r=>av (wE Φ e) (wA Φ r)
noncomputable def wAnds(Φ:Phi):MEs->TEd
 |.nil=>λ_ _ _=>False
 |.cons e .nil=>wE Φ e
 |.cons e (.cons f r)=>nN (wE Φ e) (wAnds Φ (.cons f r))
noncomputable def wOrs(Φ:Phi):MEs->TEd
 |.nil=>λ_ _ _=>False
 |.cons e .nil=>wE Φ e
 |.cons e (.cons f r)=>tQ (wE Φ e) (wOrs Φ (.cons f r))
noncomputable def wO(Φ:Phi):MO->TOd
 |.none=>ii
 |.some e=>nP (wE Φ e)
noncomputable def wT(Φ:Phi):MT->TTd
 |.tru e=>tO (wE Φ e)
 |.cmp op a b=>gK (wOp (opC op) (wE Φ a) (wE Φ b))
 |.and ts=>wAndTs Φ ts
 |.or ts=>wOrTs Φ ts
 |.not t=>nK (wT Φ t)
noncomputable def wAndTs(Φ:Phi):MTs->TTd
 |.nil=>λ_ _ _=>False
 |.cons e .nil=>wT Φ e
 |.cons e (.cons f r)=>nM (wT Φ e) (wAndTs Φ (.cons f r))
noncomputable def wOrTs(Φ:Phi):MTs->TTd
 |.nil=>λ_ _ _=>False
 |.cons e .nil=>wT Φ e
 |.cons e (.cons f r)=>tP (wT Φ e) (wOrTs Φ (.cons f r))
noncomputable def wTl(Φ:Phi):MTs->List TTd
 |.nil=>[]
 |.cons t r=>wT Φ t::wTl Φ r
noncomputable def wI(Φ:Phi):MI->TId
 |.seq e=>tS (wE Φ e)
 |.rng1 a=>nS (av (wE Φ a) aZ)
 |.rng2 a b=>nT (av (wE Φ a) (av (wE Φ b) aZ))
 |.zip a b=>kS (wE Φ a) (wE Φ b)
 |.enum a=>nU (wE Φ a)
noncomputable def wCl(Φ:Phi):MC->TCd
 |.last src g ifs elt=>dP (wI Φ src) (bG g) (br (wTl Φ ifs) (eJ (wE Φ elt)))
 |.more src g ifs rest=>dP (wI Φ src) (bG g) (br (wTl Φ ifs) (wCl Φ rest))
noncomputable def wCmp(Φ:Phi)(fr:List (Option Nat)):MC->TEd
 |.last src g ifs elt=>im fr (wI Φ src) (bG g) (br (wTl Φ ifs) (eJ (wE Φ elt)))
 |.more src g ifs rest=>im fr (wI Φ src) (bG g) (br (wTl Φ ifs) (wCl Φ rest))
end
mutual
noncomputable def wS(Φ:Phi):MS->TSd
 |.asg g e=>kT (wE Φ e) (bG g)
 |.asgL gs e=>oj (wE Φ e) (bGs gs)
 |.par i j a b=>tW (av (wE Φ a) (av (wE Φ b) aZ)) (cr (cO i) (cr (cO j) j4))
 |.put o i e=>u7 (wE Φ e) (wE Φ o) (wE Φ i)
 |.aug i op e=>u8 i (opI op) (wE Φ e)
 |.augI o i op e=>nX (wE Φ o) (wE Φ i) (wE Φ e) (opI op)
 |.drop e=>nW (wE Φ e)
 |.ret e=>tV (wE Φ e)
 |.ite c a b=>sIf (wT Φ c) (wSs Φ a) (wSs Φ b)
 |.for g src b=>tX (wI Φ src) (bG g) (wSs Φ b)
 |.while c b=>jN (wT Φ c) (wSs Φ b)
 |.pass=>jL
 |.brk=>jM
 |.cnt=>nV
noncomputable def wSs(Φ:Phi):MSs->TSd
 |.nil=>jL
 |.cons s r=>yI (wS Φ s) (wSs Φ r)
end
section
variable{Φ:Phi}(hΦ:∀f,aN (Φ f))
include hΦ
mutual
theorem mE:∀m,ad (wE Φ m)
 |.var _=>yg
 |.int _=>oU
 |.bl _=>oU
 |.non=>oU
 |.bin op a b=>fC (qi op) (mE a) (mE b)
 |.neg a=>AS pC (mE a)
 |.cmp op a b=>fC (gn op) (mE a) (mE b)
 |.and es=>mAnds es
 |.or es=>mOrs es
 |.not a=>vJ (mE a)
 |.ite c a b=>B7 (mT c) (mE a) (mE b)
 |.tup es=>fD vB (mA es)
 |.lst es=>fD vC (mA es)
 |.ix a b=>fC rM (mE a) (mE b)
 |.sl a lo hi=>Ba (mE a) (mO lo) (mO hi)
 |.call f es=>fD (hΦ f) (mA es)
 |.callC i es=>uj hΦ (mA es)
 |.callL f es j cs js P pos q=>uk hΦ (mA es)
 |.blt f es=>fD (zi f) (mA es)
 |.isin a T=>vM (mE a)
 |.lrng2 a b=>tT (al (mE a) (al (mE b) ar))
 |.dnew _=>w8
 |.sortI a=>ug (mE a)
 |.dget o k x=>wt (mE o) (mE k) (mE x)
 |.meth m o a=>rN (zj m) (mE o) (al (mE a) ar)
 |.ins o i a=>rN iU (mE o) (al (mE i) (al (mE a) ar))
 |.comp fr _ c=>mCmp fr c
theorem mA:∀m,aQ (wA Φ m)
 |.nil=>ar
 |.cons e r=>al (mE e) (mA r)
theorem mAnds:∀m,ad (wAnds Φ m)
 |.nil=>λ_ _ _ _ _ q=>q.elim
 |.cons e .nil=>mE e
 |.cons e (.cons f r)=>vI (mE e) (mAnds (.cons f r))
theorem mOrs:∀m,ad (wOrs Φ m)
 |.nil=>λ_ _ _ _ _ q=>q.elim
 |.cons e .nil=>mE e
 |.cons e (.cons f r)=>yz (mE e) (mOrs (.cons f r))
theorem mO:∀m,fX (wO Φ m)
 |.none=>r6
 |.some e=>vL (mE e)
theorem mT:∀m,aK (wT Φ m)
 |.tru e=>yw (mE e)
 |.cmp op a b=>yh (fC (gn op) (mE a) (mE b))
 |.and ts=>mAndTs ts
 |.or ts=>mOrTs ts
 |.not t=>vG (mT t)
theorem mAndTs:∀m,aK (wAndTs Φ m)
 |.nil=>λ_ _ _ _ _ q=>q.elim
 |.cons e .nil=>mT e
 |.cons e (.cons f r)=>vH (mT e) (mAndTs (.cons f r))
theorem mOrTs:∀m,aK (wOrTs Φ m)
 |.nil=>λ_ _ _ _ _ q=>q.elim
 |.cons e .nil=>mT e
 |.cons e (.cons f r)=>yx (mT e) (mOrTs (.cons f r))
theorem mTl:∀m,∀t∈wTl Φ m,aK t
 |.nil=>by rw[wTl];intro t j;simp at j
 |.cons t r=>by
  rw[wTl];intro t' j
  rcases KZ.mp j with e|e
  ·rw[e];exact mT t
  ·exact mTl r t' e
theorem mI:∀m,cu (wI Φ m)
 |.seq e=>yE (mE e)
 |.rng1 a=>vQ (al (mE a) ar)
 |.rng2 a b=>vR (al (mE a) (al (mE b) ar))
 |.zip a b=>yH (mE a) (mE b)
 |.enum a=>vS (mE a)
theorem mCl:∀m,cc (wCl Φ m)
 |.last src g ifs elt=>iR (mI src) (aV (bM (mE elt)) (mTl ifs))
 |.more src g ifs rest=>iR (mI src) (aV (mCl rest) (mTl ifs))
theorem mCmp(fr:List (Option Nat)):∀m,ad (wCmp Φ fr m)
 |.last src g ifs elt=>mv (mI src) (aV (bM (mE elt)) (mTl ifs))
 |.more src g ifs rest=>mv (mI src) (aV (mCl rest) (mTl ifs))
end
mutual
theorem mS:∀m,aM (wS Φ m)
 |.asg g e=>yL (mE hΦ e)
 |.asgL gs e=>wu (mE hΦ e)
 |.par i j a b=>yM (al (mE hΦ a) (al (mE hΦ b) ar))
 |.put o i e=>yS (mE hΦ e) (mE hΦ o) (mE hΦ i)
 |.aug i op e=>yT (qj op) (mE hΦ e)
 |.augI o i op e=>w6 (mE hΦ o) (mE hΦ i) (mE hΦ e) (qj op)
 |.drop e=>vW (mE hΦ e)
 |.ret e=>yJ (mE hΦ e)
 |.ite c a b=>yK (mT hΦ c) (mSs a) (mSs b)
 |.for g src b=>yN (mI hΦ src) (mSs b)
 |.while c b=>tZ (mT hΦ c) (mSs b)
 |.pass=>mz
 |.brk=>tY
 |.cnt=>vT
theorem mSs:∀m,aM (wSs Φ m)
 |.nil=>mz
 |.cons s r=>vU (mS s) (mSs r)
end
end
end
variable{Φ:Phi}{e:Expr}{es:List Expr}{env:Env}
section
structure Ctx where
 Γ:List Str
 N:List Str
 sc:Scope
 fn:List Str
 cs:List (Str×D)
 lm:Nat
 nm:Str
noncomputable def glB(sc:Scope)(x:Str):Bool:=sc.names.lookup x==Z .globalImplicit
noncomputable def um(sc:Scope)(x:Str):Bool:=sc.names.lookup x==Z .local || sc.names.lookup x==Z .cell || sc.names.lookup x==Z .free
noncomputable def uo(sc:Scope)(x:Str):Bool:=sc.names.lookup x==Z .local || sc.names.lookup x==Z .cell
noncomputable def aH:Expr->Bool
 |.Starred ..=>Md
 |_=>F2
noncomputable def wB:Expr->Bool
 |.Name ..|.Call ..|.Subscript ..|.Constant ..|.BinOp ..|.Attribute ..=>F2
 |_=>Md
noncomputable def iC:Expr->Bool
 |.Slice ..=>Md
 |_=>F2
noncomputable def ke:Expr->Bool
 |.ListComp ..|.SetComp ..|.DictComp ..=>Md
 |_=>F2
noncomputable def uq:Expr->Bool
 |.Set ..=>Md
 |_=>F2
noncomputable def fI:Expr->Bool
 |.Call _ (_::_) _ _=>F2
 |.Call ..=>Md
 |_=>F2
noncomputable def opO:BOp->Ph
 |.add=>.Add|.sub=>.Sub|.mul=>.Mult|.fdiv=>.FloorDiv|.mod=>.Mod|.pow=>.Pow|.ext=>.Add
noncomputable def zk:COp->CmpOp
 |.eq=>.Eq|.ne=>.NotEq|.lt=>.Lt| .gt=>.Gt|.ge=>.GtE| .inS=>.In| .ninD=>.NotIn
noncomputable def qk:BF->Str
 |.len=>"len"| .abs=>"abs"|.max2=>"max"|.min2=>"min"|.int=>"int"|.list=>"list"|.tuple=>"tuple"| .all=>"all"| .sorts=>"sorted"
noncomputable def DJ:MF->Str
 |.append=>"append"
noncomputable def bltNames:List Str:=["len","abs","max","min","int","list","tuple","sum","isinstance","range","bool","str","dict","zip","enumerate","reversed","sorted","all","any","set"]
noncomputable def jb(sc osc:Scope):Scope:={sc with names:=sc.names.map λ(n,k)=>if(k==.free&&osc.kind==.function&&osc.names.lookup n==Z .cell)then(n,.cell)else(n,k)}
theorem rp(sc:Scope)(env:Env):relabel sc env=jb sc env.scope:=rfl
noncomputable def zm(sc osc:Scope)(oN N':List Str)(fr:List (Option Nat)):Bool:=
 decide (sc.kind=.function)&&decide ((sc.names.map (·.1)).Nodup)&&decide (N'.Nodup)
  && sc.names.all (λx=>!(x.2==.free) || osc.names.lookup x.1==Z .cell || osc.names.lookup x.1==Z .free)
  && decide (fr.length=N'.length)
  && (z4 N'.length).all λi=>match fr[i]?,N'[i]? with
   |some (Z j),Z x=>decide (oN[j]?=Z x)&&sc.names.any (λy=>decide (y=(x,LN)))
   |_,_=>F2
theorem pk{p:Prop}[d:Decidable p]{t:p->Bool}(h:dite p t (λ_=>Md)=F2):∃c,t c=F2:=by
 cases d with
 |isTrue c=>exact⟨c,h⟩
 |isFalse c=>cases h
noncomputable def dF(e:Expr)(f:Str->Pos->Bool):Bool:=if h:e.ctorIdx=23 then @VH.elim (λ_=>Bool) e h f else Md
@[elab_as_elim]
theorem eQ{P:Expr->Prop}(e:Expr){f:Str->Pos->Bool}(h:dF e f=F2)(k:∀a b,f a b=F2->P (.Name a b)):P e:=(pk h).elim λc=>@VH.elim (λe=>∀c,@VH.elim (λ_=>Bool) e c f=F2->P e) e c (λa b _=>k a b) c
noncomputable def eS(e:Expr)(f:Const->Nat->Pos->Bool):Bool:=if h:e.ctorIdx=19 then @TF.elim (λ_=>Bool) e h f else Md
@[elab_as_elim]
theorem gY{P:Expr->Prop}(e:Expr){f:Const->Nat->Pos->Bool}(h:eS e f=F2)(k:∀a b c,f a b c=F2->P (.Constant a b c)):P e:=(pk h).elim λc=>@TF.elim (λe=>∀c,@TF.elim (λ_=>Bool) e c f=F2->P e) e c (λa b c _=>k a b c) c
noncomputable def wD(e:Expr)(f:Expr->Ph->Expr->Pos->Bool):Bool:=if h:e.ctorIdx=2 then @Vz.elim (λ_=>Bool) e h f else Md
@[elab_as_elim]
theorem DK{P:Expr->Prop}(e:Expr){f:Expr->Ph->Expr->Pos->Bool}(h:wD e f=F2)(k:∀a b c d,f a b c d=F2->P (.BinOp a b c d)):P e:=(pk h).elim λc=>@Vz.elim (λe=>∀c,@Vz.elim (λ_=>Bool) e c f=F2->P e) e c (λa b c d _=>k a b c d) c
noncomputable def gp(e:Expr)(f:UnaryOp->Expr->Pos->Bool):Bool:=if h:e.ctorIdx=3 then @Uw.elim (λ_=>Bool) e h f else Md
@[elab_as_elim]
theorem jc{P:Expr->Prop}(e:Expr){f:UnaryOp->Expr->Pos->Bool}(h:gp e f=F2)(k:∀a b c,f a b c=F2->P (.UnaryOp a b c)):P e:=(pk h).elim λc=>@Uw.elim (λe=>∀c,@Uw.elim (λ_=>Bool) e c f=F2->P e) e c (λa b c _=>k a b c) c
noncomputable def jd(e:Expr)(f:Expr->List CmpOp->List Expr->Pos->Bool):Bool:=if h:e.ctorIdx=15 then @Ux.elim (λ_=>Bool) e h f else Md
@[elab_as_elim]
theorem ql{P:Expr->Prop}(e:Expr){f:Expr->List CmpOp->List Expr->Pos->Bool}(h:jd e f=F2)(k:∀a b c d,f a b c d=F2->P (.Compare a b c d)):P e:=(pk h).elim λc=>@Ux.elim (λe=>∀c,@Ux.elim (λ_=>Bool) e c f=F2->P e) e c (λa b c d _=>k a b c d) c
noncomputable def fJ(e:Expr)(f:BoolOp->List Expr->Pos->Bool):Bool:=if h:e.ctorIdx=0 then @Va.elim (λ_=>Bool) e h f else Md
@[elab_as_elim]
theorem iD{P:Expr->Prop}(e:Expr){f:BoolOp->List Expr->Pos->Bool}(h:fJ e f=F2)(k:∀a b c,f a b c=F2->P (.BoolOp a b c)):P e:=(pk h).elim λc=>@Va.elim (λe=>∀c,@Va.elim (λ_=>Bool) e c f=F2->P e) e c (λa b c _=>k a b c) c
noncomputable def wF(e:Expr)(f:Expr->Expr->Expr->Pos->Bool):Bool:=if h:e.ctorIdx=5 then @VA.elim (λ_=>Bool) e h f else Md
@[elab_as_elim]
theorem DL{P:Expr->Prop}(e:Expr){f:Expr->Expr->Expr->Pos->Bool}(h:wF e f=F2)(k:∀a b c d,f a b c d=F2->P (.IfExp a b c d)):P e:=(pk h).elim λc=>@VA.elim (λe=>∀c,@VA.elim (λ_=>Bool) e c f=F2->P e) e c (λa b c d _=>k a b c d) c
noncomputable def dm(e:Expr)(f:List Expr->Nat->Pos->Bool):Bool:=if h:e.ctorIdx=25 then @VB.elim (λ_=>Bool) e h f else Md
@[elab_as_elim]
theorem ed{P:Expr->Prop}(e:Expr){f:List Expr->Nat->Pos->Bool}(h:dm e f=F2)(k:∀a b c,f a b c=F2->P (.Tuple a b c)):P e:=(pk h).elim λc=>@VB.elim (λe=>∀c,@VB.elim (λ_=>Bool) e c f=F2->P e) e c (λa b c _=>k a b c) c
noncomputable def Ah(e:Expr)(f:List Expr->Pos->Bool):Bool:=if h:e.ctorIdx=24 then @VI.elim (λ_=>Bool) e h f else Md
@[elab_as_elim]
theorem Fl{P:Expr->Prop}(e:Expr){f:List Expr->Pos->Bool}(h:Ah e f=F2)(k:∀a b,f a b=F2->P (.List a b)):P e:=(pk h).elim λc=>@VI.elim (λe=>∀c,@VI.elim (λ_=>Bool) e c f=F2->P e) e c (λa b _=>k a b) c
noncomputable def cR(e:Expr)(f:Expr->Expr->Pos->Bool):Bool:=if h:e.ctorIdx=21 then @Tc.elim (λ_=>Bool) e h f else Md
@[elab_as_elim]
theorem dG{P:Expr->Prop}(e:Expr){f:Expr->Expr->Pos->Bool}(h:cR e f=F2)(k:∀a b c,f a b c=F2->P (.Subscript a b c)):P e:=(pk h).elim λc=>@Tc.elim (λe=>∀c,@Tc.elim (λ_=>Bool) e c f=F2->P e) e c (λa b c _=>k a b c) c
noncomputable def ur(e:Expr)(f:Expr->List Expr->List QX->Pos->Bool):Bool:=if h:e.ctorIdx=16 then @VJ.elim (λ_=>Bool) e h f else Md
@[elab_as_elim]
theorem Ai{P:Expr->Prop}(e:Expr){f:Expr->List Expr->List QX->Pos->Bool}(h:ur e f=F2)(k:∀a b c d,f a b c d=F2->P (.Call a b c d)):P e:=(pk h).elim λc=>@VJ.elim (λe=>∀c,@VJ.elim (λ_=>Bool) e c f=F2->P e) e c (λa b c d _=>k a b c d) c
noncomputable def kf(e:Expr)(f:Expr->Str->Pos->Bool):Bool:=if h:e.ctorIdx=20 then @Td.elim (λ_=>Bool) e h f else Md
@[elab_as_elim]
theorem ut{P:Expr->Prop}(e:Expr){f:Expr->Str->Pos->Bool}(h:kf e f=F2)(k:∀a b c,f a b c=F2->P (.Attribute a b c)):P e:=(pk h).elim λc=>@Td.elim (λe=>∀c,@Td.elim (λ_=>Bool) e c f=F2->P e) e c (λa b c _=>k a b c) c
noncomputable def wG(e:Expr)(f:Option Expr->Option Expr->Option Expr->Pos->Bool):Bool:=if h:e.ctorIdx=26 then @VC.elim (λ_=>Bool) e h f else Md
@[elab_as_elim]
theorem DM{P:Expr->Prop}(e:Expr){f:Option Expr->Option Expr->Option Expr->Pos->Bool}(h:wG e f=F2)(k:∀a b c d,f a b c d=F2->P (.Slice a b c d)):P e:=(pk h).elim λc=>@VC.elim (λe=>∀c,@VC.elim (λ_=>Bool) e c f=F2->P e) e c (λa b c d _=>k a b c d) c
noncomputable def mY(e:Expr)(f:Expr->List Ms->Scope->Pos->Bool):Bool:=if h:e.ctorIdx=8 then @TH.elim (λ_=>Bool) e h f else Md
@[elab_as_elim]
theorem wH{P:Expr->Prop}(e:Expr){f:Expr->List Ms->Scope->Pos->Bool}(h:mY e f=F2)(k:∀a b c d,f a b c d=F2->P (.ListComp a b c d)):P e:=(pk h).elim λc=>@TH.elim (λe=>∀c,@TH.elim (λ_=>Bool) e c f=F2->P e) e c (λa b c d _=>k a b c d) c
noncomputable def Aj(e:Expr)(f:List (Option Expr)->List Expr->Pos->Bool):Bool:=if h:e.ctorIdx=6 then @VL.elim (λ_=>Bool) e h f else Md
@[elab_as_elim]
theorem Fm{P:Expr->Prop}(e:Expr){f:List (Option Expr)->List Expr->Pos->Bool}(h:Aj e f=F2)(k:∀a b c,f a b c=F2->P (.Dict a b c)):P e:=(pk h).elim λc=>@VL.elim (λe=>∀c,@VL.elim (λ_=>Bool) e c f=F2->P e) e c (λa b c _=>k a b c) c
noncomputable def ee(e:Stmt)(f:List Expr->Expr->Pos->Bool):Bool:=if h:e.ctorIdx=5 then @Vb.elim (λ_=>Bool) e h f else Md
@[elab_as_elim]
theorem gu{P:Stmt->Prop}(e:Stmt){f:List Expr->Expr->Pos->Bool}(h:ee e f=F2)(k:∀a b c,f a b c=F2->P (.Assign a b c)):P e:=(pk h).elim λc=>@Vb.elim (λe=>∀c,@Vb.elim (λ_=>Bool) e c f=F2->P e) e c (λa b c _=>k a b c) c
noncomputable def fw(e:Stmt)(f:Expr->Ph->Expr->Pos->Bool):Bool:=if h:e.ctorIdx=7 then @Te.elim (λ_=>Bool) e h f else Md
@[elab_as_elim]
theorem iV{P:Stmt->Prop}(e:Stmt){f:Expr->Ph->Expr->Pos->Bool}(h:fw e f=F2)(k:∀a b c d,f a b c d=F2->P (.AugAssign a b c d)):P e:=(pk h).elim λc=>@Te.elim (λe=>∀c,@Te.elim (λ_=>Bool) e c f=F2->P e) e c (λa b c d _=>k a b c d) c
noncomputable def wJ(e:Stmt)(f:Expr->Pos->Bool):Bool:=if h:e.ctorIdx=24 then @VM.elim (λ_=>Bool) e h f else Md
@[elab_as_elim]
theorem DN{P:Stmt->Prop}(e:Stmt){f:Expr->Pos->Bool}(h:wJ e f=F2)(k:∀a b,f a b=F2->P (.Expr a b)):P e:=(pk h).elim λc=>@VM.elim (λe=>∀c,@VM.elim (λ_=>Bool) e c f=F2->P e) e c (λa b _=>k a b) c
noncomputable def qm(e:Stmt)(f:Option Expr->Pos->Bool):Bool:=if h:e.ctorIdx=3 then @Vc.elim (λ_=>Bool) e h f else Md
@[elab_as_elim]
theorem zn{P:Stmt->Prop}(e:Stmt){f:Option Expr->Pos->Bool}(h:qm e f=F2)(k:∀a b,f a b=F2->P (.Return a b)):P e:=(pk h).elim λc=>@Vc.elim (λe=>∀c,@Vc.elim (λ_=>Bool) e c f=F2->P e) e c (λa b _=>k a b) c
noncomputable def DO(e:Stmt)(f:Expr->List Stmt->List Stmt->Pos->Bool):Bool:=if h:e.ctorIdx=12 then @Stmt.If.elim (λ_=>Bool) e h f else Md
@[elab_as_elim]
theorem Gq{P:Stmt->Prop}(e:Stmt){f:Expr->List Stmt->List Stmt->Pos->Bool}(h:DO e f=F2)(k:∀a b c d,f a b c d=F2->P (.If a b c d)):P e:=(pk h).elim λc=>@Stmt.If.elim (λe=>∀c,@Stmt.If.elim (λ_=>Bool) e c f=F2->P e) e c (λa b c d _=>k a b c d) c
noncomputable def Ak(e:Stmt)(f:Expr->Expr->List Stmt->List Stmt->Pos->Bool):Bool:=if h:e.ctorIdx=9 then @Stmt.For.elim (λ_=>Bool) e h f else Md
@[elab_as_elim]
theorem Fo{P:Stmt->Prop}(e:Stmt){f:Expr->Expr->List Stmt->List Stmt->Pos->Bool}(h:Ak e f=F2)(k:∀a b c d e,f a b c d e=F2->P (.For a b c d e)):P e:=(pk h).elim λc=>@Stmt.For.elim (λe=>∀c,@Stmt.For.elim (λ_=>Bool) e c f=F2->P e) e c (λa b c d e _=>k a b c d e) c
noncomputable def sg(e:Stmt)(f:Expr->List Stmt->List Stmt->Pos->Bool):Bool:=if h:e.ctorIdx=11 then @VD.elim (λ_=>Bool) e h f else Md
@[elab_as_elim]
theorem BA{P:Stmt->Prop}(e:Stmt){f:Expr->List Stmt->List Stmt->Pos->Bool}(h:sg e f=F2)(k:∀a b c d,f a b c d=F2->P (.While a b c d)):P e:=(pk h).elim λc=>@VD.elim (λe=>∀c,@VD.elim (λ_=>Bool) e c f=F2->P e) e c (λa b c d _=>k a b c d) c
noncomputable def wK(e:Stmt)(f:Pos->Bool):Bool:=if h:e.ctorIdx=25 then @VN.elim (λ_=>Bool) e h f else Md
@[elab_as_elim]
theorem DP{P:Stmt->Prop}(e:Stmt){f:Pos->Bool}(h:wK e f=F2)(k:∀a,f a=F2->P (.Pass a)):P e:=(pk h).elim λc=>@VN.elim (λe=>∀c,@VN.elim (λ_=>Bool) e c f=F2->P e) e c (λa _=>k a) c
noncomputable def si(e:Stmt)(f:Pos->Bool):Bool:=if h:e.ctorIdx=26 then @VE.elim (λ_=>Bool) e h f else Md
@[elab_as_elim]
theorem BB{P:Stmt->Prop}(e:Stmt){f:Pos->Bool}(h:si e f=F2)(k:∀a,f a=F2->P (.Break a)):P e:=(pk h).elim λc=>@VE.elim (λe=>∀c,@VE.elim (λ_=>Bool) e c f=F2->P e) e c (λa _=>k a) c
noncomputable def kg(e:Stmt)(f:Pos->Bool):Bool:=if h:e.ctorIdx=27 then @TJ.elim (λ_=>Bool) e h f else Md
@[elab_as_elim]
theorem uu{P:Stmt->Prop}(e:Stmt){f:Pos->Bool}(h:kg e f=F2)(k:∀a,f a=F2->P (.Continue a)):P e:=(pk h).elim λc=>@TJ.elim (λe=>∀c,@TJ.elim (λ_=>Bool) e c f=F2->P e) e c (λa _=>k a) c
noncomputable def lv0{α:Type}(xs:List α)(b:Bool):Bool:=xs.isEmpty&&b
noncomputable def lvc{α:Type}(xs:List α)(f:α->List α->Bool):Bool:=match xs with
 |y::r=>f y r
 |[]=>Md
noncomputable def lv1{α:Type}(xs:List α)(f:α->Bool):Bool:=lvc xs λy r=>lv0 r (f y)
noncomputable def lv2{α:Type}(xs:List α)(f:α->α->Bool):Bool:=lvc xs λy r=>lv1 r (f y)
noncomputable def os{α:Type}(o:Option α)(f:α->Bool):Bool:=match o with
 |some x=>f x
 |none=>Md
noncomputable def on{α:Type}(o:Option α)(b:Bool):Bool:=o.isNone&&b
@[elab_as_elim]
theorem gZ{α:Type}{P:List α->Prop}(xs:List α){b:Bool}(h:lv0 xs b=F2)(k:b=F2->P []):P xs:=by
 cases xs with
 |nil=>exact k h
 |cons _ _=>cases h
@[elab_as_elim]
theorem DQ{α:Type}{P:List α->Prop}(xs:List α){f:α->List α->Bool}(h:lvc xs f=F2)(k:∀y r,f y r=F2->P (y::r)):P xs:=by
 cases xs with
 |nil=>cases h
 |cons y r=>exact k y r h
@[elab_as_elim]
theorem cS{α:Type}{P:List α->Prop}(xs:List α){f:α->Bool}(h:lv1 xs f=F2)(k:∀y,f y=F2->P [y]):P xs:=DQ xs h λy r h=>gZ r h λh=>k y h
@[elab_as_elim]
theorem hJ{α:Type}{P:List α->Prop}(xs:List α){f:α->α->Bool}(h:lv2 xs f=F2)(k:∀y z,f y z=F2->P [y,z]):P xs:=DQ xs h λy r h=>cS r h λz h=>k y z h
@[elab_as_elim]
theorem jos{α:Type}{P:Option α->Prop}(o:Option α){f:α->Bool}(h:os o f=F2)(k:∀x,f x=F2->P (Z x)):P o:=by
 cases o with
 |none=>cases h
 |some x=>exact k x h
@[elab_as_elim]
theorem jon{α:Type}{P:Option α->Prop}(o:Option α){b:Bool}(h:on o b=F2)(k:b=F2->P Y):P o:=by
 cases o with
 |none=>exact k h
 |some x=>cases h
theorem bH{a b:Bool}(h:(a&&b)=F2):a=F2/\b=F2:=by rwa[p0]at h
noncomputable def bD(e:Expr)(g:Str->List Expr->Bool):Bool:=ur e λf xs ks _=>lv0 ks (dF f λx _=>g x xs)
@[elab_as_elim]
theorem bE{P:Expr->Prop}(e:Expr){g:Str->List Expr->Bool}(h:bD e g=F2)(k:∀x xs p pos,g x xs=F2->P (.Call (.Name x p) xs [] pos)):P e:=Ai e h λf xs ks pos h=>gZ ks h λh=>eQ f h λx p h=>k x xs p pos h
noncomputable def kh(e:Expr)(g:Expr->Str->List Expr->Pos->Pos->Bool):Bool:=ur e λf xs ks p=>lv0 ks (kf f λo n q=>g o n xs q p)
@[elab_as_elim]
theorem ot{P:Expr->Prop}(e:Expr){g:Expr->Str->List Expr->Pos->Pos->Bool}(h:kh e g=F2)(k:∀o n xs q p,g o n xs q p=F2->P (.Call (.Attribute o n q) xs [] p)):P e:=Ai e h λf xs ks pos h=>gZ ks h λh=>ut f h λo n q h=>k o n xs q pos h
noncomputable def iSl(e:Expr)(g:Expr->Option Expr->Option Expr->Option Expr->Bool):Bool:=cR e λx y _=>wG y λl u s _=>g x l u s
@[elab_as_elim]
theorem jSl{P:Expr->Prop}(e:Expr){g:Expr->Option Expr->Option Expr->Option Expr->Bool}(h:iSl e g=F2)(k:∀x l u s p pos,g x l u s=F2->P (.Subscript x (.Slice l u s p) pos)):P e:=dG e h λx y pos h=>DM y h λl u s p h=>k x l u s p pos h
mutual
noncomputable def okG:MG->Ctx->Expr->Bool
 |.name i,C,e=>dF e λx _=>decide (C.N[i]?=Z x)&&uo C.sc x&&(C.sc.names.lookup x==Z .local || C.fn.contains x)
 |.tup gs,C,e=>dm e λes _ _=>okGs gs C es
noncomputable def okGs:MGs->Ctx->List Expr->Bool
 |.nil,_,es=>es.isEmpty
 |.cons g r,C,es=>match es with
  |e::es=>aH e&&okG g C e&&okGs r C es
  |[]=>Md
end
noncomputable def ou(ns:List Str):List Nat->List Expr->Bool
 |[],[]=>F2
 |i::r,e::es=>dF e (λx _=>decide (ns[i]?=Z x) && !(x==("__debug__":Str)) && !(x==("__classdict__":Str)))&&ou ns r es
 |_,_=>Md
noncomputable def sj(C:Ctx)(j:Nat)(js:List Nat)(ns:List Str)(sc:Scope)(b:Expr):Bool:=bD b λg es=>decide (C.Γ[j]?=Z g)&&glB sc g && !(g==("__debug__":Str)) && !es.isEmpty&&ou ns js es
noncomputable def cT(cs:List Nat)(N:List Str):Option (List Str):=cs.mapM λc=>N[c]?
noncomputable def ki:P9->Option (Arg×Arg)
 |⟨[],[a1,a2],Y,[],[],Y,[]⟩=>Z (a1,a2)
 |_=>Y
noncomputable def ox(C:Ctx)(j:Nat)(cs js:List Nat)(sc:Scope)(b:Expr)(y1 y2:Str)(xs:List Str):Bool:=
 decide (sc.kind=.function) && !sc.isCoroutine && !sc.isGenerator && !(y1==y2)&&sc.names.lookup y1==Z .local&&sc.names.lookup y2==Z .local
  && xs.all (λx=>sc.names.lookup x==Z .free&&C.sc.names.lookup x==Z .cell)&&sc.names.all (λy=>!(y.2==.cell)&&(!(y.2==.free) || xs.contains y.1))&&sj C j js (xs++[y1,y2]) sc b
noncomputable def Al(C:Ctx)(j:Nat)(cs js:List Nat)(pos:Pos):Expr->Bool
 |.Lambda ps b sc pos'=>decide (pos'=pos)&&os (ki ps) (λa=>os (cT cs C.N) (ox C j cs js sc b a.1.arg a.2.arg))
 |_=>Md
mutual
noncomputable def okE:ME->Ctx->Expr->Bool
 |.var i,C,e=>dF e λx _=>decide (C.N[i]?=Z x)&&um C.sc x && !(x==("__debug__":Str)) && !(x==("__classdict__":Str))
 |.int i,_,e=>eS e λc _ _=>decide (c=.int i)
 |.bl i,_,e=>eS e λc _ _=>decide (c=.bool i)
 |.non,_,e=>eS e λc _ _=>decide (c=.none)
 |.bin op a b,C,e=>wD e λl o r _=>decide (o=opO op)&&okE a C l&&okE b C r
 |.neg a,C,e=>gp e λo x _=>decide (o=.USub)&&okE a C x
 |.cmp op a b,C,e=>jd e λl os rs _=>lv1 os λo=>lv1 rs λr=>decide (o=zk op)&&okE a C l&&okE b C r && !(PF o r)
 |.and es,C,e=>fJ e λo xs _=>decide (o=.And) && !xs.isEmpty&&okEs es C xs
 |.or es,C,e=>fJ e λo xs _=>decide (o=.Or) && !xs.isEmpty&&okEs es C xs
 |.not a,C,e=>gp e λo x _=>decide (o=.Not)&&okE a C x
 |.ite c a b,C,e=>wF e λt x y _=>okT c C t&&okE a C x&&okE b C y
 |.tup es,C,e=>dm e λxs _ _=>okEs es C xs
 |.lst es,C,e=>Ah e λxs _=>okEs es C xs
 |.ix a b,C,e=>cR e λx y _=>iC y&&okE a C x&&okE b C y
 |.sl a lo hi,C,e=>iSl e λx l u s=>on s (okE a C x&&okO lo C l&&okO hi C u)
 |.callC i es,C,e=>bD e λx xs=>decide (C.lm=1)&&decide (C.N[i]?=Z x)&&um C.sc x && !(x==("__debug__":Str)) && !(x==("__classdict__":Str))&&decide (xs.length=2)&&okEs es C xs
 |.callL f es j cs js P pos q,C,e=>bD e λx xs=>decide (C.lm=P+2)&&decide (C.Γ[f]?=Z x)&&glB C.sc x && !(x==("__debug__":Str))&&decide (C.nm++(".<locals>.":Str)++("<lambda>":Str)=q)&&os xs.getLast? (Al C j cs js pos) && !xs.dropLast.isEmpty&&okEs es C xs.dropLast
 |.call f es,C,e=>bD e λx xs=>decide (C.Γ[f]?=Z x)&&glB C.sc x && !(x==("__debug__":Str))&&okEs es C xs
 |.blt f es,C,e=>bD e λx xs=>decide (x=qk f)&&glB C.sc x && !xs.isEmpty&&okEs es C xs
 |.isin a T,C,e=>bD e λx xs=>lv2 xs λy w=>dF w λz _=>decide (x="isinstance")&&glB C.sc x&&glB C.sc z&&decide (z=Lw T)&&decide (T∈["bool","int","str","tuple","list","dict"])&&aH y&&okE a C y
 |.dnew _,_,e=>Aj e λks vs _=>lv0 ks (lv0 vs F2)
 |.sortI a,C,e=>bD e λx xs=>lv1 xs λw=>kh w λy n ys ap cp=>lv0 ys (decide (x="sorted")&&glB C.sc x&&decide (n="items")&&fI y&&(ap.endLine==cp.line)&&okE a C y)
 |.dget o k x,C,e=>kh e λy n xs ap cp=>lv2 xs λe1 e2=>decide (n="get")&&fI y&&(ap.endLine==cp.line)&&aH e1&&aH e2&&okE o C y&&okE k C e1&&okE x C e2
 |.lrng2 a b,C,e=>bD e λx xs=>lv1 xs λw=>bD w λz ys=>lv2 ys λy u=>decide (x="list")&&glB C.sc x&&decide (z="range")&&glB C.sc z&&aH y&&aH u&&okE a C y&&okE b C u
 |.meth m o a,C,e=>kh e λx n xs ap cp=>lv1 xs λy=>decide (n=DJ m)&&fI x&&(ap.endLine==cp.line)&&aH y&&okE o C x&&okE a C y
 |.ins o i a,C,e=>kh e λx n xs ap cp=>lv2 xs λy z=>decide (n="insert")&&fI x&&(ap.endLine==cp.line)&&aH y&&aH z&&okE o C x&&okE i C y&&okE a C z
 |.comp fr N' c,C,e=>mY e λelt gens sc _=>zm sc C.sc C.N N' fr&&okC c C ⟨C.Γ,N',jb sc C.sc,(sc.names.filter (·.2==.cell)).map (·.1),C.cs,0,C.nm⟩ gens elt
noncomputable def okEs:MEs->Ctx->List Expr->Bool
 |.nil,_,es=>es.isEmpty
 |.cons m r,C,es=>match es with
  |e::es=>aH e&&okE m C e&&okEs r C es
  |[]=>Md
noncomputable def okO:MO->Ctx->Option Expr->Bool
 |.none,_,e=>e.isNone
 |.some m,C,e=>match e with
  |some e=>okE m C e
  |none=>Md
noncomputable def okT:MT->Ctx->Expr->Bool
 |.tru m,C,e=>wB e&&okE m C e
 |.cmp op a b,C,e=>jd e λl os rs _=>lv1 os λo=>lv1 rs λr=>decide (o=zk op)&&okE a C l&&okE b C r && !(PF o r)
 |.and ts,C,e=>fJ e λo xs _=>decide (o=.And) && !xs.isEmpty&&okTs ts C xs
 |.or ts,C,e=>fJ e λo xs _=>decide (o=.Or) && !xs.isEmpty&&okTs ts C xs
 |.not t,C,e=>gp e λo x _=>decide (o=.Not)&&okT t C x
noncomputable def okTs:MTs->Ctx->List Expr->Bool
 |.nil,_,es=>es.isEmpty
 |.cons m r,C,es=>match es with
  |e::es=>okT m C e&&okTs r C es
  |[]=>Md
noncomputable def okI:MI->Ctx->Expr->Expr->Bool
 |.seq m,C,_,e=>uq e&&okE m C e
 |.rng1 a,C,_,e=>bD e λx xs=>lv1 xs λy=>decide (x="range")&&glB C.sc x&&aH y&&okE a C y
 |.rng2 a b,C,_,e=>bD e λx xs=>lv2 xs λy z=>decide (x="range")&&glB C.sc x&&aH y&&aH z&&okE a C y&&okE b C z
 |.enum a,C,t,e=>bD e λx xs=>lv1 xs λy=>dm t λ_ _ _=>decide (x="enumerate")&&glB C.sc x&&aH y&&okE a C y
 |.zip a b,C,t,e=>bD e λx xs=>lv2 xs λy z=>dm t λ_ _ _=>decide (x="zip")&&glB C.sc x&&aH y&&aH z&&okE a C y&&okE b C z
noncomputable def okC:MC->Ctx->Ctx->List Ms->Expr->Bool
 |.last src g ifs m,Cs,C,gens,elt=>match gens with
  |[⟨t,it,fs,a⟩]=>decide (a=0)&&okI src Cs t it&&okG g C t&&okTs ifs C fs&&okE m C elt
  |_=>Md
 |.more src g ifs rest,Cs,C,gens,elt=>match gens with
  |⟨t,it,fs,a⟩::g2::gs=>decide (a=0)&&okI src Cs t it&&okG g C t&&okTs ifs C fs&&okC rest C C (g2::gs) elt
  |_=>Md
end
noncomputable def bg(sc:Scope)(ts:List Expr):List Str:=ts.filterMap fun
 |.Name id pos=>if sc.names.lookup id==Z .local&&pos.line==(ts.head?.map (·.pos.line)).getD 0 then Z id else Y
 |_=>Y
noncomputable def uv(sc:Scope)(ts vs:List Expr):Bool:=!(ts.length==2 || ts.length==3) || vs.length != ts.length || (bg sc ts).length != ts.length || (bg sc ts).eraseDups.length != (bg sc ts).length || vs.all (TK 8)
noncomputable def uw(C:Ctx)(i:Nat)(x:Str):Bool:=decide (C.N[i]?=Z x)&&decide (C.sc.names.lookup x=Z .local)
noncomputable def uz(sc:Scope)(ts vs:List Expr)(ns:List Str):Bool:=!(!(ts.length==2 || ts.length==3) || vs.length != ts.length) && !(vs.any λ| .Starred ..=>F2|_=>Md)&&decide (bg sc ts=ns) && !((bg sc ts).length != ts.length || (bg sc ts).eraseDups.length != (bg sc ts).length) && !(vs.all (TK 8)) && !(vs.all (constantsAlone 8))
noncomputable def uA(sc:Scope)(tg e:Expr):Bool:=match tg,e with
 |.Tuple ts _ _,.Tuple vs _ _=>uv sc ts vs
 |.Tuple ..,_=>F2
 |.Name ..,_=>F2
 |_,_=>Md
noncomputable def DR(sc:Scope)(x:Str)(px:Pos)(e:Expr):Bool:=match e with
 |.DictComp _ _ _ s _=>!(sc.names.lookup x==Z .local&&px.line==e.pos.line && !(s.names.any λ(n,k)=>n==x&&(k==.local || k==.cell)))
 |_=>F2
noncomputable def uB(sc:Scope)(x:Str)(px:Pos)(e:Expr):Bool:=match e with
 |.ListComp _ _ s _=>sc.names.lookup x==Z .local&&px.line==e.pos.line && !(s.names.any λ(n,k)=>n==x&&(k==.local || k==.cell))
 |_=>Md
mutual
noncomputable def okS:MS->Ctx->Stmt->Bool
 |.asg g m,C,s=>ee s λts e _=>lv1 ts λtg=>okG g C tg&&okE m C e&&uA C.sc tg e&&(match tg with|.Name x px=>DR C.sc x px e|_=>ke e)
 |.asgL gs m,C,s=>ee s λts e _=>lv1 ts λtg=>dm tg λts k p=>okGs gs C ts&&okE m C e&&uA C.sc (.Tuple ts k p) e
 |.par i j a b,C,s=>ee s λts e _=>lv1 ts λtg=>dm tg λts _ _=>dm e λes _ _=>lv2 ts λt u=>lv2 es λe f=>dF t λx px=>dF u λy py=>uw C i x&&uw C j y&&decide (i≠j)&&aH e&&aH f&&okE a C e&&okE b C f&&uz C.sc [.Name x px,.Name y py] [e,f] [x,y]
 |.put o i m,C,s=>ee s λts e _=>lv1 ts λtg=>cR tg λx y _=>iC y&&ke e&&okE o C x&&okE i C y&&okE m C e
 |.aug i op m,C,s=>fw s λt o e _=>dF t λx _=>decide (o=opO op)&&(match op with|.add|.sub|.mul|.ext=>F2|_=>Md)&&decide (C.N[i]?=Z x)&&uo C.sc x&&(C.sc.names.lookup x==Z .local || C.fn.contains x)&&okE m C e
 |.augI o i op m,C,s=>fw s λt o' e _=>cR t λx y _=>decide (o'=opO op)&&(match op with|.add|.sub|.mul=>F2|_=>Md)&&iC y&&okE o C x&&okE i C y&&okE m C e
 |.drop m,C,s=>wJ s λe _=>ke e&&okE m C e
 |.ret m,C,s=>qm s λo _=>os o λe=>okE m C e
 |.ite c a b,C,s=>DO s λt x y _=>okT c C t&&okSs a C x&&okSs b C y
 |.for g src b,C,s=>Ak s λtg it body els _=>lv0 els (uq it&&okG g C tg&&okI src C tg it&&okSs b C body)
 |.while c b,C,s=>sg s λt body els _=>lv0 els (okT c C t&&okSs b C body)
 |.pass,_,s=>wK s λ_=>F2
 |.brk,_,s=>si s λ_=>F2
 |.cnt,_,s=>kg s λ_=>F2
noncomputable def okSs:MSs->Ctx->List Stmt->Bool
 |.nil,_,ss=>ss.isEmpty
 |.cons m r,C,ss=>match ss with
  |s::ss=>okS m C s&&okSs r C ss
  |[]=>Md
end
theorem ag(h:aH e=F2):Ll (e::es) env=(Md,eval e env)::Ll es env:=by cases e<;>first|rfl|(cases h;done)
theorem mZ(h:aH e=F2):MM (e::es) env=(Md,assign e env)::MM es env:=by cases e<;>first|rfl|(cases h;done)
theorem uC(h:wB e=F2):∀whole,isTrue e env whole=(do let v <-whole;Rz e.pos;holding [v] (truthy v)):=by
 intro w
 cases e<;>first|rfl|(cases h;done)
theorem zo(h:iC e=F2):kI e:=by
 intro o i
 cases e<;>first|rfl|(cases h;done)
theorem wL(h:uq e=F2):∀x,NP e env x=pure x:=by
 intro x
 cases e<;>first|rfl|(cases h;done)
theorem gw{n:Str}(h:fI e=F2):RH e n env (eval e env)=eval e env:=by
 cases e<;>first
  |rfl
  | (rename_i f xs _ _;cases xs with
     |nil=>cases h
     |cons _ _=>cases f<;>rfl)
theorem DS{ts:List Expr}{k:Nat}{p:Pos}{l:Nat}:Pp e (Z (.Tuple ts k p)) l env=pure Md:=by cases e<;>rfl
theorem kZ{t:Option Expr}{l:Nat}(h:ke e=F2):Pp e t l env=pure Md:=by cases e<;>first|rfl|(cases h;done)
end
variable{x:Str}{sc:Scope}
section
noncomputable def lSp(K:Frag)(r:RAd):Sp:=λvs H Q _=>lR K r vs H Q
noncomputable def uD(Φ:Phi)(j:Nat)(gs:List D)(js:List Nat):RAd:=λargs M Q=>args.length=2/\Φ (4000+j) (js.map λi=>(gs++args).getD i .non) M Q
noncomputable def spC(P:Ln)(w:LL)(K:Frag)(mg:Str->Option gV)(base:Heap)(k:Nat)(Φ:Phi)(i:Nat):List Env->q7->Sp:=λouter s vs H Q _=>∃(ds:List D) (a:N2) (j:Nat) (gs:List D) (js:List Nat) (M:Mem),RM K M H/\RDs K H (ds++[.ref a]) vs/\ie P w K mg base (k-1) (frs outer) a (lSp K (uD Φ j gs js)) H s.heap/\Φ (1000+i) (ds++[.ref a,.int j,.tup gs,.tup (js.map λi:Nat=>.int i)]) M (KE' K M H Q)
def wM(X:Cx)(a:N2)(r:RAd):Prop:=∀(pins:List (N2×Obj)) (s:q7) (σ:St) (H:Hp) (vs:List V) (us:List gV) (Q:VK),Inv X pins σ H s->Vals vs us->lR X.K r vs H Q->
 Uh a s.heap/\La (model X.prog X.w) X.A (call (.ref a) us) (EP X pins σ Q) X.xe s
structure wN(C:Ctx)(Φ:Phi)(k:Nat)(X:Cx)(P:N2):Prop where
 cd:∃c,X.env.code=.ref c/\PySem.W.CodeHd X.base c P
 bm:fb X.mg X.base
 qu:X.env.qual=C.nm++(".<locals>.":Str)
 spc:∀(i:Nat) (x:Str),C.Γ[i]?=Z x->∃f fd ps,X.mg x=Z (.ref f)/\Oa X.K (.ref f)=F2/\Binds X.K fd ps []/\nH X.prog X.w X.K X.mg X.base k f fd ps (spC X.prog X.w X.K X.mg X.base k Φ i)
 low:∀(j:Nat) (x:Str),C.Γ[j]?=Z x->∃f fd ps,X.mg x=Z (.ref f)/\Oa X.K (.ref f)=F2/\Binds X.K fd ps []/\FnOk X.prog X.w X.K X.mg X.base CX0 (k-2) f fd ps (lSp X.K (Φ (4000+j)))
 big:(∃k0,k=k0+2)∨∀(j:Nat) (x:Str),C.Γ[j]?=Z x->∀ds M Q,¬Φ (4000+j) ds M Q
structure Good(C:Ctx)(Φ:Phi)(k:Nat)(X:Cx):Prop where
 hx:∀e s,X.xe e s->False
 calm:X.calm=F2
 N:X.N=C.N
 sc:X.env.scope=C.sc
 nd:X.N.Nodup
 fn:∀x∈C.fn,X.fn x=F2
 room:Room k X.A
 mgB:∀x∈bltNames,X.mg x=Y
 fns:∀(i:Nat) (x:Str),C.Γ[i]?=Z x->∃f fd ps,X.mg x=Z (.ref f)/\R3 X.K MB x=Z (Z (.ref f))/\Oa X.K (.ref f)=F2/\Binds X.K fd ps []/\FnOk X.prog X.w X.K X.mg X.base CX0 k f fd ps (lSp X.K (Φ i))
 mono:∀f,aN (Φ f)
 cs:∀x d,(x,d)∈C.cs->∃u,X.mg x=Z u/\GV X.K d u
 clo:C.lm=1->∀a,wM X a (Φ (5000+a))
 lam:∀P,C.lm=P+2->wN C Φ k X P
section
variable{C:Ctx}{Φ:Phi}{k:Nat}{X:Cx}
theorem Good.units(G:Good C Φ k X):X.A.units+64<Om:=G.room.units
theorem Good.gl(G:Good C Φ k X)(h:glB C.sc x=F2):Gl X x:=by show X.env.scope.names.lookup x=_;rw[G.sc];simpa[glB]using h
theorem Good.vis(G:Good C Φ k X)(h:um C.sc x=F2):Vis X.env.scope x:=by
 unfold Vis;rw[G.sc];simp[um]at h
 rcases h with(h|h)|h
 ·exact .inl h
 ·exact .inr (.inl h)
 ·exact .inr (.inr h)
theorem Good.loc(G:Good C Φ k X)(h:uo C.sc x=F2):Loc X.env.scope x:=by unfold Loc;rw[G.sc];simpa[uo]using h
theorem Good.own(G:Good C Φ k X)(h:(C.sc.names.lookup x==Z .local || C.fn.contains x)=F2):X.fn x=F2∨X.env.scope.names.lookup x=Z .local:=by
 rw[G.sc];simp at h
 rcases h with h|h
 ·exact .inr h
 ·exact .inl (G.fn x h)
theorem DT(G:Good C Φ k X):∀o:BOp,OpR X (Nc (opO o)) (l2 X.K (opB o))
 |.add=>pi|.sub=>yo|.mul=>yp|.fdiv=>vF|.mod=>yr|.pow=>yt|.ext=>pi
theorem sk(G:Good C Φ k X):∀o:COp,OpR X (NB (zk o)) (l2 X.K (opC o))
 |.eq=>AX (by have:=G.units;lia)|.ne=>AY (by have:=G.units;lia)|.lt=>B2| .gt=>B3|.ge=>B4| .inS=>zg| .ninD=>wy (by have:=G.units;lia)
theorem DU(G:Good C Φ k X){f:BF}{t:TAd}{p:Pos}(mt:aQ t)(z:Gl X (qk f))(B:PA X (e::es) (lA X.K t))(he:Ll (e::es) X.env=(Md,eval e X.env)::Ll es X.env)(j:(OL pos (Ll es X.env)).any (·.1)=Md):PE X (.Call (.Name (qk f) p) (e::es) [] pos) (lE X.K (wAr (opF f) t)):=by
 cases f with
 |len=>exact PE.imp (cB tL z (G.mgB _ (by decide)) PySem.boot_len B (by decide) (by decide) he j) (bK pG mt)
 |abs=>exact PE.imp (cB tM z (G.mgB _ (by decide)) (by decide +kernel) B (by decide) (by decide) he j) (bK pH mt)
 |max2=>exact PE.imp (cB (qX G.calm) z (G.mgB _ (by decide)) (by decide +kernel) B (by decide) (by decide) he j) (bK mm mt)
 |min2=>exact PE.imp (cB (qY G.calm) z (G.mgB _ (by decide)) (by decide +kernel) B (by decide) (by decide) he j) (bK mn mt)
 |int=>exact PE.imp (gF tN z (G.mgB _ (by decide)) (by decide +kernel) B (by decide) (by decide) he j) (bK pI mt)
 |list=>exact PE.imp (gF qZ z (G.mgB _ (by decide)) (by decide +kernel) B (by decide) (by decide) he j) (bK mq mt)
 |tuple=>exact PE.imp (gF pK z (G.mgB _ (by decide)) (by decide +kernel) B (by decide) (by decide) he j) (bK jH mt)
 |all=>exact PE.imp (cB (ua G.calm) z (G.mgB _ (by decide)) (by decide +kernel) B (by decide) (by decide) he j) (bK pV mt)
 |sorts=>exact PE.imp (cB (qg (by have:=G.units;lia) G.calm) z (G.mgB _ (by decide)) (by decide +kernel) B (by decide) (by decide) he j) (bK ka mt)
theorem BC(G:Good C Φ k X){t:TAd}{p:Pos}(mt:aQ t)(hf:C.Γ[f]?=Z x)(B:Gl X x)(j:(x==("__debug__":Str))=Md)(J:PA X (e::es) (lA X.K t))(he:Ll (e::es) X.env=(Md,eval e X.env)::Ll es X.env)(z:(OL pos (Ll es X.env)).any (·.1)=Md):PE X (.Call (.Name x p) (e::es) [] pos) (lE X.K (wAr (Φ f) t)):=by
 obtain⟨a,fd,ps,hm,_,L,O,F⟩:=G.fns f x hf;refine PE.imp (rB F G.room B hm L O .nil tF J j he z) λσ H Q h=>?_;have h2:=bK (G.mono f) mt σ H Q h;have:(λvs H1=>lSp X.K (Φ f) (vs++[]) H1 Q E0)=λvs H1=>lR X.K (Φ f) vs H1 Q:=by funext vs H1;rw[MJ];rfl
 show(lA X.K t) σ H _;rw[this];exact h2
theorem zp(G:Good C Φ k X){p:Pos}(hf:C.Γ[f]?=Z x)(z:Gl X x)(j:(x==("__debug__":Str))=Md):PE X (.Call (.Name x p) [] [] pos) (lE X.K (wAr (Φ f) aZ)):=by obtain⟨a,fd,ps,hm,_,B,J,F⟩:=G.fns f x hf;refine PE.imp (xW F G.room z hm B J .nil tF j) λσ H Q h=>?_;obtain⟨ρ,M,rs,rm,q⟩:=h;exact⟨[],M,rm,RDs.nil,q⟩
theorem cY{env:Env}{pos:Pos}:∀{es:List Expr},es.all aH=F2->(OL pos (Ll es env)).any (·.1)=Md
 |[],_=>rfl
 |e::es,h=>by
  simp only[NM,p0]at h;rw[ag h.1];show(Md || (OL pos (Ll es env)).any (·.1))=Md
  rw[cY h.2];rfl
theorem dq:∀{ms:MEs} {es:List Expr},okEs ms C es=F2->es.all aH=F2
 |.nil,[],_=>rfl
 |.nil,_::_,h=>by simp[okEs]at h
 |.cons m r,[],h=>by simp[okEs]at h
 |.cons m r,e::es,h=>by simp only[okEs,p0]at h;simp only[NM,p0];exact⟨h.1.1,dq h.2⟩
theorem lc:∀{gs:MGs} {es:List Expr},okGs gs C es=F2->∀ds ρ ρ',bGs gs ds ρ=Z ρ'->ds.length=es.length
 |.nil,es,h,ds,ρ,ρ',e=>by
  simp[okGs]at h;subst h;rw[bGs]at e
  cases ds with
  |nil=>rfl
  |cons _ _=>cases e
 |.cons g r,[],h,_,_,_,_=>by simp[okGs]at h
 |.cons g r,x::es,h,ds,ρ,ρ',e=>by
  simp only[okGs,p0]at h;rw[bGs]at e
  cases ds with
  |nil=>cases e
  |cons d ds=>
   simp only[cr]at e
   cases e1:bG g d ρ with
   |none=>rw[e1]at e;cases e
   |some ρ1=>rw[e1]at e;simp[lc h.2 ds ρ1 ρ' e]
theorem je{env:Env}:∀{gs:MGs} {es:List Expr},okGs gs C es=F2->(MM es env).length=es.length/\(MM es env).findIdx? (·.1)=Y
 |.nil,es,h=>by simp[okGs]at h;subst h;exact⟨rfl,rfl⟩
 |.cons g r,[],h=>by simp[okGs]at h
 |.cons g r,x::es,h=>by
  simp only[okGs,p0]at h;obtain⟨a,b⟩:=je (env:=env) h.2;rw[mZ h.1.1];refine⟨by simp[a],?_⟩
  rw[List.findIdx?_cons];simp[b]
mutual
theorem sG(G:Good C Φ k X):∀(m:MG) (e:Expr),okG m C e=F2->PG X e (lG X.K (bG m))
 |.name i,e,h=>by refine eQ e h λx _ h=>?_;simp only[p0]at h;exact Be G.nd (by rw[G.N];exact of_decide_eq_true h.1.1) (G.loc h.1.2) (G.own h.2)
 |.tup gs,e,h=>by refine ed e h λes _ _ h=>?_;rw[bG];obtain⟨a,b⟩:=je (env:=X.env) h;exact Ds G.calm (lc h) (sGs G gs _ h) a b
theorem sGs(G:Good C Φ k X):∀(m:MGs) (es:List Expr),okGs m C es=F2->PGs X es (lGs X.K (bGs m))
 |.nil,es,h=>by simp[okGs]at h;subst h;exact Bf
 |.cons g r,[],h=>by simp[okGs]at h
 |.cons g r,e::es,h=>by simp only[okGs,p0]at h;exact yD (sG G g e h.1.2) (sGs G r es h.2) (by rw[mZ h.1.1];rfl)
end
theorem PB.imp{F:Sem Fin->Sem Fin}{t t':TC}(h:PB X F t)(i:∀σ H N,t' σ H N->t σ H N):PB X F t':=λpins s σ H N k Q E I q hk=>h pins s σ H N k Q E I (i _ _ _ q) hk
theorem kj{osc:Scope}{oN N':List Str}{fr:List (Option Nat)}(h:zm sc osc oN N' fr=F2):bn sc osc oN N' fr:=by
 simp only[zm,p0,decide_eq_true_eq]at h;obtain⟨⟨⟨⟨⟨h1,h2⟩,G⟩,J⟩,L⟩,O⟩:=h;refine⟨h1,h2,G,λx hx e=>?_,L,λi j x hi hf=>?_⟩
 ·have B:=OH.mp J x hx;rw[e]at B;simpa using B
 ·have F:i<N'.length:=(L7.mp hi).1;have z:=OH.mp O i (LP.mpr F);rw[hf,hi]at z;simp only[p0,decide_eq_true_eq,MN]at z;obtain⟨a,y,U,e⟩:=z;exact⟨a,by rw[<-e];exact U⟩
theorem Good.blk(G:Good C Φ k X){N':List Str}{fr:List (Option Nat)}(B:bn sc C.sc C.N N' fr)(s:q7)(H:Hp)(fp:List N2):
 Good ⟨C.Γ,N',jb sc C.sc,(sc.names.filter (·.2==.cell)).map (·.1),C.cs,0,C.nm⟩ Φ k (aO X sc N' s H fp):=by
 refine⟨λ_ _ h=>h,G.calm,rfl,?_,B.ndN,λx hx=>?_,G.room,G.mgB,G.fns,G.mono,G.cs,λz=>(by cases z),λ_ z=>(by cases z)⟩
 ·show relabel sc X.env=_;rw[rp,G.sc]
 ·obtain⟨y,F,e⟩:=L9.mp hx;obtain⟨h1,h2⟩:=NR.mp F;obtain⟨n,kd⟩:=y;have j:kd=.cell:=by simpa using h2
  subst j;have e':n=x:=e;subst e';show(sc.names.lookup n==Z .cell)=F2;rw[aY B.nd h1];rfl
end
end
variable{C:Ctx}
section
section
variable{C:Ctx}{Φ:Phi}{k:Nat}{X:Cx}
theorem zq(G:Good C Φ k X)(j:C.lm=1){i:Nat}{y:Str}{t:TAd}{p:Pos}(mt:aQ t)(U:X.N[i]?=Z y)(z:Vis X.env.scope y)(B:(y==("__debug__":Str))=Md)(F:(y==("__classdict__":Str))=Md)(Fn:PA X (e::es) (lA X.K t))(he:Ll (e::es) X.env=(Md,eval e X.env)::Ll es X.env)(J:(OL pos (Ll es X.env)).any (·.1)=Md):PE X (.Call (.Name y p) (e::es) [] pos) (lE X.K (kb Φ i t)):=by
 intro pins s σ H Q I h;obtain⟨ρ,M,rs,rm,a,er,q⟩:=h;obtain⟨v,ev,rd⟩:=rs.2 i _ er
 cases VP.mp rd
 refine N1 (thn (oD U z B F pins s σ H (λv H'=>v=.ref a/\H'=H) I ⟨_,ev,rfl,rfl⟩) λu s1 L=>?_);obtain⟨v,H1,fv,r,z,hH⟩:=L;subst z hH
 cases r
 have h2:=bK (G.mono (5000+a)) mt σ H1 Q ⟨ρ,M,rs,rm,q⟩;have O:=Fn pos pins s1 σ H1 (λvs H1=>lR X.K (Φ (5000+a)) vs H1 Q) fv h2;rw[he]at O⊢;refine PySem.W.callWith_of (P:=Uh a) ?_ PySem.W.keeps_F (QG (thn O λus s2 L=>?_))
 ·show((Md || (OL pos (Ll es X.env)).any (·.1)) || Md)=Md
  rw[J];rfl
 ·obtain⟨vs,H2,I2,r,q⟩:=L;exact G.clo j a pins s2 σ H2 vs us Q I2 r q
noncomputable def iE(t:TA)(tl:TE):TA:=λσ H Q=>t σ H λvs H1=>tl σ H1 λv H2=>Q (vs++[v]) H2
theorem zr{tl:TE}(h:PE X e tl)(hs:Ll [e] X.env=(Md,eval e X.env)::Ll [] X.env):PA X [e] (iE (lA X.K aZ) tl):=PA.imp (dL h jo hs) λσ H Q g9=>(by obtain⟨ρ,M,rs,rm,q⟩:=g9;exact q [] H Ext.refl rm RDs.nil)
theorem wP{l:Expr}{ta:TEd}{tr:TAd}{tl:TE}(ma:ad ta)(mr:aQ tr)(j:PE X e (lE X.K ta))(z:PA X (es++[l]) (iE (lA X.K tr) tl))(hs:Ll (e::(es++[l])) X.env=(Md,eval e X.env)::Ll (es++[l]) X.env):PA X (e::es++[l]) (iE (lA X.K (av ta tr)) tl):=PA.imp (dL j z hs) λσ H Q h=>mj ma mr σ H _ h
theorem wQ{K:Frag}{H:Hp}{σ:St}{ρ:au}(rs:RS K H σ ρ):∀{cs:List Nat} {gs:List D},kY cs ρ=Z gs->∃gv,RDs K H gs gv/\gv.length=cs.length/\∀(i:Nat) (c:Nat),cs[i]?=Z c->∃v:V,gv[i]?=Z v/\σ[c]?=Z (Z v)
 |[],gs,h=>by
  have h:Z []=Z gs:=h
  cases h
  exact⟨[],RDs.nil,rfl,λi c e=>by simp at e⟩
 |c::cs,gs,h=>by
  unfold kY at h;rw[Ro]at h
  cases e1:(ρ[c]?).join with
  |none=>rw[e1]at h;cases h
  |some d=>
   rw[e1]at h
   cases e2:kY cs ρ with
   |none=>unfold kY at e2;simp[e2]at h
   |some gs'=>
    have j:=e2;unfold kY at e2;simp[e2]at h;subst h;obtain⟨gv,r,z,B⟩:=wQ rs j;have F:ρ[c]?=Z (Z d):=by
     cases q:ρ[c]? with
     |none=>rw[q]at e1;cases e1
     |some o=>rw[q]at e1;exact congrArg Z e1
    obtain⟨v,G,J⟩:=rs.2 c d F;refine⟨v::gv,RDs.cons J r,by simp[z],λi c' e=>?_⟩
    cases i with
    |zero=>simp at e;subst e;exact⟨v,by simp,G⟩
    |succ i=>simp at e;obtain⟨v',L,O⟩:=B i c' e;exact⟨v',by simpa using L,O⟩
noncomputable def tIs:List Nat->TA
 |[]=>xV
 |i::r=>tw (Cq i) (tIs r)
theorem qo{H:Hp}{vs:List V}:∀{js:List Nat} {Q:List V->Hp->Prop},(∀j∈js,j<vs.length)->Q (js.map λj=>vs.getD j .non) H->tIs js (vs.map Z) H Q
 |[],Q,_,q=>q
 |j::js,Q,h,q=>by have z:=h j LH;refine⟨vs.getD j .non,?_,qo (js:=js) (λi hi=>h i (Lq _ hi)) q⟩;rw[L8,tv z,KU,tv z];rfl
theorem n8{ns:List Str}(z:X.N=ns)(B:∀x∈ns,Vis X.env.scope x):∀{js:List Nat} {es:List Expr},ou ns js es=F2->PA X es (tIs js)/\es.all aH=F2/\∀j∈js,j<ns.length
 |[],[],_=>⟨jo,rfl,λ_ h=>by simp at h⟩
 |[],_::_,h=>by cases h
 |_::_,[],h=>by cases h
 |j::js,e::es,h=>by
  unfold ou at h;obtain⟨h1,h2⟩:=bH h;obtain⟨F,p2,G⟩:=n8 z B h2
  revert h1
  refineλh1=>eQ (P:=λe=>PA X (e::es) (tIs (j::js))/\(e::es).all aH=F2/\∀i∈j::js,i<ns.length) e h1 λx pos h=>?_;simp only[p0,decide_eq_true_eq,Mh]at h;obtain⟨⟨e1,e2⟩,J⟩:=h;refine⟨dL (oD (by rw[z];exact e1) (B x (Lj e1)) e2 J) F (ag rfl),by simp[aH,p2],λi hi=>?_⟩
  rcases KZ.mp hi with rfl|hi
  ·exact(L7.mp e1).1
  ·exact G i hi
noncomputable def DV(X:Cx)(P:N2)(pos:Pos)(q:Str)(params:P9)(body:Expr)(sc:Scope):TE:=λ_ H Q=>oS H P pos q/\∀a H',H a=Y->(∀b o,b≠P->H b=Z o->H' b=Z o)->oS H' P pos q->FnAt H' a q params body sc (az X.env.cells sc.names [])->Q (.ref a) H'
theorem DW{params:P9}{body:Expr}(L:wN C Φ k X P)(z:∀x∈sc.names,x.2=.free->(X.env.kindOf x.1=Z .cell))(j:∀env,defaultsOf params env=([],[])):
 PE X (.Lambda params body sc pos) (DV X P pos (C.nm++(".<locals>.":Str)++("<lambda>":Str)) params body sc):=by
 intro pins s σ H Q I h;obtain⟨c,B,hd⟩:=L.cd;refine yb I B hd L.bm (by rw[L.qu]) h.1 (λx hx e=>?_) (j _) λa H' s' I' na kp tg fa=>⟨.ref a,H',I',rfl,h.2 a H' na kp tg fa⟩
 obtain⟨c,e⟩:=I.ok.has x.1 (.inl (z x hx e));rw[e];rfl
theorem wR{N xs:List Str}(h:cT cs N=Z xs):∀(i:Nat) (x:Str),xs[i]?=Z x->∃c,cs[i]?=Z c/\N[c]?=Z x:=by
 induction cs generalizing xs with
 |nil=>cases h;intro i x e;simp at e
 |cons c cs ih=>
  unfold cT at h;rw[Ro]at h
  cases e1:N[c]? with
  |none=>rw[e1]at h;cases h
  |some y=>
   rw[e1]at h
   cases e2:cT cs N with
   |none=>unfold cT at e2;simp[e2]at h
   |some ys=>
    have j:=e2;unfold cT at e2;simp[e2]at h;subst h;intro i x e
    cases i with
    |zero=>simp at e;subst e;exact⟨c,by simp,e1⟩
    |succ i=>simp at e;obtain⟨c',z,B⟩:=ih j i x e;exact⟨c',by simpa using z,B⟩
theorem sn{N xs:List Str}(h:cT cs N=Z xs):xs.length=cs.length:=by
 induction cs generalizing xs with
 |nil=>cases h;rfl
 |cons c cs ih=>
  unfold cT at h;rw[Ro]at h
  cases e1:N[c]? with
  |none=>rw[e1]at h;cases h
  |some y=>
   rw[e1]at h
   cases e2:cT cs N with
   |none=>unfold cT at e2;simp[e2]at h
   |some ys=>have j:=e2;unfold cT at e2;simp[e2]at h;subst h;simp[ih j]
structure Am(C:Ctx)(j:Nat)(cs js:List Nat)(pos:Pos)(l:Expr) where
 a1:Arg
 a2:Arg
 b:Expr
 sc:Scope
 xs:List Str
 e:l=.Lambda ⟨[],[a1,a2],Y,[],[],Y,[]⟩ b sc pos
 cap:cT cs C.N=Z xs
 S:fV xs a1.arg a2.arg sc
 cel:∀x∈xs,C.sc.names.lookup x=Z .cell
 fre:∀y∈sc.names,y.2=.free->y.1∈xs
 bd:sj C j js (xs++[a1.arg,a2.arg]) sc b=F2
theorem zt{ps:P9}{a:Arg×Arg}(h:ki ps=Z a):ps=⟨[],[a.1,a.2],Y,[],[],Y,[]⟩:=by
 unfold ki at h
 split at h
 ·cases h;rfl
 ·cases h
theorem zu{j:Nat}{l:Expr}(h:Al C j cs js pos l=F2):Nonempty (Am C j cs js pos l):=by
 cases l with
 |Lambda ps b sc pos'=>
  obtain⟨h0,B⟩:=bH (show(decide (pos'=pos)&&os (ki ps) λa=>os (cT cs C.N) (ox C j cs js sc b a.1.arg a.2.arg))=F2 from h);have h0:=of_decide_eq_true h0;subst h0
  cases e1:ki ps with
  |none=>rw[e1]at B;cases B
  |some a=>
   rw[e1]at B
   cases e2:cT cs C.N with
   |none=>dsimp only[os]at B;rw[e2]at B;cases B
   |some xs=>
    dsimp only[os]at B;rw[e2]at B;have h:ox C j cs js sc b a.1.arg a.2.arg xs=F2:=B;unfold ox at h;simp only[p0,decide_eq_true_eq,Mh,beq_iff_eq,OH]at h;obtain⟨⟨⟨⟨⟨⟨⟨⟨h1,h2⟩,J⟩,L⟩,O⟩,U⟩,G⟩,F⟩,Fn⟩:=h;refine⟨⟨a.1,a.2,b,sc,xs,by rw[zt e1],e2,⟨h1,h2,J,by simpa using L,O,U,λx hx=>(G x hx).1,λx hx z=>?_,λx hx=>?_⟩,λx hx=>(G x hx).2,λy fv z=>?_,Fn⟩⟩
    ·have:=(F x hx).1;rw[z]at this;simp at this
    ·have:=(F _ (Me hx)).2;simpa using this
    ·have:=(F y fv).2;rw[z]at this;simpa using this
 |_=>cases h
theorem qp{K:Frag}{H:Hp}{ds:List D}{vs:List V}(r:RDs K H ds vs):∀{js:List Nat},(∀j∈js,j<vs.length)->RDs K H (js.map λi=>ds.getD i .non) (js.map λi=>vs.getD i .non)
 |[],_=>RDs.nil
 |j::js,h=>by
  have z:j<ds.length:=by rw[<-r.length];exact h j LH
  obtain⟨v,e,rd⟩:=r.get (tv z);refine RDs.cons ?_ (qp r λi hi=>h i (Lq _ hi));show RD K H (ds.getD j .non) (vs.getD j .non);rw[KU,KU,tv z,e];exact rd
theorem zw(G:Good C Φ k X){l:Expr}{t:TAd}{p lpos:Pos}{j:Nat}(mt:aQ t)(IP:C.lm=P+2)(hf:C.Γ[f]?=Z x)(hg:Gl X x)(IQ:(x==("__debug__":Str))=Md)(O:Am C j cs js lpos l)(ha:∀tl,PE X l tl->PA X (e::es++[l]) (iE (lA X.K t) tl))(he:Ll (e::(es++[l])) X.env=(Md,eval e X.env)::Ll (es++[l]) X.env)(IR:(OL pos (Ll (es++[l]) X.env)).any (·.1)=Md):
 PE X (.Call (.Name x p) (e::es++[l]) [] pos) (lE X.K (kc Φ f t j cs js P lpos (C.nm++(".<locals>.":Str)++("<lambda>":Str)))):=by
 intro pins s σ H Q I h;obtain⟨a1,a2,b,sc,xs,rfl,B,S,fv,IJ,IK⟩:=O;obtain⟨ρ,M,rs,rm,gs,IS,ht⟩:=h;obtain⟨gv,rg,gl,gg⟩:=wQ rs IS;have L:=G.lam P IP;obtain⟨fa,fd,ps,hm,hk,hb,F⟩:=L.spc f x hf;have kind:∀y:Str,X.env.kindOf y=C.sc.names.lookup y:=λy=>by show X.env.scope.names.lookup y=_;rw[G.sc]
 have hl:=DW (pos:=lpos) (params:=⟨[],[a1,a2],Y,[],[],Y,[]⟩) (body:=b) (sc:=sc) L (λy J z=>by rw[kind];exact fv _ (IJ y J z)) (λenv=>rfl)
 let q0:Str:=C.nm++(".<locals>.":Str)++("<lambda>":Str)
 let cl:=az X.env.cells sc.names []
 let Qa:List V->Hp->Prop:=λws H2=>∃(vs:List V) (ds:List D) (U:Mem) (a:N2),ws=vs++[.ref a]/\RM X.K U H2/\RDs X.K H2 ds vs/\RDs X.K H2 gs gv/\FnAt H2 a q0 ⟨[],[a1,a2],Y,[],[],Y,[]⟩ b sc cl /\
  Φ (1000+f) (ds++[.ref a,.int j,.tup gs,.tup (js.map λi:Nat=>.int i)]) U (KE' X.K U H2 Q)
 have hq:iE (lA X.K t) (DV X P lpos q0 ⟨[],[a1,a2],Y,[],[],Y,[]⟩ b sc) σ H Qa:=by
  refine⟨ρ,M,rs,rm,mt _ _ _ _ (λds U y vs H1 x1 Fn IT=>?_) ht⟩;refine⟨Fn P _ y.1,λa H' na kp tg fa=>?_⟩;have hP:∃ps,H1 P=Z (.tbl ps):=let⟨ps,e,_⟩:=Fn P _ y.1; ⟨ps,e⟩;obtain⟨pt,hP⟩:=hP;have st:Stab H1 H':=⟨λc ys e=>kp c _ (λz=>by rw[z,hP]at e;cases e) e,λc o u e=>kp c _ (λz=>by rw[z,hP]at e;cases e) e⟩
  have x2:Ext U H1 U H':=⟨λc o z e=>kp c o (λz2=>by rw[z2,y.1]at z;cases z) e,λ_ _ _ _=>rfl⟩
  have IG:RM X.K U H':=λc o e=>by
   by_cases z:c=P
   ·subst z;rw[y.1]at e;cases e;exact tg
   ·exact(Fn c o e).mono st λho e2=>kp c ho z e2
  exact⟨vs,ds,U,a,rfl,IG,IT.mono st,(rg.mono (x1.stab rm)).mono st,fa,(G.mono _) _ _ _ _ (λd M' kk=>kk.ext (x1.trans x2)) (y.2 a (Fn.out na))⟩
 refine N1 (kF I hg hm ?_ IQ);refine TV (h₀:=X.base) I.ok.mod.kin hk (thn (ha _ hl pos pins s σ H Qa I hq) λus s2 g9=>?_) he IR;obtain⟨ws,H2,I2,r,vs,ds,U,a,rfl,IG,rd,IU,IH,q2⟩:=g9;refine⟨I2.kIn,?_⟩;have C1:ie X.prog X.w X.K X.mg X.base (k-1) (frs X.stack) a (lSp X.K (uD Φ j gs js)) H2 s2.heap:=by
  by_cases hk2:∃k0,k=k0+2
  case neg=>
   refine bE (P:=λ_=>ie X.prog X.w X.K X.mg X.base (k-1) (frs X.stack) a (lSp X.K (uD Φ j gs js)) H2 s2.heap) b IK λg es p pos h=>?_;simp only[p0,decide_eq_true_eq,Mh]at h;refine⟨(by obtain⟨pm,c',ctv,oc,vs,t,e1,_⟩:=IH;exact⟨_,_,e1,rfl⟩),?_⟩
   intro A outer s1 H1 u1 u2 v1 v2 Q1 un hr e0 r1 r2 II;obtain⟨IV,M2,IM,IN,_,q3⟩:=II;exact absurd q3 ((L.big.resolve_left hk2) j g h.1.1.1.1 _ _ _)
  obtain⟨k0,rfl⟩:=hk2;refine yc (k:=k0) (gs:=gv) I2 IH S (λy J=>by rw[G.sc];exact fv y J) (λi y e=>?_) (by rw[gl,sn B]) (λfd u1 u2 z z2 z3=>?_) λA outer s1 H1 v1 v2 Q1 cd un II IW=>?_
  ·obtain⟨c,e1,e2⟩:=wR B i y e;obtain⟨v,e3,e4⟩:=gg i c e1;exact⟨c,by rw[G.N];exact e2,λv' e5=>by rw[e3]at e5;cases e5;exact e4⟩
  ·exact ET S.ne z z2 z3
  obtain⟨IV,M2,IM,IN,_,q3⟩:=II;clear hl hq Qa IH;refine bE (P:=λb=>∃t,PE (cxL CX0 X.prog X.w X.K X.mg X.base (xs++[a1.arg,a2.arg]) q0 sc a cd cl A outer s1 H1 E0) b t/\t ((gv++[v1,v2]).map Z) H1 Q1) b IK λg es p pos h=>?_;simp only[p0,decide_eq_true_eq,Mh]at h;obtain⟨⟨⟨⟨h1,h2⟩,h3⟩,h4⟩,h5⟩:=h;obtain⟨fg,fdg,psg,IX,IY,IZ,Fg⟩:=L.low j g h1
  cases es with
  |nil=>cases h4
  |cons e0 J1=>
   obtain⟨p1,p2,p3⟩:=n8 (X:=cxL CX0 X.prog X.w X.K X.mg X.base (xs++[a1.arg,a2.arg]) q0 sc a cd cl A outer s1 H1 E0) (ns:=xs++[a1.arg,a2.arg]) rfl (λy J=>by
    rcases Ld.mp J with J|J
    ·exact .inr (.inr (S.fr y J))
    ·simp only[KZ,LK,or_false]at J
     rcases J with rfl|rfl
     ·exact .inl S.l1
     ·exact .inl S.l2) h5
   simp only[NM,p0]at p2;refine⟨_,rB (X:=cxL CX0 X.prog X.w X.K X.mg X.base (xs++[a1.arg,a2.arg]) q0 sc a cd cl A outer s1 H1 E0) Fg IW (by show sc.names.lookup g=_;simpa[glB]using h2) IX IY IZ .nil tF p1 h3 (ag p2.1) (cY p2.2),?_⟩
   have hlen:(gv++[v1,v2]).length=(xs++[a1.arg,a2.arg]).length:=by simp[gl,sn B]
   refine qo (λi hi=>by rw[hlen];exact p3 i hi) ⟨_,M2,IM,?_,q3⟩
   rw[MJ];exact qp ((IU.mono ⟨un.tups,un.frzs⟩).append IN) λi hi=>by rw[hlen];exact p3 i hi
 have r2:Vals (vs++[.ref a]) (us++[]):=by rw[MJ];exact r
 have IO:spC X.prog X.w X.K X.mg X.base k Φ f X.stack s2 (vs++[.ref a]) H2 Q E0:=⟨ds,a,j,gs,js,U,IG,rd.append (RDs.cons (VP.mpr rfl) RDs.nil),C1,q2⟩;have J0:(us++[]).length=ps.length:=by rw[<-r2.length];exact F.len _ _ _ _ _ _ IO
 refine TU (Oo (F.run X.A X.stack s2 H2 ⟨us,[]⟩ (us++[]) (vs++[.ref a]) Q E0 G.room I2.env0 (hb s2 us I2.kIn J0) r2 IO) λr s' hq=>?_)
 cases r with
 |error e=>exact hq.elim
 |ok fl=>
  cases fl with
  |ret u=>exact I2.after hq
  |next=>exact False.elim hq
  |brk=>exact False.elim hq
  |cont=>exact False.elim hq
end
end
variable{p:N2}{tb:TCd}
section
section
variable{Φ:Phi}{k:Nat}
theorem dR{X:Cx}(G:Good C Φ k X){F:Sem Fin->Sem Fin}{ifs:List Expr}{ts:List TTd}(mb:cc tb)(mt:∀t∈ts,aK t)(j:PB X F (lC X.K p tb))(z:MK (λc t=>PT X c t) ifs (ts.map (lT X.K))):
 PB X (λk=>bv ifs X.env>>=λok=>if ok=F2 then F k else k) (lC X.K p (br ts tb)):=
 PB.imp (ya G.hx j z) (jK mb mt)
theorem hW{m:MC}{Cs:Ctx}{g2:Ms}{gs:List Ms}{elt:Expr}(h:okC m Cs C (g2::gs) elt=F2):g2.is_async=0:=by
 obtain⟨t,i,f,a⟩:=g2
 cases m with
 |last src g ifs m=>
  cases gs with
  |nil=>simp only[okC,p0,decide_eq_true_eq]at h;exact h.1.1.1.1
  |cons _ _=>simp[okC]at h
 |more src g ifs rest=>
  cases gs with
  |nil=>simp[okC]at h
  |cons _ _=>simp only[okC,p0,decide_eq_true_eq]at h;exact h.1.1.1.1
theorem zx{X:Cx}(G:Good C Φ k X):∀T∈["bool","int","str","tuple","list","dict"],X.mg (Lw T)=Y/\OJ (Lw T)=Z (.type T)/\Lw T≠"__name__"/\(Lw T==("__debug__":Str))=Md:=by
 intro T j;simp only[KZ,LK,or_false]at j
 rcases j with rfl|rfl|rfl|rfl|rfl|rfl
 all_goals exact⟨G.mgB _ (by decide),by decide +kernel,by decide,by decide⟩
mutual
theorem sE:∀(m:ME) {C:Ctx} {X:Cx} (G:Good C Φ k X) (e:Expr),okE m C e=F2->PE X e (lE X.K (wE Φ m))
 |.var i,C,X,G,e,h=>by refine eQ e h λx _ h=>?_;simp only[p0,Mh,decide_eq_true_eq]at h;exact Dc (by rw[G.N];exact h.1.1.1) (G.vis h.1.1.2) h.1.2 h.2
 |.int i,C,X,G,e,h=>by refine gY e h λc _ _ h=>?_;rw[of_decide_eq_true h];exact Dd
 |.bl i,C,X,G,e,h=>by refine gY e h λc _ _ h=>?_;rw[of_decide_eq_true h];exact EZ
 |.non,C,X,G,e,h=>by refine gY e h λc _ _ h=>?_;rw[of_decide_eq_true h];exact De
 |.bin op a b,C,X,G,e,h=>by refine DK e h λl o r _ h=>?_;simp only[p0,decide_eq_true_eq]at h;rw[h.1.1];exact F4 (DT G op) (qi op) (mE G.mono a) (mE G.mono b) (sE a G _ h.1.2) (sE b G _ h.2)
 |.neg a,C,X,G,e,h=>by
  refine jc e h λo x _ h=>?_;replace h:=bH h;obtain⟨ho,h⟩:=h
  cases of_decide_eq_true ho
  exact F5 yu pC (mE G.mono a) (sE a G _ h)
 |.cmp op a b,C,X,G,e,h=>by refine ql e h λl os rs pos h=>?_;refine cS os h λo h=>?_;refine cS rs h λr h=>?_;simp only[p0,decide_eq_true_eq]at h;obtain⟨⟨⟨ho,fv⟩,hb⟩,hm⟩:=h;rw[Mh]at hm;subst ho;exact Df (sk G op) (gn op) (mE G.mono a) (mE G.mono b) (sE a G _ fv) (sE b G _ hb) hm
 |.and es,C,X,G,e,h=>by
  refine iD e h λo xs _ h=>?_;replace h:=bH h;obtain⟨ho,h⟩:=h;obtain⟨ho,L⟩:=bH ho
  cases of_decide_eq_true ho
  exact sAnds es G _ _ h (by intro z;rw[z]at L;cases L)
 |.or es,C,X,G,e,h=>by
  refine iD e h λo xs _ h=>?_;replace h:=bH h;obtain⟨ho,h⟩:=h;obtain⟨ho,L⟩:=bH ho
  cases of_decide_eq_true ho
  exact sOrs es G _ _ h (by intro z;rw[z]at L;cases L)
 |.not a,C,X,G,e,h=>by
  refine jc e h λo x _ h=>?_;replace h:=bH h;obtain⟨ho,h⟩:=h
  cases of_decide_eq_true ho
  exact Dq (mE G.mono a) (sE a G _ h)
 |.ite c a b,C,X,G,e,h=>by refine DL e h λt x y _ h=>?_;simp only[p0]at h;exact Fb (mT G.mono c) (mE G.mono a) (mE G.mono b) (sT c G _ h.1.1) (sE a G _ h.1.2) (sE b G _ h.2)
 |.tup es,C,X,G,e,h=>by refine ed e h λxs _ _ h=>?_;exact Dh (mA G.mono es) (sA es G _ h)
 |.lst es,C,X,G,e,h=>by refine Fl e h λxs _ h=>?_;exact Di (mA G.mono es) (sA es G _ h)
 |.ix a b,C,X,G,e,h=>by refine dG e h λx y _ h=>?_;simp only[p0]at h;exact F6 (Gk (by have:=G.units;lia)) rM (mE G.mono a) (mE G.mono b) (sE a G _ h.1.2) (sE b G _ h.2) (zo h.1.1)
 |.sl a lo hi,C,X,G,e,h=>by refine jSl e h λx l u s p pos h=>?_;refine jon s h fun  h=>?_;simp only[p0]at h;exact Fc (mE G.mono a) (mO G.mono lo) (mO G.mono hi) (sE a G _ h.1.1) (sO lo G _ h.1.2) (sO hi G _ h.2)
 |.call f es,C,X,G,e,h=>by
  refine bE e h λx xs p pos h=>?_;simp only[p0,decide_eq_true_eq,Mh]at h;have hA:=sA es G _ h.2;have J:=dq h.2
  cases xs with
  |nil=>
   cases es with
   |nil=>exact zp G h.1.1.1 (G.gl h.1.1.2) h.1.2
   |cons _ _=>simp[okEs]at h
  |cons y ys=>simp only[NM,p0]at J;exact BC G (mA G.mono es) h.1.1.1 (G.gl h.1.1.2) h.1.2 hA (ag J.1) (cY J.2)
 |.callC i es,C,X,G,e,h=>by
  refine bE e h λx xs p pos h=>?_;simp only[p0,decide_eq_true_eq,Mh]at h;obtain⟨⟨⟨⟨⟨⟨h0,h1⟩,h2⟩,h3⟩,h4⟩,h6⟩,h7⟩:=h;have hA:=sA es G _ h7;have J:=dq h7
  cases xs with
  |nil=>cases h6
  |cons y ys=>simp only[NM,p0]at J;exact zq G h0 (mA G.mono es) (by rw[G.N];exact h1) (G.vis h2) h3 h4 hA (ag J.1) (cY J.2)
 |.callL f es j cs js P lpos q,C,X,G,e,h=>by
  refine bE e h λx xs p pos h=>?_;simp only[p0,decide_eq_true_eq,Mh]at h;obtain⟨⟨⟨⟨⟨⟨⟨h0,h1⟩,h2⟩,h3⟩,h4⟩,h5⟩,h6⟩,h7⟩:=h;subst h4
  cases e5:xs.getLast? with
  |none=>rw[e5]at h5;cases h5
  |some l=>
   rw[e5]at h5;obtain⟨O⟩:=zu (C:=C) h5;have J:=dq h7;have hA:=λtl hl=>sAL es G xs.dropLast h7 l tl hl (by rw[O.e];rfl)
   obtain⟨ys,rfl⟩:∃ys,xs=ys++[l]:=⟨xs.dropLast,(by
    have L:xs≠[]:=λz=>by rw[z]at e5;cases e5
    rw[List.getLast?_eq_getLast L]at e5;have:=Ng L;rw[MW.inj e5]at this;exact this.symm)⟩
   rw[List.dropLast_concat]at h6 h7 J hA
   cases ys with
   |nil=>cases h6
   |cons y ys=>simp only[NM,p0]at J;exact zw G (mA G.mono es) h0 h1 (G.gl h2) h3 O hA (ag J.1) (cY (by rw[List.all_append,J.2,O.e];rfl))
 |.blt f es,C,X,G,e,h=>by
  refine bE e h λx xs p pos h=>?_;simp only[p0,decide_eq_true_eq,Mh]at h;have hA:=sA es G _ h.2;have J:=dq h.2;obtain⟨⟨⟨rfl,hg⟩,L⟩,_⟩:=h
  cases xs with
  |nil=>simp at L
  |cons y ys=>simp only[NM,p0]at J;exact DU G (mA G.mono es) (G.gl hg) hA (ag J.1) (cY J.2)
 |.dnew t,C,X,G,e,h=>by refine Fm e h λks vs _ h=>?_;refine gZ ks h fun  h=>?_;refine gZ vs h fun  h=>?_;exact Bl
 |.sortI a,C,X,G,e,h=>by refine bE e h λx xs p pos h=>?_;refine cS xs h λw h=>?_;refine ot w h λy n ys ap cp h=>?_;refine gZ ys h fun  h=>?_;simp only[p0,decide_eq_true_eq]at h;obtain⟨⟨⟨⟨⟨rfl,hg⟩,rfl⟩,Fn⟩,hl⟩,fv⟩:=h;exact zb (by have:=G.units;lia) (mE G.mono a) G.calm (sE a G _ fv) (G.gl hg) (G.mgB _ (by decide)) (gw Fn) hl
 |.dget o k' x,C,X,G,e,h=>by
  refine ot e h λy n xs ap cp h=>?_;refine hJ xs h λe1 e2 h=>?_;simp only[p0,decide_eq_true_eq]at h;obtain⟨⟨⟨⟨⟨⟨⟨rfl,Fn⟩,hl⟩,IH⟩,U⟩,ho⟩,hk⟩,hx⟩:=h;have st:Ll [e1,e2] X.env=[(Md,eval e1 X.env),(Md,eval e2 X.env)]:=by rw[ag IH,ag U];rfl
  refine Bw (by have:=G.units;lia) (mE G.mono o) (mE G.mono k') (mE G.mono x) (sE o G _ ho) (sE k' G _ hk) (sE x G _ hx) ⟨gw Fn,?_,hl,?_⟩
  ·rw[st];rfl
  ·rw[st];rfl
 |.lrng2 a b,C,X,G,e,h=>by refine bE e h λx xs p pos h=>?_;refine cS xs h λw h=>?_;refine bE w h λz ys p2 IJ h=>?_;refine hJ ys h λy u h=>?_;simp only[p0,decide_eq_true_eq]at h;obtain⟨⟨⟨⟨⟨⟨⟨rfl,hg⟩,rfl⟩,IG⟩,hs⟩,U⟩,fv⟩,hb⟩:=h;exact yG (al (mE G.mono a) (al (mE G.mono b) ar)) G.calm (bf (mE G.mono a) (al (mE G.mono b) ar) (sE a G _ fv) (bf (mE G.mono b) ar (sE b G _ hb) cN (ag U)) (ag hs)) (G.gl hg) (G.mgB _ (by decide)) (G.gl IG) (G.mgB _ (by decide)) (by rw[ag hs,ag U];rfl) (ag U)
 |.isin a T,C,X,G,e,h=>by refine bE e h λx xs p pos h=>?_;refine hJ xs h λy w h=>?_;refine eQ w h λz p2 h=>?_;simp only[p0,decide_eq_true_eq]at h;obtain⟨⟨⟨⟨⟨⟨rfl,hg⟩,IG⟩,hz⟩,hT⟩,hs⟩,fv⟩:=h;obtain⟨n1,n2,n3,n4⟩:=zx G T hT;subst hz;exact Bd hT (mE G.mono a) (sE a G _ fv) (G.gl hg) (G.mgB _ (by decide)) (G.gl IG) n1 n2 n3 n4 (ag hs) rfl
 |.meth m o a,C,X,G,e,h=>by
  refine ot e h λx n xs ap cp h=>?_;refine cS xs h λy h=>?_;simp only[p0,decide_eq_true_eq]at h;obtain⟨⟨⟨⟨⟨hn,Fn⟩,hl⟩,hs⟩,ho⟩,fv⟩:=h;subst hn;have pa:PA X [y] (lA X.K (av (wE Φ a) aZ)):=bf (mE G.mono a) ar (sE a G _ fv) cN (ag hs);have few:((OL cp (Ll [y] X.env)).all (λx=>!x.1)&&(Vt cp (T2 [] X.env)).all (λx=>x.1.isSome)&&decide (([y]:List Expr).length+([]:List QX).length+(if([]:List QX).isEmpty then 0 else 1)<30))=F2:=by rw[ag hs];rfl
  cases m with
  |append=>exact PE.imp (A5 Sa PySem.F.slot_list_append PySem.F.type_list_append lU (sE o G _ ho) pa (gw Fn) few hl (ag hs) rfl) (rO iQ (mE G.mono o) (al (mE G.mono a) ar) yB)
 |.ins o i a,C,X,G,e,h=>by
  refine ot e h λx n xs ap cp h=>?_;refine hJ xs h λy z h=>?_;simp only[p0,decide_eq_true_eq]at h;obtain⟨⟨⟨⟨⟨⟨⟨hn,Fn⟩,hl⟩,hs⟩,U⟩,ho⟩,hi⟩,fv⟩:=h;subst hn;have pa:PA X [y,z] (lA X.K (av (wE Φ i) (av (wE Φ a) aZ))):=bf (mE G.mono i) (al (mE G.mono a) ar) (sE i G _ hi) (bf (mE G.mono a) ar (sE a G _ fv) cN (ag U)) (ag hs);have few:((OL cp (Ll [y,z] X.env)).all (λx=>!x.1)&&(Vt cp (T2 [] X.env)).all (λx=>x.1.isSome)&&decide (([y,z]:List Expr).length+([]:List QX).length+(if([]:List QX).isEmpty then 0 else 1)<30))=F2:=by rw[ag hs,ag U];rfl
  exact PE.imp (A5 Sa RQ PySem.F.type_list_insert wx (sE o G _ ho) pa (gw Fn) few hl (ag hs) (by rw[ag U];rfl)) (rO iU (mE G.mono o) (al (mE G.mono i) (al (mE G.mono a) ar)) ze)
 |.comp fr N' c,C,X,G,e,h=>by
  refine wH e h λelt gens sc pos h=>?_;simp only[p0]at h;have B:bn sc X.env.scope X.N N' fr:=by rw[G.sc,G.N];exact kj h.1
  have B':bn sc C.sc C.N N' fr:=kj h.1
  cases c with
  |last src g ifs m=>
   have h2:=h.2;simp only[okC]at h2
   split at h2
   ·rename_i t it fs a;simp only[p0,decide_eq_true_eq]at h2;obtain⟨⟨⟨⟨rfl,hi⟩,hg⟩,ht⟩,he⟩:=h2;refine PE.imp (iP G.calm G.hx B (λg' z=>by simp at z) (sI src G _ t hi).1 (λs H fp=>sG (G.blk B' s H fp) g t hg) (tb:=λp=>lC X.K p (br (wTl Φ ifs) (eJ (wE Φ m)))) (λs H fp p=>?_) (sI src G _ t hi).2) (eK (mI G.mono src) (aV (bM (mE G.mono m)) (mTl G.mono ifs)))
    have G':=G.blk B' s H fp;exact dR (p:=p) G' (bM (mE G.mono m)) (mTl G.mono ifs) (PB.imp (kK G'.hx (sE m G' elt he) rfl) (gO (mE G.mono m))) (sTl ifs G' fs ht)
   ·cases h2
  |more src g ifs rest=>
   have h2:=h.2;simp only[okC]at h2
   split at h2
   ·rename_i t it fs a g2 gs;simp only[p0,decide_eq_true_eq]at h2;obtain⟨⟨⟨⟨rfl,hi⟩,hg⟩,ht⟩,he⟩:=h2;have II:∀g',(g2::gs)[0]?=Z g'->g'.is_async=0:=fun g' z=>by
     have z':g2=g':=by simpa using z
     subst z';exact hW he
    refine PE.imp (iP G.calm G.hx B II (sI src G _ t hi).1 (λs H fp=>sG (G.blk B' s H fp) g t hg) (tb:=λp=>lC X.K p (br (wTl Φ ifs) (wCl Φ rest))) (λs H fp p=>?_) (sI src G _ t hi).2) (eK (mI G.mono src) (aV (mCl G.mono rest) (mTl G.mono ifs)));have G':=G.blk B' s H fp;exact dR (p:=p) G' (mCl G.mono rest) (mTl G.mono ifs) (sCl rest G' elt (⟨t,it,fs,0⟩::g2::gs) sc pos 0 (.inl rfl) p he) (sTl ifs G' fs ht)
   ·cases h2
theorem sA:∀(m:MEs) {C:Ctx} {X:Cx} (G:Good C Φ k X) (es:List Expr),okEs m C es=F2->PA X es (lA X.K (wA Φ m))
 |.nil,C,X,G,es,h=>by simp[okEs]at h;subst h;exact cN
 |.cons m r,C,X,G,[],h=>by simp[okEs]at h
 |.cons m r,C,X,G,e::es,h=>by simp only[okEs,p0]at h;exact bf (mE G.mono m) (mA G.mono r) (sE m G e h.1.2) (sA r G es h.2) (ag h.1.1)
theorem sAL:∀(m:MEs) {C:Ctx} {X:Cx} (G:Good C Φ k X) (es:List Expr),okEs m C es=F2->∀(l:Expr) (tl:TE),PE X l tl->aH l=F2->PA X (es++[l]) (iE (lA X.K (wA Φ m)) tl)
 |.nil,C,X,G,es,h=>by simp[okEs]at h;subst h;exactλl tl j z=>zr j (ag z)
 |.cons m r,C,X,G,[],h=>by simp[okEs]at h
 |.cons m r,C,X,G,e::es,h=>by simp only[okEs,p0]at h;exactλl tl j z=>wP (mE G.mono m) (mA G.mono r) (sE m G e h.1.2) (sAL r G es h.2 l tl j z) (ag h.1.1)
theorem sAnds:∀(m:MEs) {C:Ctx} {X:Cx} (G:Good C Φ k X) (es:List Expr) (pos:Pos),okEs m C es=F2->es≠[]->PE X (.BoolOp .And es pos) (lE X.K (wAnds Φ m))
 |.nil,C,X,G,es,pos,h,j=>by simp[okEs]at h;exact absurd h j
 |.cons m r,C,X,G,[],pos,h,j=>absurd rfl j
 |.cons m .nil,C,X,G,e::es,pos,h,_=>by simp only[okEs,p0]at h;obtain⟨h1,h2⟩:=h;simp at h2;subst h2;exact vK (sE m G e h1.2)
 |.cons m (.cons m2 r),C,X,G,e::es,pos,h,_=>by
  simp only[okEs,p0]at h;obtain⟨h1,h2⟩:=h
  cases es with
  |nil=>simp at h2
  |cons f fs=>exact Dp (mE G.mono m) (mAnds G.mono _) (sE m G e h1.2) (sAnds (.cons m2 r) G (f::fs) pos (by simpa only[okEs,p0]using h2) (by simp))
theorem sOrs:∀(m:MEs) {C:Ctx} {X:Cx} (G:Good C Φ k X) (es:List Expr) (pos:Pos),okEs m C es=F2->es≠[]->PE X (.BoolOp .Or es pos) (lE X.K (wOrs Φ m))
 |.nil,C,X,G,es,pos,h,j=>by simp[okEs]at h;exact absurd h j
 |.cons m r,C,X,G,[],pos,h,j=>absurd rfl j
 |.cons m .nil,C,X,G,e::es,pos,h,_=>by simp only[okEs,p0]at h;obtain⟨h1,h2⟩:=h;simp at h2;subst h2;exact vK (sE m G e h1.2)
 |.cons m (.cons m2 r),C,X,G,e::es,pos,h,_=>by
  simp only[okEs,p0]at h;obtain⟨h1,h2⟩:=h
  cases es with
  |nil=>simp at h2
  |cons f fs=>exact Fa (mE G.mono m) (mOrs G.mono _) (sE m G e h1.2) (sOrs (.cons m2 r) G (f::fs) pos (by simpa only[okEs,p0]using h2) (by simp))
theorem sO:∀(m:MO) {C:Ctx} {X:Cx} (G:Good C Φ k X) (e:Option Expr),okO m C e=F2->PO X e (lO X.K (wO Φ m))
 |.none,C,X,G,e,h=>by simp[okO]at h;subst h;exact B8
 |.some m,C,X,G,Y,h=>by simp[okO]at h
 |.some m,C,X,G,Z e,h=>by simp only[okO]at h;exact B9 (mE G.mono m) (sE m G e h)
theorem sT:∀(m:MT) {C:Ctx} {X:Cx} (G:Good C Φ k X) (e:Expr),okT m C e=F2->PT X e (lT X.K (wT Φ m))
 |.tru m,C,X,G,e,h=>by simp only[okT,p0]at h;exact Dl (mE G.mono m) (sE m G e h.2) (uC h.1)
 |.cmp op a b,C,X,G,e,h=>by refine ql e h λl os rs pos h=>?_;refine cS os h λo h=>?_;refine cS rs h λr h=>?_;simp only[p0,decide_eq_true_eq]at h;obtain⟨⟨⟨ho,B⟩,F⟩,hm⟩:=h;rw[Mh]at hm;subst ho;exact Dg (sk G op) (gn op) (mE G.mono a) (mE G.mono b) (sE a G _ B) (sE b G _ F) hm
 |.and ts,C,X,G,e,h=>by
  refine iD e h λo xs _ h=>?_;replace h:=bH h;obtain⟨ho,h⟩:=h;obtain⟨ho,j⟩:=bH ho
  cases of_decide_eq_true ho
  exact(sAndTs ts G _ _ h (by intro z;rw[z]at j;cases j)).pt
 |.or ts,C,X,G,e,h=>by
  refine iD e h λo xs _ h=>?_;replace h:=bH h;obtain⟨ho,h⟩:=h;obtain⟨ho,j⟩:=bH ho
  cases of_decide_eq_true ho
  exact(sOrTs ts G _ _ h (by intro z;rw[z]at j;cases j)).pt
 |.not t,C,X,G,e,h=>by
  refine jc e h λo x _ h=>?_;replace h:=bH h;obtain⟨ho,h⟩:=h
  cases of_decide_eq_true ho
  exact Dm (mT G.mono t) (sT t G _ h)
theorem sAndTs:∀(m:MTs) {C:Ctx} {X:Cx} (G:Good C Φ k X) (es:List Expr) (pos:Pos),okTs m C es=F2->es≠[]->PW X (.BoolOp .And es pos) (lT X.K (wAndTs Φ m))
 |.nil,C,X,G,es,pos,h,j=>by simp[okTs]at h;exact absurd h j
 |.cons m r,C,X,G,[],pos,h,j=>absurd rfl j
 |.cons m .nil,C,X,G,e::es,pos,h,_=>by simp only[okTs,p0]at h;obtain⟨h1,h2⟩:=h;simp at h2;subst h2;exact B6 (sT m G e h1)
 |.cons m (.cons m2 r),C,X,G,e::es,pos,h,_=>by
  simp only[okTs,p0]at h;obtain⟨h1,h2⟩:=h
  cases es with
  |nil=>simp at h2
  |cons f fs=>exact Do (mT G.mono m) (mAndTs G.mono _) (sT m G e h1) (sAndTs (.cons m2 r) G (f::fs) pos (by simpa only[okTs,p0]using h2) (by simp))
theorem sOrTs:∀(m:MTs) {C:Ctx} {X:Cx} (G:Good C Φ k X) (es:List Expr) (pos:Pos),okTs m C es=F2->es≠[]->PW X (.BoolOp .Or es pos) (lT X.K (wOrTs Φ m))
 |.nil,C,X,G,es,pos,h,j=>by simp[okTs]at h;exact absurd h j
 |.cons m r,C,X,G,[],pos,h,j=>absurd rfl j
 |.cons m .nil,C,X,G,e::es,pos,h,_=>by simp only[okTs,p0]at h;obtain⟨h1,h2⟩:=h;simp at h2;subst h2;exact Dn (sT m G e h1)
 |.cons m (.cons m2 r),C,X,G,e::es,pos,h,_=>by
  simp only[okTs,p0]at h;obtain⟨h1,h2⟩:=h
  cases es with
  |nil=>simp at h2
  |cons f fs=>exact F9 (mT G.mono m) (mOrTs G.mono _) (sT m G e h1) (sOrTs (.cons m2 r) G (f::fs) pos (by simpa only[okTs,p0]using h2) (by simp))
theorem sTl:∀(m:MTs) {C:Ctx} {X:Cx} (G:Good C Φ k X) (es:List Expr),okTs m C es=F2->MK (λc t=>PT X c t) es ((wTl Φ m).map (lT X.K))
 |.nil,C,X,G,es,h=>by simp[okTs]at h;subst h;exact .nil
 |.cons m r,C,X,G,[],h=>by simp[okTs]at h
 |.cons m r,C,X,G,e::es,h=>by simp only[okTs,p0]at h;exact .cons (sT m G e h.1) (sTl r G es h.2)
theorem sI:∀(m:MI) {C:Ctx} {X:Cx} (G:Good C Φ k X) (e tg:Expr),okI m C tg e=F2->PI X tg e (lI X.K (wI Φ m))/\∀x,NP e X.env x=pure x
 |.seq m,C,X,G,e,tg,h=>by simp only[okI,p0]at h;exact⟨Dv (mE G.mono m) (sE m G e h.2),wL h.1⟩
 |.rng1 a,C,X,G,e,tg,h=>by refine bE e h λx xs p pos h=>?_;refine cS xs h λy h=>?_;simp only[p0,decide_eq_true_eq]at h;obtain⟨⟨⟨rfl,B⟩,hs⟩,F⟩:=h;exact⟨Bg (al (mE G.mono a) ar) (G.gl B) (G.mgB _ (by decide)) (bf (mE G.mono a) ar (sE a G _ F) cN (ag hs)) (ag hs),λx=>rfl⟩
 |.rng2 a b,C,X,G,e,tg,h=>by refine bE e h λx xs p pos h=>?_;refine hJ xs h λy z h=>?_;simp only[p0,decide_eq_true_eq]at h;obtain⟨⟨⟨⟨⟨rfl,B⟩,hs⟩,j⟩,F⟩,J⟩:=h;exact⟨Bh (al (mE G.mono a) (al (mE G.mono b) ar)) (G.gl B) (G.mgB _ (by decide)) (bf (mE G.mono a) (al (mE G.mono b) ar) (sE a G _ F) (bf (mE G.mono b) ar (sE b G _ J) cN (ag j)) (ag hs)) (by rw[ag hs,ag j];rfl) (ag j),λx=>rfl⟩
 |.enum a,C,X,G,e,tg,h=>by refine bE e h λx xs p pos h=>?_;refine cS xs h λy h=>?_;refine ed tg h λts kt pt h=>?_;simp only[p0,decide_eq_true_eq]at h;obtain⟨⟨⟨rfl,B⟩,hs⟩,F⟩:=h;exact⟨Bi (mE G.mono a) (G.gl B) (G.mgB _ (by decide)) (bf (mE G.mono a) ar (sE a G _ F) cN (ag hs)) (ag hs),λx=>rfl⟩
 |.zip a b,C,X,G,e,tg,h=>by refine bE e h λx xs p pos h=>?_;refine hJ xs h λy z h=>?_;refine ed tg h λts kt pt h=>?_;simp only[p0,decide_eq_true_eq]at h;obtain⟨⟨⟨⟨⟨rfl,B⟩,hs⟩,j⟩,F⟩,J⟩:=h;exact⟨Dx (mE G.mono a) (mE G.mono b) (G.gl B) (G.mgB _ (by decide)) (bf (mE G.mono a) (al (mE G.mono b) ar) (sE a G _ F) (bf (mE G.mono b) ar (sE b G _ J) cN (ag j)) (ag hs)) (by rw[ag hs,ag j];rfl) (ag j),λx=>rfl⟩
theorem sCl:∀(m:MC) {C:Ctx} {X:Cx} (G:Good C Φ k X) (elt:Expr) (gens:List Ms) (sc:Scope) (pos:Pos) (d:Nat) (_:d=0∨d=d) (p:N2),okC m C C (gens.drop (d+1)) elt=F2->
 PB X (bj elt gens sc pos d (.ref p) X.env) (lC X.K p (wCl Φ m))
 |.last src g ifs m,C,X,G,elt,gens,sc,pos,d,_,p,h=>by
  simp only[okC]at h
  split at h
  ·rename_i t it fs a hd;simp only[p0,decide_eq_true_eq]at h;obtain⟨⟨⟨⟨rfl,hi⟩,j⟩,B⟩,he⟩:=h;have e1:gens[d+1]?=Z ⟨t,it,fs,0⟩:=by
    have z:(gens.drop (d+1))[0]?=Z ⟨t,it,fs,0⟩:=by rw[hd];rfl
    rw[OV]at z;simpa using z
   have e2:gens[d+1+1]?=Y:=by
    have z:(gens.drop (d+1))[1]?=Y:=by rw[hd];rfl
    rw[OV]at z;simpa using z
   refine PB.imp (m8 G.hx G.calm e1 (λg' z=>by rw[e2]at z;cases z) (sI src G _ t hi).1 (sG G g t j) (dR (p:=p) G (bM (mE G.mono m)) (mTl G.mono ifs) (PB.imp (kK G.hx (sE m G elt he) e2) (gO (mE G.mono m))) (sTl ifs G fs B)) (sI src G _ t hi).2) (iS (mI G.mono src) (aV (bM (mE G.mono m)) (mTl G.mono ifs)))
  ·cases h
 |.more src g ifs rest,C,X,G,elt,gens,sc,pos,d,_,p,h=>by
  simp only[okC]at h
  split at h
  ·rename_i t it fs a g2 gs hd;simp only[p0,decide_eq_true_eq]at h;obtain⟨⟨⟨⟨rfl,hi⟩,j⟩,B⟩,he⟩:=h;have e1:gens[d+1]?=Z ⟨t,it,fs,0⟩:=by
    have z:(gens.drop (d+1))[0]?=Z ⟨t,it,fs,0⟩:=by rw[hd];rfl
    rw[OV]at z;simpa using z
   have e2:gens[d+1+1]?=Z g2:=by
    have z:(gens.drop (d+1))[1]?=Z g2:=by rw[hd];rfl
    rw[OV]at z;simpa using z
   have J:gens.drop (d+1+1)=g2::gs:=by
    have z:(gens.drop (d+1)).drop 1=g2::gs:=by rw[hd];rfl
    rw[Rl]at z;simpa using z
   have F:∀g',gens[d+1+1]?=Z g'->g'.is_async=0:=λg' z=>by rw[e2]at z;cases z;exact hW he
   refine PB.imp (m8 G.hx G.calm e1 F (sI src G _ t hi).1 (sG G g t j) (dR (p:=p) G (mCl G.mono rest) (mTl G.mono ifs) (sCl rest G elt gens sc pos (d+1) (.inr rfl) p (by rw[J];exact he)) (sTl ifs G fs B)) (sI src G _ t hi).2) (iS (mI G.mono src) (aV (mCl G.mono rest) (mTl G.mono ifs)))
  ·cases h
end
end
end
section
section
variable{Φ:Phi}{k:Nat}{C:Ctx}{X:Cx}
theorem zy{ts vs:List Expr}{kk j:Nat}{pp p2:Pos}(hs:env.scope=sc)(z:sc.kind=.function)(h:uv sc ts vs=F2):Ow [.Tuple ts kk pp] (.Tuple vs j p2) env=pure Y:=by
 have B:env.blockKind=.function:=by unfold RT;rw[hs,z];rfl
 have h':uv sc ts vs=F2:=h;unfold Ow;dsimp only;rw[B]
 by_cases c1:(!(ts.length==2 || ts.length==3) || vs.length != ts.length)=F2
 ·simp only[c1,Bool.true_or,if_true]
 ·simp only[Qw]at c1;rw[c1];simp only[QA,bne_self_eq_false,N3,if_false]
  split
  ·rfl
  ·
    generalize F:List.filterMap _ ts=L;obtain rfl:L=bg sc ts:=by
     rw[<-F];unfold bg;congr 1
     funext x
     cases x<;>first|rfl|(unfold U4;rw[hs])
    unfold uv at h';rw[c1]at h';simp only[QA,QR]at h'
    by_cases c3:((bg sc ts).length != ts.length || (bg sc ts).eraseDups.length != (bg sc ts).length)=F2
    ·rw[if_pos c3]
    ·rw[if_neg c3];have G:vs.all (TK 8)=F2:=by
      rcases h' with h'|h'
      ·exact absurd (QR _ _ |>.mpr h') c3
      ·exact h'
     rw[if_pos G]
theorem BD{ts vs:List Expr}{ns:List Str}{kk j:Nat}{pp p2:Pos}(hs:env.scope=sc)(B:sc.kind=.function)(h:uz sc ts vs ns=F2):Ow [.Tuple ts kk pp] (.Tuple vs j p2) env=pure (Z ns):=by
 have F:env.blockKind=.function:=by unfold RT;rw[hs,B];rfl
 simp only[uz,p0,Mh,decide_eq_true_eq]at h;obtain⟨⟨⟨⟨⟨G,J⟩,O⟩,U⟩,Fn⟩,fv⟩:=h;unfold Ow;dsimp only;rw[F,G];simp only[QA,bne_self_eq_false,N3,if_false]
 split
 ·next z=>exact absurd z (by rw[Qw];exact J)
 ·generalize hL:List.filterMap _ ts=L;obtain rfl:L=bg sc ts:=by
   rw[<-hL];unfold bg;congr 1
   funext x
   cases x<;>first|rfl|(unfold U4;rw[hs])
  rw[U,Fn,fv,O];rfl
theorem su{i:Nat}(h:uw C i x=F2):C.N[i]?=Z x/\C.sc.names.lookup x=Z .local:=by simpa[uw]using h
theorem cZ{tg:Expr}{l:Nat}{b:Bool}(h:Pp e (Z tg) l env=pure b):PD [tg] e l env=pure b:=by unfold PD;exact h
theorem sv{tg:Expr}(hs:env.scope=sc)(j:sc.kind=.function)(h:uA sc tg e=F2):Ow [tg] e env=pure Y:=by
 cases tg with
 |Tuple ts kk pp=>
  cases e with
  |Tuple vs z p2=>exact zy hs j h
  |_=>rfl
 |_=>first|rfl|(cases h;done)
theorem qq{elt:Expr}{gens:List Ms}{s:Scope}{px:Pos}{l:Nat}(hs:env.scope=sc)(j:sc.kind=.function):
 Pp (.ListComp elt gens s pos) (Z (.Name x px)) l env=pure (uB sc x px (.ListComp elt gens s pos)):=by
 have z:env.blockKind=.function:=by unfold RT;rw[hs,j];rfl
 unfold Pp;dsimp only;rw[z];unfold uB U4;rw[hs];rfl
theorem wU{ek ev:Expr}{gens:List Ms}{s:Scope}{px:Pos}{l:Nat}(hs:env.scope=sc)(j:sc.kind=.function):
 Pp (.DictComp ek ev gens s pos) (Z (.Name x px)) l env=pure (sc.names.lookup x==Z .local&&px.line==(Expr.DictComp ek ev gens s pos).pos.line && !(s.names.any λ(n,k)=>n==x&&(k==.local || k==.cell))):=by
 have z:env.blockKind=.function:=by unfold RT;rw[hs,j];rfl
 unfold Pp;dsimp only;rw[z];unfold U4;rw[hs];rfl
mutual
theorem sS:∀(m:MS) (G:Good C Φ k X) (F:C.sc.kind=.function) (s:Stmt),okS m C s=F2->PS X s (lS X.K (wS Φ m))
 |.asgL gs m,G,F,s,h=>by refine gu s h λts e pos h=>?_;refine cS ts h λtg h=>?_;refine ed tg h λts k p h=>?_;simp only[p0]at h;obtain⟨⟨J,he⟩,L⟩:=h;obtain⟨a,b⟩:=je (env:=X.env) J;exact PS.imp (oF (sE m G _ he) (DH G.calm (lc J) (sGs G gs _ J) a b) (cZ DS) (sv G.sc F L) rfl) (wv (mE G.mono m))
 |.asg g m,G,F,s,h=>by
  refine gu s h λts e pos h1=>?_;clear h;refine cS ts h1 λtg h=>?_;clear h1;simp only[p0]at h;obtain⟨⟨⟨J,he⟩,L⟩,hc⟩:=h;have hw:=sv G.sc F L;have pg:=sG G g tg J;have plain:PD [tg] e pos.line X.env=pure Md->PS X (.Assign [tg] e pos) (lS X.K (kT (wE Φ m) (bG g))):=λhs=>PS.imp (oF (sE m G e he) pg hs hw (by cases tg<;>first|rfl|(cases L;done))) (yQ (mE G.mono m))
  cases tg with
  |Tuple ts a b=>exact plain (cZ (kZ hc))
  |Name x px=>
   cases e with
   |ListComp elt gens sc cpos=>
    by_cases sw:uB C.sc x px (.ListComp elt gens sc cpos)=F2
    ·cases g with
     |tup gs=>exact absurd J KW
     |name i=>
      cases m with
      |comp fr N' c=>
       replace he:=bH he;have B:bn sc X.env.scope X.N N' fr:=by rw[G.sc,G.N];exact kj he.1
       have B':bn sc C.sc C.N N' fr:=kj he.1;have IG:PG X (.Name x px) (jl i):=by have J:=bH J;have J:=Pa (bH J.1) J.2;exact rA G.nd (by rw[G.N];exact of_decide_eq_true J.1.1) (G.loc J.1.2) (G.own J.2)
       have IH:∀l,Pp (.ListComp elt gens sc cpos) (Z (.Name x px)) l X.env=pure F2:=λl=>by rw[qq G.sc F,sw]
       have mc:=mCmp G.mono fr c
       cases c with
       |last src g ifs m=>
        have h2:=he.2;simp only[okC]at h2
        split at h2
        ·rename_i t it fs a;simp only[p0,decide_eq_true_eq]at h2;obtain⟨⟨⟨⟨rfl,hi⟩,U⟩,ht⟩,O⟩:=h2;refine PS.imp (jB (i:=i) (g:=lG X.K (bG g)) (wi:=lI X.K (wI Φ src)) G.calm G.hx B (λg' z=>by simp at z) (sI src G _ t hi).1 (λs H fp=>sG (G.blk B' s H fp) g t U) (tb:=λp=>lC X.K p (br (wTl Φ ifs) (eJ (wE Φ m)))) (λs H fp p=>?_) (sI src G _ t hi).2 IG (IH _)) λD σ H h=>?_
         ·have G':=G.blk B' s H fp;exact dR (p:=p) G' (bM (mE G.mono m)) (mTl G.mono ifs) (PB.imp (kK G'.hx (sE m G' elt O) rfl) (gO (mE G.mono m))) (sTl ifs G' fs ht)
         ·exact eK (mI G.mono src) (aV (bM (mE G.mono m)) (mTl G.mono ifs)) σ H _ (mD mc D σ H h)
        ·cases h2
       |more src g ifs rest=>
        have h2:=he.2;simp only[okC]at h2
        split at h2
        ·rename_i t it fs a g2 gs;simp only[p0,decide_eq_true_eq]at h2;obtain⟨⟨⟨⟨rfl,hi⟩,U⟩,ht⟩,O⟩:=h2;have II:∀g',(g2::gs)[0]?=Z g'->g'.is_async=0:=fun g' z=>by
          have z':g2=g':=by simpa using z
          subst z';exact hW O
         refine PS.imp (jB (i:=i) (g:=lG X.K (bG g)) (wi:=lI X.K (wI Φ src)) G.calm G.hx B II (sI src G _ t hi).1 (λs H fp=>sG (G.blk B' s H fp) g t U) (tb:=λp=>lC X.K p (br (wTl Φ ifs) (wCl Φ rest))) (λs H fp p=>?_) (sI src G _ t hi).2 IG (IH _)) λD σ H h=>?_
         ·have G':=G.blk B' s H fp;exact dR (p:=p) G' (mCl G.mono rest) (mTl G.mono ifs) (sCl rest G' elt (⟨t,it,fs,0⟩::g2::gs) sc cpos 0 (.inl rfl) p O) (sTl ifs G' fs ht)
         ·exact eK (mI G.mono src) (aV (mCl G.mono rest) (mTl G.mono ifs)) σ H _ (mD mc D σ H h)
        ·cases h2
      |_=>exact absurd he KW
    ·refine plain ?_;simp only[Qw]at sw;refine cZ ?_;rw[qq G.sc F,sw]
   |SetComp _ _ _ _=>cases m<;>exact absurd he KW
   |DictComp _ _ _ _ _=>refine plain (cZ ?_);rw[wU G.sc F];unfold DR at hc;simp only[Mh]at hc;rw[hc]
   |_=>exact plain (cZ rfl)
  |_=>cases L
 |.par i j a b,G,F,s,h=>by refine gu s h λts e pos h=>?_;refine cS ts h λtg h=>?_;refine ed tg h λts k p h=>?_;refine ed e h λes k' p' h=>?_;refine hJ ts h λt u h=>?_;refine hJ es h λe f h=>?_;refine eQ t h λx px h=>?_;refine eQ u h λy py h=>?_;simp only[p0,decide_eq_true_eq]at h;obtain⟨⟨⟨⟨⟨⟨⟨hi,hj⟩,IJ⟩,n1⟩,n2⟩,L⟩,hb⟩,hw⟩:=h;obtain⟨i1,i2⟩:=su hi;obtain⟨j1,j2⟩:=su hj;exact PS.imp (CJ G.calm G.nd (by rw[G.N];exact i1) (by rw[G.N];exact j1) IJ (by rw[G.sc];exact i2) (by rw[G.sc];exact j2) (bf (mE G.mono a) (al (mE G.mono b) ar) (sE a G _ L) (bf (mE G.mono b) ar (sE b G _ hb) cN (ag n2)) (ag n1)) (BD G.sc F hw) (cZ rfl)) (w4 (al (mE G.mono a) (al (mE G.mono b) ar)))
 |.put o i m,G,F,s,h=>by refine gu s h λts e pos h=>?_;refine cS ts h λtg h=>?_;refine dG tg h λx y tp h=>?_;simp only[p0]at h;obtain⟨⟨⟨⟨Fn,hc⟩,ho⟩,hi⟩,he⟩:=h;exact Dz (by have:=G.units;lia) (mE G.mono m) (mE G.mono o) (mE G.mono i) (sE m G e he) (sE o G x ho) (sE i G y hi) (cZ (kZ hc)) rfl (λv=>by cases y<;>first|rfl|(cases Fn;done))
 |.aug i op m,G,F,s,h=>by
  refine iV s h λt o e pos h=>?_;refine eQ t h λx _ h=>?_;simp only[p0,decide_eq_true_eq]at h;obtain⟨⟨⟨⟨⟨rfl,fv⟩,hi⟩,hl⟩,hf⟩,he⟩:=h
  cases op with
  |add=>exact jR G.nd (by rw[G.N];exact hi) (G.loc hl) (sE m G _ he) mG gQ (mE G.mono m) (G.own hf)
  |sub=>exact jR G.nd (by rw[G.N];exact hi) (G.loc hl) (sE m G _ he) mH gR (mE G.mono m) (G.own hf)
  |ext=>exact jR G.nd (by rw[G.N];exact hi) (G.loc hl) (sE m G _ he) wz mX (mE G.mono m) (G.own hf)
  |mul=>exact jR G.nd (by rw[G.N];exact hi) (G.loc hl) (sE m G _ he) mJ gT (mE G.mono m) (G.own hf)
  |_=>simp at fv
 |.augI o i op m,G,F,s,h=>by
  refine iV s h λt o' e pos h=>?_;refine dG t h λx y tp h=>?_;simp only[p0,decide_eq_true_eq]at h;obtain⟨⟨⟨⟨⟨rfl,fv⟩,Fn⟩,ho⟩,hi⟩,he⟩:=h;have hu:X.A.units+1<Om:=by have:=G.units;lia
  have L:∀ov iv new,augStore y ov iv new=(do holding [new,ov,iv] (Th ov iv new);release [new,ov,iv] [];pure .next):=λov iv new=>by cases y<;>first|rfl|(cases Fn;done)
  cases op with
  |add=>exact kU hu (mE G.mono o) (mE G.mono i) (mE G.mono m) gQ (sE o G x ho) (sE i G y hi) (sE m G e he) mG L
  |sub=>exact kU hu (mE G.mono o) (mE G.mono i) (mE G.mono m) gR (sE o G x ho) (sE i G y hi) (sE m G e he) mH L
  |mul=>exact kU hu (mE G.mono o) (mE G.mono i) (mE G.mono m) gT (sE o G x ho) (sE i G y hi) (sE m G e he) mJ L
  |_=>simp at fv
 |.drop m,G,F,s,h=>by refine DN s h λe _ h=>?_;simp only[p0]at h;exact PS.imp (AA (sE m G _ h.2) (kZ h.1)) (vY (mE G.mono m))
 |.ret m,G,F,s,h=>by refine zn s h λo _ h=>?_;refine jos o h λe h=>?_;exact PS.imp (CD (sE m G _ h)) (yP (mE G.mono m))
 |.ite c a b,G,F,s,h=>by refine Gq s h λt x y _ h=>?_;simp only[p0]at h;exact PS.imp (EE (sT c G _ h.1.1) (sSs a G F _ h.1.2) (sSs b G F _ h.2)) (Bj (mT G.mono c))
 |.for g src b,G,F,s,h=>by refine Fo s h λtg it body els _ h=>?_;refine gZ els h fun  h=>?_;simp only[p0]at h;obtain⟨⟨⟨hs,J⟩,hi⟩,hb⟩:=h;exact PS.imp (CN (λe s z=>(G.hx e s z).elim) G.calm (sI src G _ _ hi).1 (sG G g _ J) (sSs b G F _ hb) (wL hs)) (yR (mI G.mono src) (mSs G.mono b))
 |.while c b,G,F,s,h=>by refine BA s h λt body els _ h=>?_;refine gZ els h fun  h=>?_;simp only[p0]at h;exact PS.imp (xO (λe s z=>(G.hx e s z).elim) (sT c G _ h.1) (sSs b G F _ h.2)) (u6 (mT G.mono c) (mSs G.mono b))
 |.pass,G,F,s,h=>by refine DP s h λ_ h=>?_;exact PS.imp Az mC
 |.brk,G,F,s,h=>by refine BB s h λ_ h=>?_;exact PS.imp xM u5
 |.cnt,G,F,s,h=>by refine uu s h λ_ h=>?_;exact PS.imp qW vX
theorem sSs:∀(m:MSs) (G:Good C Φ k X) (j:C.sc.kind=.function) (s:List Stmt),okSs m C s=F2->PSs X s (lS X.K (wSs Φ m))
 |.nil,G,j,s,h=>by simp[okSs]at h;subst h;exact PSs.imp Ay mC
 |.cons m r,G,j,[],h=>by simp[okSs]at h
 |.cons m r,G,j,s::ss,h=>by simp only[okSs,p0]at h;exact PSs.imp (xL (sS m G j s h.1) (sSs r G j ss h.2)) (yO (mS G.mono m) (mSs G.mono r))
end
end
end
variable{a:N2}{ns:List Int}{r:RAd}{H:Hp}{ds:List D}{M:Mem}{Q:QD}
section
structure FD where
 name:Str
 st:Stmt
 N:List Str
 np:Nat
 body:MSs
noncomputable def bS(N:List Str)(ds:List D):au:=ds.map Z++D1 (N.length-ds.length) Y
def FD.takes(d:FD):Prop:=(Lw "")∈d.N
noncomputable def da(Φ:Phi)(a:N2)(r:RAd):Phi:=λf ds M Q=>if f=5000+a then r ds M Q else Φ f ds M Q
noncomputable def rOf(Φ:Phi)(j:Nat)(gs:List D)(js:List Nat):RAd:=λargs M Q=>args.length=2/\Φ (2000+j) (js.map λi=>(gs++args).getD i .non) M Q
noncomputable def phi(T:List FD):Nat->Phi
 |0=>λ_ _ _ _=>False
 | k+1=>fun f ds M Q=>(∃d,T[f]?=Z d/\ds.length=d.np/\wSs (phi T k) d.body {nx:=fun _ M'=>Q .non M',rt:=Q} (bS d.N ds) M) ∨
   (∃i d xs a j gs js,f=1000+i/\i<1000/\j<1000/\T[i]?=Z d/\d.takes/\ds=xs++[.ref a,.int (j:Nat),.tup gs,.tup ((js:List Nat).map λi:Nat=>.int i)]/\xs.length+1=d.np /\
    wSs (da (phi T k) a (rOf (phi T k) j gs js)) d.body {nx:=λ_ M'=>Q .non M',rt:=Q} (bS d.N (xs++[.ref a])) M) ∨
   (∃j,f=2000+j/\j<3000/\phi T k j ds M Q)
theorem n9(h:∀f,aN (Φ f))(B:aN r)(f:Nat):aN (da Φ a r f):=λds M Q Q' j q=>by
 unfold da at q⊢
 split
 ·rename_i z;rw[if_pos z]at q;exact B _ _ _ _ j q
 ·rename_i z;rw[if_neg z]at q;exact h f _ _ _ _ j q
theorem ca(T:List FD):∀k f,aN (phi T k f)
 |0,f=>λ_ _ _ _ _ q=>q.elim
 |k+1,f=>fun ds M Q Q' h B=>by
  rcases B with⟨d,e,l,q⟩|⟨i,d,xs,a,j,gs,js,e1,e2,ej,F,G,J,L,q⟩|⟨j,e1,e2,q⟩
  ·exact .inl ⟨d,e,l,mSs (ca T k) d.body {nx:=λ_ M'=>Q .non M',rt:=Q} {nx:=λ_ M'=>Q' .non M',rt:=Q'} _ _ ⟨λ_ M' q'=>h _ _ q',h,λ_ _ z=>z,λ_ _ z=>z⟩ q⟩
  ·exact .inr (.inl ⟨i,d,xs,a,j,gs,js,e1,e2,ej,F,G,J,L,mSs (n9 (ca T k) (r:=rOf (phi T k) j gs js) λ_ _ _ _ O z=>⟨z.1,ca T k _ _ _ _ _ O z.2⟩) d.body {nx:=λ_ M'=>Q .non M',rt:=Q} {nx:=λ_ M'=>Q' .non M',rt:=Q'} _ _ ⟨λ_ M' q'=>h _ _ q',h,λ_ _ z=>z,λ_ _ z=>z⟩ q⟩)
  ·exact .inr (.inr ⟨j,e1,e2,ca T k _ _ _ _ _ h q⟩)
noncomputable def fA(lms:List (Str×N2))(d:FD):Nat:=if(Lw "")∈d.N then 1 else match lms.lookup d.name with|some P=>P+2|none=>0
noncomputable def uE(Γ:List Str)(cs:List (Str×D))(lms:List (Str×N2))(d:FD):Bool:=
 decide ((ao d.st).kind=.function) && !(ao d.st).isCoroutine && !(ao d.st).isGenerator&&decide (d.N.Nodup)&&decide (d.np<=d.N.length)
  && (d.N.take d.np).all (λx=>(ao d.st).names.lookup x==Z .local || (ao d.st).names.lookup x==Z .cell)
  && (ao d.st).names.all (λy=>!(y.2==.free))&&okSs d.body ⟨Γ,d.N,ao d.st,d.N,cs,fA lms d,d.name⟩ (bu d.st)
theorem qr{Γ:List Str}{cs:List (Str×D)}{lms:List (Str×N2)}{d:FD}(h:uE Γ cs lms d=F2):cE d.N (d.N.take d.np) (ao d.st)/\(d.N.take d.np).length=d.np/\okSs d.body ⟨Γ,d.N,ao d.st,d.N,cs,fA lms d,d.name⟩ (bu d.st)=F2:=by
 simp only[uE,p0,decide_eq_true_eq,Mh]at h;obtain⟨⟨⟨⟨⟨⟨⟨h1,h2⟩,B⟩,F⟩,U⟩,G⟩,J⟩,L⟩:=h;have j:(d.N.take d.np).length=d.np:=by rw[Lu];lia
 refine⟨⟨h1,h2,B,F,by rw[j],λx hx=>?_,λy O e=>?_⟩,j,L⟩
 ·have z:=OH.mp G x hx;simpa using z
 ·have z:=OH.mp J y O;rw[e]at z;simp at z
section
variable{P:Ln}{w:LL}{K:Frag}{mg:Str->Option gV}{base:Heap}
structure uF(K:Frag)(mg:Str->Option gV)(T:List FD)(cs:List (Str×D))(lms:List (Str×N2)):Prop where
 blt:∀x∈bltNames,mg x=Y
 fns:∀(i:Nat) (d:FD),T[i]?=Z d->∃f fd,Fun K d.name d.name d.st f fd/\mg d.name=Z (.ref f)/\R3 K MB d.name=Z (Z (.ref f))/\Binds K fd (d.N.take d.np) []
 ok:∀d∈T,uE (T.map (·.name)) cs lms d=F2
 cst:∀x d,(x,d)∈cs->∃u,mg x=Z u/\GV K d u
 len:T.length<=1000
 own:∀(i:Nat) (d:FD) (T0:N2),T[i]?=Z d->lms.lookup d.name=Z T0->∀f,mg d.name=Z (.ref f)->∃fd,FunP K d.name d.name d.st f fd T0
theorem qt{N:List Str}{vs:List V}(rs:RDs K H ds vs):RS K H (bC N vs) (bS N ds):=by
 refine⟨by simp[bC,bS,rs.length],λj dd B=>?_⟩
 unfold bS at B;unfold bC
 by_cases F:j<ds.length
 ·rw[Lb (by simpa using F),L8]at B
  cases e3:ds[j]? with
  |none=>rw[e3]at B;cases B
  |some z=>rw[e3]at B;cases B;obtain⟨v,G,rv⟩:=rs.get e3;refine⟨v,?_,rv⟩;rw[Lb (by rw[r0,rs.length];exact F),L8,G];rfl
 ·rw[D0 (by simpa using F),RX]at B
  split at B<;>cases B
theorem lf{T:List FD}(z:T.length<=1000){a:Nat}:∀{k:Nat} {ds:List D} {M:Mem} {Q:QD},¬phi T k (5000+a) ds M Q
 |0,_,_,_,h=>h
 |k+1,ds,M,Q,h=>by
  rcases h with⟨d,e,_⟩|⟨i,d,xs,b,j,gs,js,e1,e2,_⟩|⟨j,e1,e2,_⟩
  ·have:=(L7.mp e).1;lia
  ·lia
  ·lia
theorem uG{T:List FD}(F:T.length<=1000){j k:Nat}(G:j<1000)(h:phi T k (4000+j) ds M Q):∃z,k=z+2/\phi T z j ds M Q:=by
 have s1:∀{k:Nat} {m:Nat} {ds:List D} {M:Mem} {Q:QD},m<3000->phi T k (2000+m) ds M Q->∃z,k=z+1/\phi T z m ds M Q:=λ{k m ds M Q} hm h=>by
  cases k with
  |zero=>exact h.elim
  |succ k=>
   rcases h with⟨d,e,_⟩|⟨i,d,xs,b,j,gs,js,e1,e2,_⟩|⟨j,e1,e2,q⟩
   ·have:=(L7.mp e).1;lia
   ·lia
   ·have:j=m:=by lia
    subst this;exact⟨k,rfl,q⟩
 rw[show 4000+j=2000+(2000+j) by lia]at h
 obtain⟨J,rfl,h1⟩:=s1 ∅ h
 obtain⟨B,rfl,h2⟩:=s1 ∅ h1
 exact⟨B,rfl,h2⟩
theorem qv:∀{a b:List Nat},(a.map λi:Nat=>D.int i)=(b.map λi:Nat=>D.int i)->a=b
 |[],[],_=>rfl
 |[],_::_,h=>by cases h
 |_::_,[],h=>by cases h
 |x::a,y::b,h=>by rw[Lc,Lc,P4,D.int.injEq]at h;rw[qv h.2,show x=y by have:=h.1;lia]
structure oz(P:Ln)(w:LL)(K:Frag)(mg:Str->Option gV)(base:Heap)(T:List FD)(k:Nat):Prop where
 fn:∀(i:Nat) (d:FD) (f:N2) (fd:Nk),T[i]?=Z d->Fun K d.name d.name d.st f fd->mg d.name=Z (.ref f)->FnOk P w K mg base CX0 k f fd (d.N.take d.np) (lSp K (phi T k i))
 fs:∀(i:Nat) (d:FD) (f:N2) (fd:Nk),T[i]?=Z d->Fun K d.name d.name d.st f fd->mg d.name=Z (.ref f)->nH P w K mg base k f fd (d.N.take d.np) (spC P w K mg base k (phi T k) i)
theorem sx{T:List FD}{cs:List (Str×D)}{lms:List (Str×N2)}(O:uF K mg T cs lms)(hM:Frag.In K base)(hB:fb mg base){k:Nat}(A1:oz P w K mg base T k)(A3:∀F,k=F+2->oz P w K mg base T F){i:Nat}{d:FD}(e:T[i]?=Z d)(hΦ:∀f,f<5000->Φ f=phi T k f)(hm:∀f,aN (Φ f)){A:LQ}{outer:List Env}{s:q7}{E:XK}{f:N2}{cdv:gV}(S:cE d.N (d.N.take d.np) (ao d.st))(U:Room k (A.deeper (Qs d.name (ao d.st) s.heap.objs.size f cdv)))(hc:fA lms d=1->∀a,wM ((cA CX0 P w K mg base d.N d.name (ao d.st) f cdv A outer s H E).nox) a (Φ (5000+a)))(ho:∀T0,fA lms d=T0+2->∃c,cdv=.ref c/\N8 K c T0=F2):
 Good ⟨T.map (·.name),d.N,ao d.st,d.N,cs,fA lms d,d.name⟩ Φ k ((cA CX0 P w K mg base d.N d.name (ao d.st) f cdv A outer s H E).nox):=by
 have small:∀{j:Nat} {x:Str},(T.map (·.name))[j]?=Z x->j<1000/\∃d2,T[j]?=Z d2/\d2.name=x:=λ{j x} hx=>by
  rw[L8]at hx
  cases e2:T[j]? with
  |none=>rw[e2]at hx;cases hx
  |some d2=>rw[e2]at hx;cases hx;exact⟨Lz (L7.mp e2).1 O.len,d2,rfl,rfl⟩
 refine⟨λ_ _ z=>z,rfl,rfl,rfl,S.nd,λ_ _=>rfl,U,O.blt,λj x hx=>?_,hm,O.cst,hc,λT0 hl=>?_⟩
 ·obtain⟨L,d2,e2,rfl⟩:=small hx;obtain⟨f2,B,G,J,n2,Fn⟩:=O.fns j d2 e2;exact⟨f2,B,_,J,n2,G.kp,Fn,by rw[hΦ j ∅];exact A1.fn j d2 f2 B e2 G J⟩
 ·obtain⟨c,rfl,hd⟩:=ho T0 hl;refine⟨⟨c,rfl,Tr hM hd⟩,hB,rfl,λj x hx=>?_,λj x hx=>?_,?_⟩
  ·obtain⟨L,d2,e2,rfl⟩:=small hx;obtain⟨f2,B,G,J,n2,Fn⟩:=O.fns j d2 e2;have F3:=A1.fs j d2 f2 B e2 G J;have cv:∀{o:List Env} {s:q7} {vs:List V} {H:Hp} {Q:VK} {E:XK},spC P w K mg base k Φ j o s vs H Q E->spC P w K mg base k (phi T k) j o s vs H Q E:=by
    rintro o s vs H Q E ⟨ds,a,j',gs,js,M,rm,rd,C1,q⟩;refine⟨ds,a,j',gs,js,M,rm,rd,⟨C1.fn,?_⟩,by rw[<-hΦ _ ∅];exact q⟩
    intro A outer s1 H1 u1 u2 v1 v2 Q1 un U e0 r1 r2 IG;obtain⟨IH,M2,II,IJ,q2,fv⟩:=IG;have fv:phi T k (4000+j') _ M2 _:=fv
    by_cases hj':j'<1000
    ·exact C1.run A outer s1 H1 u1 u2 v1 v2 Q1 un U e0 r1 r2 ⟨IH,M2,II,IJ,q2,by show Φ (4000+j') _ _ _;rw[hΦ _ ∅];exact fv⟩
    ·rw[show 4000+j'=5000+(j'-1000) by lia]at fv
     exact absurd fv (lf O.len)
   exact⟨f2,B,_,J,G.kp,Fn,⟨λo s vs H Q E z=>F3.len o s vs H Q E (cv z),λA outer s H args us vs Q E U e0 hb r z=>F3.run A outer s H args us vs Q E U e0 hb r (cv z)⟩⟩
  ·obtain⟨L,d2,e2,rfl⟩:=small hx;obtain⟨f2,B,G,J,n2,Fn⟩:=O.fns j d2 e2;refine⟨f2,B,_,J,G.kp,Fn,?_⟩
   by_cases hk:∃F,k=F+2
   ·obtain⟨F,rfl⟩:=hk;refine(A3 F rfl |>.fn j d2 f2 B e2 G J).imp λvs H Q E g9=>?_
    obtain⟨ds,M,rm,rd,q⟩:=g9;rw[hΦ _ ∅]at q
    obtain⟨k1,e1,q1⟩:=uG O.len L q;have:k1=F:=∅
    subst this;exact⟨ds,M,rm,rd,q1⟩
   ·have no:∀{vs H Q E},¬lSp K (Φ (4000+j)) vs H Q E:=fun {vs H Q E} g9=>by
     obtain⟨ds,M,rm,rd,q⟩:=g9;rw[hΦ _ ∅]at q
     obtain⟨k1,e1,_⟩:=uG O.len L q;exact hk ⟨k1,e1⟩
    exact⟨λvs H Q E z=>absurd z no,λA outer s H args us vs Q E _ _ _ _ z=>absurd z no⟩
  ·by_cases hk:∃F,k=F+2
   ·exact .inl hk
   ·refine .inr λj x hx ds M Q q=>?_;obtain⟨L,_⟩:=small hx;rw[hΦ _ ∅]at q
    obtain⟨k1,e1,_⟩:=uG O.len L q;exact hk ⟨k1,e1⟩
theorem DX{T:List FD}{cs:List (Str×D)}{lms:List (Str×N2)}(O:uF K mg T cs lms)(hM:Frag.In K base)(hB:fb mg base)(k:Nat):oz P w K mg base T k:=by
 induction k using Nat.strongRecOn with
 |ind k ih=>
  cases k with
  | zero=>exact⟨fun i d f fd e F hm=>⟨fun vs H Q E h=>by obtain⟨ds,M,_,_,q⟩:=h;exact q.elim,fun A outer s H args us vs Q E _ _ _ _ h=>by obtain⟨ds,M,_,_,q⟩:=h;exact q.elim⟩,
     λi d f fd e F hm=>⟨λo s vs H Q E h=>by obtain⟨ds,a,j,gs,js,M,_,_,_,q⟩:=h;exact q.elim,λA outer s H args us vs Q E _ _ _ _ h=>by obtain⟨ds,a,j,gs,js,M,_,_,_,q⟩:=h;exact q.elim⟩⟩
  |succ k=>
   have A1:=ih k (UL k);have A3:∀k0,k=k0+2->oz P w K mg base T k0:=λk0 z=>ih k0 ∅
   have reg:∀{i:Nat} {d:FD} {ds:List D} {M:Mem} {Q:QD},T[i]?=Z d->phi T (k+1) i ds M Q->ds.length=d.np/\wSs (phi T k) d.body {nx:=λ_ M'=>Q .non M',rt:=Q} (bS d.N ds) M:=λ{i d ds M Q} e h=>by
    have hi:=(L7.mp e).1;have hl:=O.len
    rcases h with⟨d',e',l,q⟩|⟨i',d',xs,b,j,gs,js,e1,_⟩|⟨j,e1,_⟩
    ·rw[e]at e';cases e';exact⟨l,q⟩
    ·lia
    ·lia
   refine⟨λi d f fd e F IG=>?_,λi d f fd e F IG=>?_⟩
   ·obtain⟨S,hl,hb⟩:=qr (O.ok d (Lj e));have len:∀vs H Q E,lSp K (phi T (k+1) i) vs H Q E->vs.length=(d.N.take d.np).length:=fun vs H Q E h=>by
     obtain⟨ds,M,rm,rs,q⟩:=h;rw[rs.length,(reg e q).1,hl]
    have body:∀(cdv:gV) (A:LQ) (outer:List Env) (s:q7) (H:Hp) (vs:List V) (Q:VK) (E:XK),(∀T0,fA lms d=T0+2->∃c,cdv=.ref c/\N8 K c T0=F2)->Room k (A.deeper (Qs d.name (ao d.st) s.heap.objs.size f cdv))->lSp K (phi T (k+1) i) vs H Q E->
     ∃t,PSs (cA CX0 P w K mg base d.N d.name (ao d.st) f cdv A outer s H E).nox (bu d.st) t/\t {nx:=λ_ H'=>Q .non H',rt:=Q} (bC d.N vs) H:=λcdv A outer s H vs Q E ho J h=>by
     obtain⟨ds,M,rm,rs,q⟩:=h;have G:=sx (P:=P) (w:=w) (A:=A) (outer:=outer) (s:=s) (H:=H) (E:=E) (f:=f) (cdv:=cdv) O hM hB A1 A3 e (Φ:=phi T k) (λ_ _=>rfl) (ca T k) S J (λ_ a pins s σ H vs us Q I r z=>by obtain⟨ds,M,_,_,q⟩:=z;exact absurd q (lf O.len)) ho
     exact⟨_,sSs d.body G S.kind _ hb,bS d.N ds,M,{nx:=λ_ M'=>KE' K M H Q .non M',rt:=KE' K M H Q},qt rs,rm,⟨λρ M' σ H' x rs' rm' q'=>q' .non H' x rm' (VV.mpr rfl),λd M' v H' x rm' rd' q'=>q' v H' x rm' rd',λ_ _ _ _ _ _ _ z=>z,λ_ _ _ _ _ _ _ z=>z⟩,(reg e q).2⟩
    by_cases fv:(Lw "")∈d.N
    ·refine F.ok S len λcdv A outer s H vs Q E J h=>body cdv A outer s H vs Q E (λT0 z=>?_) J h;unfold fA at z;rw[if_pos fv]at z;lia
    cases U:lms.lookup d.name with
    |none=>refine F.ok S len λcdv A outer s H vs Q E J h=>body cdv A outer s H vs Q E (λT0 z=>?_) J h;unfold fA at z;rw[if_neg fv,U]at z;cases z
    |some T1=>
     obtain⟨fd',FP⟩:=O.own i d T1 e U f IG;have:fd'=fd:=by obtain⟨_,_,_,_,_,_,_,_,_,_,l1,_⟩:=F.ex;obtain⟨_,_,_,_,_,_,_,_,_,_,l2,_⟩:=FP.ex;rw[l1]at l2;cases l2;rfl
     subst this;refine FP.ok S len λc A outer s H vs Q E hd J h=>body (.ref c) A outer s H vs Q E (λT0 z=>?_) J h;unfold fA at z;rw[if_neg fv,U]at z;have:T1=T0:=by have z:T1+2=T0+2:=z;lia
     subst this;exact⟨c,rfl,hd⟩
   ·obtain ⟨S,hl,hb⟩:=qr (O.ok d (Lj e));have hi:=(L7.mp e).1;have ops:∀{o:List Env} {s:q7} {vs:List V} {H:Hp} {Q:VK} {E:XK},spC P w K mg base (k+1) (phi T (k+1)) i o s vs H Q E->
     ∃(xs:List D) (a:N2) (r:RAd) (M:Mem),d.takes/\RM K M H/\RDs K H (xs++[.ref a]) vs/\xs.length+1=d.np/\aN r/\(∀ds M Q,r ds M Q->ds.length=2)/\ie P w K mg base k (frs o) a (lSp K r) H s.heap /\
      wSs (da (phi T k) a r) d.body {nx:=λ_ M'=>KE' K M H Q .non M',rt:=KE' K M H Q} (bS d.N (xs++[.ref a])) M:=by
     rintro o s vs H Q E ⟨ds,a,j,gs,js,M,rm,rd,C1,q⟩
     rcases q with⟨d',e',_⟩|⟨i',d',xs,b,j',gs',js',e1,e2,ej,e3,e4,e5,e6,q⟩|⟨j',e1,_⟩
     ·have:=(L7.mp e').1;have:=O.len;lia
     ·have:i=i':=by lia
      subst this;rw[e]at e3;cases e3;obtain⟨rfl,z⟩:=List.append_inj' e5 (by simp)
      simp only[P4,D.ref.injEq,D.int.injEq,D.tup.injEq,and_true]at z;obtain⟨rfl,hj,rfl,Fn⟩:=z;have hj:j=j':=by exact_mod_cast hj
      subst hj;have Fn:js=js':=qv Fn;subst Fn;refine⟨ds,a,rOf (phi T k) j gs js,M,e4,rm,rd,e6,λ_ _ _ _ hq z=>⟨z.1,ca T k _ _ _ _ _ hq z.2⟩,λ_ _ _ z=>z.1,⟨C1.fn,?_⟩,q⟩;intro A outer s1 H1 u1 u2 v1 v2 Q1 un J e0 r1 r2 IN;obtain⟨L,M2,IO,IP,B,q3⟩:=IN;exact C1.run A outer s1 H1 u1 u2 v1 v2 Q1 un J e0 r1 r2 ⟨L,M2,IO,IP,B,.inr (.inr ⟨2000+j,∅,∅,q3⟩)⟩
     ·have:=O.len;lia
    refine F.okS S (λo s vs H Q E h=>?_) λcdv A outer s H vs Q E J h=>?_
    ·obtain⟨xs,a,r,M,fv,rm,rd,hn,IH,II,C1,q⟩:=ops h;rw[rd.length,I7,Mp,hn,hl]
    ·obtain⟨xs,a,r,M,fv,rm,rd,hn,IH,II,C1,q⟩:=ops h;have h1:fA lms d=1:=if_pos fv;have G:=sx (P:=P) (w:=w) (A:=A) (outer:=outer) (s:=s) (H:=H) (E:=E) (f:=f) (cdv:=cdv) O hM hB A1 A3 e (Φ:=da (phi T k) a r) (fun f hf=>by
      funext ds M Q;unfold da;rw[if_neg ∅]) (n9 (ca T k) IH) S J (λ_ b pins s2 σ H2 IJ us Q2 I rv z=>?_) (λT0 z=>by rw[h1]at z;lia)
     ·exact⟨_,sSs d.body G S.kind _ hb,bS d.N (xs++[.ref a]),M,{nx:=λ_ M'=>KE' K M H Q .non M',rt:=KE' K M H Q},qt (K:=K) rd,rm,⟨λρ M' σ H' x rs' rm' q'=>q' .non H' x rm' (VV.mpr rfl),λd M' v H' x rm' rd' q'=>q' v H' x rm' rd',λ_ _ _ _ _ _ _ z=>z,λ_ _ _ _ _ _ _ z=>z⟩,q⟩
     ·obtain⟨L,M2,IQ,IK,B⟩:=z
      by_cases hb':b=a
      ·subst hb';have B:r L M2 (KE' K M2 H2 Q2):=by
        unfold da at B;rw[if_pos rfl]at B;exact B
       have IM:=II _ _ _ B;rw[<-IK.length]at IM;obtain⟨v1,v2,rfl⟩:∃v1 v2,IJ=[v1,v2]:=by
        match IJ,IM with
        |[v1,v2],_=>exact⟨v1,v2,rfl⟩
       exact yd (X:=(cA CX0 P w K mg base d.N d.name (ao d.st) f cdv A outer s H E).nox) rfl J C1 pins s2 σ H2 v1 v2 us Q2 I rv ⟨L,M2,IQ,IK,B⟩
      ·have B:phi T k (5000+b) L M2 (KE' K M2 H2 Q2):=by
        unfold da at B;rw[if_neg ∅]at B;exact B
       exact absurd B (lf O.len)
noncomputable def ef:List (N2×Pos×Str)->Mem
 |[],_=>Y
 |(P,pos,q)::r,a=>if a=P then Z (.tab pos q)else ef r a
theorem sy{H:Hp}:∀{ts:List (N2×Pos×Str)},(∀t∈ts,H t.1=Z (.tbl #[]))->RM K (ef ts) H
 |[],_=>λ_ _ z=>by cases z
 |(P,pos,q)::r,h=>λa o z=>by
  unfold ef at z
  split at z
  ·rename_i e;cases z;subst e;exact⟨#[],h _ (LH ..),.inl rfl⟩
  ·exact sy (λt j=>h t (Lq _ j)) a o z
theorem BE{T:List FD}{k i:Nat}{ts:List (N2×N2)}(cs:List (N2×Pos×Str))(B:∀t∈cs,∃q∈ts,q.2=t.1)(F:nI ts H)(G:Scr K H a (ns.map V.int))(h:phi T k i [.con (ns.map D.int)] (ef cs) λd _=>d=.bl F2):
 lSp K (phi T k i) [.ref a] H (λv _=>v=.bl F2) λ_ _ _=>False:=by
 have j:RM K (ef cs) H:=sy λt z=>by obtain⟨q,J,e⟩:=B t z;rw[<-e];exact F.tab q J
 refine⟨[.con (ns.map D.int)],ef cs,j,RDs.cons (VT.mpr ⟨a,ns.map V.int,rfl,?_,W3 ns⟩) RDs.nil,ca T k i [.con (ns.map D.int)] (ef cs) (λd _=>d=.bl F2) (KE' K (ef cs) H λv _=>v=.bl F2) (λd M' e=>λv H' x rm rd=>?_) h⟩
 ·exact G
 ·subst e;exact VQ.mp rd
end
theorem DY{T:List FD}{lms:List (Str×N2)}{Ls:List Nat}(h:((z4 T.length).all λi=>Ls.contains i || (T[i]?).all λd=>(lms.lookup d.name).isNone)=F2){i:Nat}{d:FD}{T0:N2}(e:T[i]?=Z d)(j:lms.lookup d.name=Z T0):i∈Ls:=by have z:=OH.mp h i (LP.mpr (L7.mp e).1);rw[e]at z;simpa[j]using z
theorem hd_in{K:Frag}{c:N2}{o:Obj}(h:K.lookup c=Z o)(e:N8 [(c,o)] c P=F2):N8 K c P=F2:=by
 unfold N8 at e⊢;rw[h];rw[show Pm c [(c,o)]=Z o by simp[Pm]]at e
 exact e
theorem iF(us:List gV)(h:us.length=1):∃a,us=[a]:=Qm.mp h
theorem bP(us:List gV)(h:us.length=2):∃a b,us=[a,b]:=by
 cases us with
 |nil=>cases h
 |cons a us=>obtain⟨b,rfl⟩:=iF us (VF.inj h);exact⟨a,b,rfl⟩
theorem oA(us:List gV)(h:us.length=3):∃a b c,us=[a,b,c]:=by
 cases us with
 |nil=>cases h
 |cons a us=>obtain⟨b,c,rfl⟩:=bP us (VF.inj h);exact⟨a,b,c,rfl⟩
theorem uH(us:List gV)(h:us.length=4):∃a b c d,us=[a,b,c,d]:=by
 cases us with
 |nil=>cases h
 |cons a us=>obtain⟨b,c,d,rfl⟩:=oA us (VF.inj h);exact⟨a,b,c,d,rfl⟩
end
variable{i j y c v z:Int}{q n N m ft L fo f1 L0 L1 W ff w:Nat}{b:N2}{l A B:List Int}{F G:Nat->Int}{xs:List D}{s so s1 sf:Stmt}{d:FD}{T:List FD}{E:bU}{o:O}{ρ:au}{M' M'':Mem}{zs:List (Int×Int)}{mul:List Int->List Int->List Int}
section
theorem DZ{k:Nat}(e:T[f]?=Z d)(l:ds.length=d.np)(r:bS d.N ds=ρ)(h:wSs (phi T k) d.body {nx:=λ_ M'=>Q .non M',rt:=Q} ρ M):phi T (k+1) f ds M Q:=by
 rw[<-r]at h
 first|exact⟨d,e,l,h⟩|exact .inl ⟨d,e,l,h⟩
theorem aB(j:1<=n)(e:T[f]?=Z d)(l:ds.length=d.np)(r:bS d.N ds=ρ)(h:wSs (phi T (n-1)) d.body {nx:=λ_ M'=>Q .non M',rt:=Q} ρ M):phi T n f ds M Q:=by
 obtain⟨k,rfl⟩:∃k,n=k+1:=⟨n-1,∅⟩
 exact DZ e l r h
theorem sB{D:bU}:wSs Φ .nil D ρ M=D.nx ρ M:=by rw[wSs];rfl
theorem bQ{s:MS}{r:MSs}{D:bU}:wSs Φ (.cons s r) D ρ M=wS Φ s {D with nx:=wSs Φ r D} ρ M:=by rw[wSs];rfl
theorem GJ{y:D}:wIx (.tup ds) y M Q=∃i d,y=.int i/\atI ds i=Z d/\Q d M:=rfl
theorem GK{y:D}:wIx (.con ds) y M Q=∃i d,y=.int i/\atI ds i=Z d/\Q d M:=rfl
theorem aS{d:D}(h:M a=Z (.lst ds))(e:atI ds i=Z d)(q:Q d M):wIx (.ref a) (.int i) M Q:=.inl ⟨ds,i,d,h,rfl,e,q⟩
theorem cb{v:D}{j:Nat}{Q:Mem->Prop}(h:M a=Z (.lst ds))(e:ixN ds.length i=Z j)(q:Q (af M a (.lst (ds.set j v)))):fZ (.ref a) (.int i) v M Q:=⟨a,rfl,.inl ⟨ds,i,j,rfl,h,e,q⟩⟩
theorem b7(h:M a=Z (.lst ds))(q:Q (.int ds.length) M):fq [.ref a] M Q:=⟨_,_,rfl,by simp only[pF,h],q⟩
theorem ah(h:M a=Z (.lst ds)):aJ M (.ref a)=Z ds:=by simp only[aJ,h]
theorem Hx:kQ [.int i] M Q=Q (.int i) M:=by
 apply propext;constructor
 ·rintro(⟨j,e,q⟩|⟨k,e,q⟩)
  ·cases e;exact q
  ·cases e
 ·exactλq=>.inl ⟨i,rfl,q⟩
theorem Hy{b:Bool}:kQ [.bl b] M Q=Q (.int (if b then 1 else 0)) M:=by
 apply propext;constructor
 ·rintro(⟨j,e,q⟩|⟨k,e,q⟩)
  ·cases e
  ·cases e;exact q
 ·exactλq=>.inr ⟨b,rfl,q⟩
theorem Iv:wEq (.int i) (.int j) M Q=Q (.bl (i==j)) M:=by simp[wEq,rb,Mm]
theorem Iw:wNe (.int i) (.int j) M Q=Q (.bl (!(i==j))) M:=by simp[wNe,rb,Mm]
theorem E1:fj (.int i) (.int j) M Q=Q (.int (i+j)) M:=rfl
theorem Hz{a b:List D}:fj (.tup a) (.tup b) M Q=((a≠[]∨True)/\a.length+b.length<=L3/\Q (.tup (a++b)) M):=rfl
theorem HA:oW (.int i) (.int j) M Q=Q (.int (i-j)) M:=rfl
theorem wMul_i:gM (.int i) (.int j) M Q=(MulOk i j/\Q (.int (i*j)) M):=rfl
theorem HB{k:Int}:gM (.tup ds) (.int k) M Q=(-(2^63)<=k/\k<2^63/\ds.length*k.toNat<=L3/\Q (.tup (D1 k.toNat ds).flatten) M):=rfl
theorem wMul_r{k:Int}:gM (.ref a) (.int k) M Q=∃xs,M a=Z (.lst xs) /\ -(2^63)<=k/\k<2^63/\xs.length*k.toNat<=L3/\∀p,M p=Y->Q (.ref p) (af M p (.lst (D1 k.toNat xs).flatten)):=rfl
theorem GM:jC (.int i) (.int j) M Q=(0<j/\j<2^256/\Q (.int (i / j)) M):=rfl
theorem HC:oZ (.int i) (.int j) M Q=(0<j/\Q (.int (i%j)) M):=rfl
theorem HD:p8 (.int i) (.int j) M Q=(0<=j/\j<=1000000/\i.natAbs<2^64/\Q (.int (i^j.toNat)) M):=rfl
theorem Ix:wLt (.int i) (.int j) M Q=Q (.bl (decide (i<j))) M:=rfl
theorem Fp:wGt (.int i) (.int j) M Q=Q (.bl (decide (j<i))) M:=rfl
theorem Iy:wGe (.int i) (.int j) M Q=Q (.bl (decide (j<=i))) M:=rfl
theorem BG:jO (.int i) (.int j) M Q=Q (.int (i+j)) M:=rfl
theorem GN:jP (.int i) (.int j) M Q=Q (.int (i-j)) M:=rfl
theorem GO:jQ (.int i) (.int j) M Q=(MulOk i j/\Q (.int (i*j)) M):=rfl
theorem HE:pj (.int i) M Q=Q (.int (-i)) M:=rfl
theorem HF:kP [.int i] M Q=Q (.int (if i<0 then -i else i)) M:=by simp[kP]
theorem GP:jE [.int i,.int j] M Q=Q (.int (if j > i then j else i)) M:=by
 apply propext;constructor
 ·rintro⟨a,b,e,q⟩;cases e;exact q
 ·exactλq=>⟨i,j,rfl,q⟩
theorem GQ:jF [.int i,.int j] M Q=Q (.int (if j<i then j else i)) M:=by
 apply propext;constructor
 ·rintro⟨a,b,e,q⟩;cases e;exact q
 ·exactλq=>⟨i,j,rfl,q⟩
theorem HG:fq [.con ds] M Q=Q (.int ds.length) M:=by simp[fq,pF]
theorem HH:fq [.tup ds] M Q=Q (.int ds.length) M:=by simp[fq,pF]
theorem HI:aJ M (.tup ds)=Z ds:=rfl
theorem HJ:aJ M (.con ds)=Z ds:=rfl
theorem Iz{α:Sort _}{a b:α}:(if F2=F2 then a else b)=a:=rfl
theorem IA{α:Sort _}{a b:α}:(if Md=F2 then a else b)=b:=rfl
theorem GS{ta tb:TEd}{R:List D->(Mem->Prop)->Mem->Prop}:kS ta tb ρ M R=ta ρ M λx j=>tb ρ j λy M2=>∃xs ys,aJ M2 x=Z xs/\aJ M2 y=Z ys/\R (Qg ik xs ys) (λM=>aJ M x=Z xs/\aJ M y=Z ys) M2:=by
 unfold kS av;congr 1;funext x j;unfold aZ;congr 1;funext y M2;apply propext;constructor
 ·rintro⟨x',y',xs,ys,e,q⟩
  cases e;exact⟨xs,ys,q⟩
 ·rintro⟨xs,ys,q⟩;exact⟨x,y,xs,ys,rfl,q⟩
theorem HK{y:Str}:fj (.str x) (.str y) M Q=(x.length+y.length<=L3/\Q (.str (x++y)) M):=rfl
theorem HM{i}:wE Φ (.var i)=fh i:=rfl
theorem HN{i}:wE Φ (.int i)=wC (.int i):=rfl
theorem IB{b}:wE Φ (.bl b)=wC (.bl b):=rfl
theorem HP:wE Φ (.non)=wC .non:=rfl
theorem HQ{op}{a}{b}:wE Φ (.bin op a b)=wOp (opB op) (wE Φ a) (wE Φ b):=rfl
theorem HR{a}:wE Φ (.neg a)=wUn pj (wE Φ a):=rfl
theorem HS{op}{a}{b}:wE Φ (.cmp op a b)=wOp (opC op) (wE Φ a) (wE Φ b):=rfl
theorem HU{es}:wE Φ (.and es)=wAnds Φ es:=rfl
theorem IC{es}:wE Φ (.or es)=wOrs Φ es:=rfl
theorem HV{a}:wE Φ (.not a)=nO (wE Φ a):=rfl
theorem HW{c}{a}{b}:wE Φ (.ite c a b)=wIf (wT Φ c) (wE Φ a) (wE Φ b):=rfl
theorem HX{es}:wE Φ (.tup es)=wAr tJ (wA Φ es):=rfl
theorem HY{es}:wE Φ (.lst es)=wAr tK (wA Φ es):=rfl
theorem ID{a}{b}:wE Φ (.ix a b)=wOp wIx (wE Φ a) (wE Φ b):=rfl
theorem IE{a}{lo}{hi}:wE Φ (.sl a lo hi)=wSl (wE Φ a) (wO Φ lo) (wO Φ hi):=rfl
theorem GT{f}{es}:wE Φ (.call f es)=wAr (Φ f) (wA Φ es):=rfl
theorem Gr{i}{es}:wE Φ (.callC i es)=kb Φ i (wA Φ es):=rfl
theorem Gs{f}{es}{j}{cs}{js}{P}{pos}{q}:wE Φ (.callL f es j cs js P pos q)=kc Φ f (wA Φ es) j cs js P pos q:=rfl
theorem HZ{f}{es}:wE Φ (.blt f es)=wAr (opF f) (wA Φ es):=rfl
theorem GU{a}{T}:wE Φ (.isin a T)=nQ T (wE Φ a):=rfl
theorem Gu{a}{b}:wE Φ (.lrng2 a b)=jJ (av (wE Φ a) (av (wE Φ b) aZ)):=rfl
theorem GW{t}:wE Φ (.dnew t)=nY t:=rfl
theorem Gv{a}:wE Φ (.sortI a)=jY (wE Φ a):=rfl
theorem GX{o}{k}{x}:wE Φ (.dget o k x)=oi (wE Φ o) (wE Φ k) (wE Φ x):=rfl
theorem GY{m}{o}{a}:wE Φ (.meth m o a)=wBM (opM m) (wE Φ o) (av (wE Φ a) aZ):=rfl
theorem I0{o}{i}{a}:wE Φ (.ins o i a)=wBM iB (wE Φ o) (av (wE Φ i) (av (wE Φ a) aZ)):=rfl
theorem GZ{fr}{u1}{c}:wE Φ (.comp fr u1 c)=wCmp Φ fr c:=rfl
theorem H0:wA Φ (.nil)=aZ:=rfl
theorem Gw{e}{r}:wA Φ (.cons e r)=av (wE Φ e) (wA Φ r):=rfl
theorem Gx:wTl Φ (.nil)=[]:=rfl
theorem FO{t}{r}:wTl Φ (.cons t r)=wT Φ t::wTl Φ r:=rfl
theorem I8{e}:wI Φ (.seq e)=tS (wE Φ e):=rfl
theorem H8{a}:wI Φ (.rng1 a)=nS (av (wE Φ a) aZ):=rfl
theorem H9{a}{b}:wI Φ (.rng2 a b)=nT (av (wE Φ a) (av (wE Φ b) aZ)):=rfl
theorem I9{a}{b}:wI Φ (.zip a b)=kS (wE Φ a) (wE Φ b):=rfl
theorem Ha{a}:wI Φ (.enum a)=nU (wE Φ a):=rfl
theorem FQ{src}{g}{ifs}{elt}:wCl Φ (.last src g ifs elt)=dP (wI Φ src) (bG g) (br (wTl Φ ifs) (eJ (wE Φ elt))):=rfl
theorem FR{src}{g}{ifs}{rest}:wCl Φ (.more src g ifs rest)=dP (wI Φ src) (bG g) (br (wTl Φ ifs) (wCl Φ rest)):=rfl
theorem Fq{fr:List (Option Nat)}{src}{g}{ifs}{elt}:wCmp Φ fr (.last src g ifs elt)=im fr (wI Φ src) (bG g) (br (wTl Φ ifs) (eJ (wE Φ elt))):=rfl
theorem Fs{fr:List (Option Nat)}{src}{g}{ifs}{rest}:wCmp Φ fr (.more src g ifs rest)=im fr (wI Φ src) (bG g) (br (wTl Φ ifs) (wCl Φ rest)):=rfl
theorem Ia{g}{e}:wS Φ (.asg g e)=kT (wE Φ e) (bG g):=rfl
theorem Hb{gs}{e}:wS Φ (.asgL gs e)=oj (wE Φ e) (bGs gs):=rfl
theorem Ib{i}{j}{a}{b}:wS Φ (.par i j a b)=tW (av (wE Φ a) (av (wE Φ b) aZ)) (cr (cO i) (cr (cO j) j4)):=rfl
theorem Ic{o}{i}{e}:wS Φ (.put o i e)=u7 (wE Φ e) (wE Φ o) (wE Φ i):=rfl
theorem Id{i}{op}{e}:wS Φ (.aug i op e)=u8 i (opI op) (wE Φ e):=rfl
theorem Hc{o}{i}{op}{e}:wS Φ (.augI o i op e)=nX (wE Φ o) (wE Φ i) (wE Φ e) (opI op):=rfl
theorem Hd{e}:wS Φ (.drop e)=nW (wE Φ e):=rfl
theorem Ie{e}:wS Φ (.ret e)=tV (wE Φ e):=rfl
theorem Ig{c}{a}{b}:wS Φ (.ite c a b)=sIf (wT Φ c) (wSs Φ a) (wSs Φ b):=rfl
theorem Ih{g}{src}{b}:wS Φ (.for g src b)=tX (wI Φ src) (bG g) (wSs Φ b):=rfl
theorem Gy{c}{b}:wS Φ (.while c b)=jN (wT Φ c) (wSs Φ b):=rfl
theorem He:wS Φ (.pass)=jL:=rfl
theorem Ii:wS Φ (.brk)=jM:=rfl
theorem Ij:wS Φ (.cnt)=nV:=rfl
theorem Ik{e}:wT Φ (.tru e)=tO (wE Φ e):=rfl
theorem Il{op}{a}{b}:wT Φ (.cmp op a b)=gK (wOp (opC op) (wE Φ a) (wE Φ b)):=rfl
theorem Im{ts}:wT Φ (.and ts)=wAndTs Φ ts:=rfl
theorem IF{ts}:wT Φ (.or ts)=wOrTs Φ ts:=rfl
theorem Io{t}:wT Φ (.not t)=nK (wT Φ t):=rfl
theorem Et:wAndTs Φ (.nil)=λ_ _ _=>False:=rfl
theorem E2{e}:wAndTs Φ (.cons e .nil)=wT Φ e:=rfl
theorem E3{e}{f}{r}:wAndTs Φ (.cons e (.cons f r))=nM (wT Φ e) (wAndTs Φ (.cons f r)):=rfl
theorem Ft:wOrTs Φ (.nil)=λ_ _ _=>False:=rfl
theorem Eu{e}:wOrTs Φ (.cons e .nil)=wT Φ e:=rfl
theorem Ev{e}{f}{r}:wOrTs Φ (.cons e (.cons f r))=tP (wT Φ e) (wOrTs Φ (.cons f r)):=rfl
theorem Fu:wAnds Φ (.nil)=λ_ _ _=>False:=rfl
theorem Ew{e}:wAnds Φ (.cons e .nil)=wE Φ e:=rfl
theorem Ex{e}{f}{r}:wAnds Φ (.cons e (.cons f r))=nN (wE Φ e) (wAnds Φ (.cons f r)):=rfl
theorem FS:wOrs Φ (.nil)=λ_ _ _=>False:=rfl
theorem Fv{e}:wOrs Φ (.cons e .nil)=wE Φ e:=rfl
theorem Fw{e}{f}{r}:wOrs Φ (.cons e (.cons f r))=tQ (wE Φ e) (wOrs Φ (.cons f r)):=rfl
theorem Gz{i}:bG (.name i)=cO i:=rfl
theorem Hf{gs}:bG (.tup gs)=yC (bGs gs):=rfl
theorem GA:bGs (.nil)=j4:=rfl
theorem FT{g}{r}:bGs (.cons g r)=cr (bG g) (bGs r):=rfl
theorem GB:wO Φ (.none)=ii:=rfl
theorem GC{e}:wO Φ (.some e)=nP (wE Φ e):=rfl
theorem Hg:opB (.add)=fj:=rfl
theorem Hh:opB (.sub)=oW:=rfl
theorem Hi:opB (.mul)=gM:=rfl
theorem GD:opB (.fdiv)=jC:=rfl
theorem Hj:opB (.mod)=oZ:=rfl
theorem Hk:opB (.pow)=p8:=rfl
theorem Hl:opB (.ext)=fj:=rfl
theorem Ip:opC (.eq)=wEq:=rfl
theorem Iq:opC (.ne)=wNe:=rfl
theorem Ir:opC (.lt)=wLt:=rfl
theorem Is:opC (.gt)=wGt:=rfl
theorem Iu:opC (.ge)=wGe:=rfl
theorem Hm:opC (.inS)=uh:=rfl
theorem GE:opC (.ninD)=ui F2:=rfl
theorem Hn:opF (.len)=fq:=rfl
theorem Ho:opF (.abs)=kP:=rfl
theorem GF:opF (.max2)=jE:=rfl
theorem GG:opF (.min2)=jF:=rfl
theorem Hq:opF (.int)=kQ:=rfl
theorem GH:opF (.list)=nJ:=rfl
theorem FU:opF (.tuple)=jG:=rfl
theorem Hr:opF (.all)=pU:=rfl
theorem FV:opF (.sorts)=jZ:=rfl
theorem Fx:opM (.append)=ij:=rfl
theorem Hs:opI (.add)=jO:=rfl
theorem Ht:opI (.sub)=jP:=rfl
theorem Hu:opI (.mul)=jQ:=rfl
theorem Hv:opI (.ext)=oo:=rfl
local macro_rules|`(tactic| ac_nf)=>do
 let f:=fun(n:Lean.Name)(s:String)=>(s.splitOn " ").toArray.map fun x=>(⟨(Lean.mkIdent (n++x.toName)).raw⟩:Lean.Term)
 let a:=f `_root_.L2.Mi "tH fh wC wOp wUn aZ av wAr gK tJ tK tO nK nM tP nN tQ nO wIf ii nP wSl nQ wBM cO j4 cr yC tS nS nT jJ nU eJ br dP im jL yI jM nV nW tV sIf kT tW tX jN u7 u8 nX nY jY oi oj sB GJ GK Hx Hy Iv Iw E1 Hz HA wMul_i HB GM HC HD Ix Fp Iy BG GN GO HE HF GP GQ HG HH HI HJ Iz IA GS HK HM HN IB HP HQ HR HS HU IC HV HW HX HY ID IE GT Gr Gs HZ GU Gu GW Gv GX GY I0 GZ H0 Gw Gx FO I8 H8 H9 I9 Ha FQ FR Fq Fs Ia Hb Ib Ic Id Hc Hd Ie Ig Ih Gy He Ii Ij Ik Il Im IF Io Et E2 E3 Ft Eu Ev Fu Ew Ex FS Fv Fw Gz Hf GA FT GB GC Hg Hh Hi GD Hj Hk Hl Ip Iq Ir Is Iu Hm GE Hn Ho GF GG Hq GH FU Hr FV Fx Hs Ht Hu Hv"
 let b1:=a++f .anonymous "Sb OG U5 U6 OF Oj Sd UW UX Lc OR Mf ND"
 let b2:=a++f .anonymous "N3 if_false if_true Sb OG U5 U6 Uo exists_eq_left' exists_eq_left exists_eq_right exists_and_left exists_and_right D.bl.injEq D.int.injEq D.ref.injEq D.tup.injEq OF Oj Sd UW UX Lc OR decide_eq_true_eq P4 and_true true_and Mf ND"
 `(tactic| ((try dsimp only[$[$b1:term],*]);(try simp only[$[$b2:term],*])))
local macro_rules|`(tactic| nofun)=>`(tactic| ((first|rw[bQ]|(dsimp only;rw[bQ]));ac_nf))
theorem wV{t:Bool}{kvs:List (D×D)}{k d:D}(h:M a=Z (.dct t kvs))(ok:eI t k=F2)(e:dget kvs k=Z d)(q:Q d M):wIx (.ref a) k M Q:=.inr (.inl ⟨t,kvs,d,h,ok,e,q⟩)
theorem qw{t:Bool}{kvs:List (D×D)}{k v:D}{Q:Mem->Prop}(h:M a=Z (.dct t kvs))(ok:eI t k=F2)(j:kvs.length<L3)(q:Q (af M a (.dct t (fe kvs k v)))):fZ (.ref a) k v M Q:=⟨a,rfl,.inr ⟨t,kvs,h,ok,j,q⟩⟩
theorem wW{o':O}:af (af M a o) a o'=af M a o':=by funext b;unfold af;split<;>rfl
theorem wX(h:M a=Z o):af M a o=M:=by
 funext b;unfold af;split
 ·next e=>rw[e,h]
 ·rfl
def Ge(M M':Mem):Prop:=∀a o,M a=Z o->M' a=Z o
theorem Ge.refl:Ge M M:=λ_ _ h=>h
theorem Ge.trans(h:Ge M M')(g:Ge M' M''):Ge M M'':=λ_ _ e=>g _ _ (h _ _ e)
theorem Ge.new(h:M p=Y):Ge M (af M p o):=λa o' e=>by rw[aD (λz=>by rw[z,h]at e;cases e)];exact e
def Box(b:N2)(M:Mem):Prop:=∃x y z:Int,M b=Z (.lst [.int x,.int y,.int z])
structure Bx(b:N2)(M M':Mem):Prop where
 box:Box b M'
 keep:∀a o,a≠b->M a=Z o->M' a=Z o
theorem Bx.refl(h:Box b M):Bx b M M:=⟨h,λ_ _ _ e=>e⟩
theorem Bx.trans(h:Bx b M M')(g:Bx b M' M''):Bx b M M'':=⟨g.box,λa o n e=>g.keep a o n (h.keep a o n e)⟩
theorem Bx.ge(h:Bx b M M')(g:Ge M' M''):Bx b M M'':=⟨by obtain⟨x,y,z,e⟩:=h.box;exact⟨x,y,z,g _ _ e⟩,λa o n e=>g _ _ (h.keep a o n e)⟩
theorem Bx.put{x:Int}:Bx b M (af M b (.lst [.int x,.int y,.int z])):=⟨⟨x,y,z,ab⟩,λa o n e=>by rw[aD n];exact e⟩
theorem Bx.of(h:Box b M)(g:Ge M M'):Bx b M M':=(Bx.refl h).ge g
theorem ng{b:BT}{chk:Mem->Prop}{N:NC}(I:List D->au->Mem->List D->Prop){acc:List D}(h0:I [] ρ M acc)(z:∀l ρ M acc,I l ρ M acc->chk M)(hs:∀l x r ρ M acc,xs=l++x::r->I l ρ M acc->∃ρ',b x ρ=Z ρ'/\∀N':NC,(∀ρ2 M2 j,I (l++[x]) ρ2 M2 j->N' ρ2 M2 j)->tb ρ' M acc N')(B:∀ρ M acc,I xs ρ M acc->N ρ M acc):cw b tb chk N xs ρ M acc:=by
 have g:∀(r l:List D) (ρ:au) (M:Mem) (acc:List D),xs=l++r->I l ρ M acc->cw b tb chk N r ρ M acc:=by
  intro r
  induction r with
  |nil=>intro l ρ M acc e i;rw[MJ]at e;subst e;exact⟨z _ _ _ _ i,B _ _ _ i⟩
  |cons x r ih=>intro l ρ M acc e i;obtain⟨ρ',e1,h⟩:=hs l x r ρ M acc e i;exact⟨z _ _ _ _ i,ρ',e1,h _ λρ2 M2 j F=>ih (l++[x]) ρ2 M2 j (by rw[e];simp) F⟩
 exact g xs [] ρ M acc rfl h0
section
theorem zz{i j:Nat}{gs:List D}(F:1<=n)(hi:i<1000)(z:j<1000)(e:T[i]?=Z d)(B:d.takes)(l:xs.length+1=d.np)(r:bS d.N (xs++[.ref a])=ρ)(h:wSs (da (phi T (n-1)) a (rOf (phi T (n-1)) j gs js)) d.body {nx:=λ_ M'=>Q .non M',rt:=Q} ρ M):phi T n (1000+i) (xs++[.ref a,.int (j:Nat),.tup gs,.tup ((js:List Nat).map λi:Nat=>.int i)]) M Q:=by
 obtain⟨k,rfl⟩:∃k,n=k+1:=⟨n-1,∅⟩
 exact .inr (.inl ⟨i,d,xs,a,j,gs,js,rfl,hi,z,e,B,rfl,l,by rw[r];exact h⟩)
theorem lg(h:Φ f ds M Q)(hf:f<5000:=by decide):da Φ a r f ds M Q:=by unfold da;rw[if_neg ∅];exact h
theorem BH(h:r ds M Q):da Φ a r (5000+a) ds M Q:=by unfold da;rw[if_pos rfl];exact h
theorem BI{j:Nat}(B:1<=n)(z:j<3000)(h:phi T (n-1) j ds M Q):phi T n (2000+j) ds M Q:=by
 obtain⟨k,rfl⟩:∃k,n=k+1:=⟨n-1,∅⟩
 exact .inr (.inr ⟨j,rfl,z,h⟩)
end
section
variable{T:List FD}
noncomputable def kl(s:Stmt):FD:=⟨"_law_cell_at",s,["_law_script","_law_k"],2,
 (.cons (.ite (.cmp .lt (.var 1) (.blt .len (.cons (.var 0) .nil))) (.cons (.ret (.ix (.var 0) (.var 1)))
 .nil) .nil)
 (.cons (.ret (.int 0))
 .nil))⟩
theorem zA{α:Type}{xs:List α}(h0:0<=i)(h1:i<xs.length):∃x,atI xs i=Z x/\xs[i.toNat]?=Z x:=by
 have:i.toNat<xs.length:=∅
 refine⟨xs[i.toNat],?_,tv this⟩;unfold atI ixN;simp[h0,h1,tv this]
theorem BJ(hf:T[f]?=Z (kl s))(j:1<=n){k:Int}(h0:0<=k)(q:∀i,Q (.int i) M):phi T n f [.con (ns.map D.int),.int k] M Q:=by
 refine aB j hf rfl (ρ:=[Z _,Z _]) rfl ?_;unfold kl;nofun
 split
 ·next h=>
  nofun;obtain⟨x,e,e2⟩:=zA (xs:=ns.map D.int) h0 h;rw[L8]at e2
  cases e3:ns[k.toNat]? with
  |none=>rw[e3]at e2;cases e2
  |some y=>rw[e3]at e2;cases e2;exact⟨_,e,q y⟩
 ·nofun;exact q 0
theorem bT(h:-(2^64)<i/\i<2^64):MulOk i j:=.inl h
theorem lh(h:-(2^64)<j/\j<2^64):MulOk i j:=.inr (.inl h)
noncomputable def lj(s:Stmt):FD:=⟨"_law_mixed",s,["_law_number_here","_law_k","_law_once","_law_twice"],2,
 (.cons (.asg (.name 2) (.bin .mod (.bin .mul (.bin .add (.bin .add (.bin .mod (.var 0) (.int 1000000007)) (.bin .mul (.int 7) (.var 1))) (.int 1)) (.int 48271)) (.int 2147483647)))
 (.cons (.asg (.name 3) (.bin .mod (.bin .mul (.var 2) (.bin .add (.bin .add (.bin .mod (.var 2) (.int 1009)) (.var 1)) (.int 3))) (.int 998244353)))
 (.cons (.ret (.bin .fdiv (.bin .mod (.bin .add (.bin .mul (.var 3) (.int 39373)) (.var 2)) (.int 2147483629)) (.int 64)))
 .nil)))⟩
noncomputable def uI(s:Stmt)(fc fm:Nat):FD:=⟨"_law_box",s,["_law_script","_law_k","_law_cell"],2,
 (.cons (.asg (.name 2) (.call fc (.cons (.var 0) (.cons (.var 1) .nil))))
 (.cons (.ret (.lst (.cons (.bin .mul (.blt .abs (.cons (.var 2) .nil)) (.blt .int (.cons (.cmp .ge (.blt .abs (.cons (.var 2) .nil)) (.bin .pow (.int 10) (.int 18))) .nil))) (.cons (.call fm (.cons (.var 2) (.cons (.bin .add (.int 900) (.var 1)) .nil))) (.cons (.int 0) .nil)))))
 .nil))⟩
theorem E4{fc fm:Nat}{sc:Stmt}(hf:T[f]?=Z (uI s fc fm))(z:T[fc]?=Z (kl sc))(B:∀{x k:Int} {M:Mem} {Q:QD},(∀i,Q (.int i) M)->phi T (n-1) fm [.int x,.int k] M Q)(G:2<=n){k:Int}(h0:0<=k)(q:∀p x y,M p=Y->Q (.ref p) (af M p (.lst [.int x,.int y,.int 0]))):phi T n f [.con (ns.map D.int),.int k] M Q:=by
 refine aB ∅ hf rfl (ρ:=[Z _,Z _,Y]) rfl ?_
 unfold uI;nofun;refine BJ z ∅ h0 λi=>?_
 nofun;refine⟨by decide,by decide,by decide,lh ?_,?_⟩
 ·split<;>lia
 refine B λj=>?_;exact⟨by rw[D2];lia,λp F=>q p _ _ F⟩
noncomputable def qz(s:Stmt)(fm:Nat):FD:=⟨"_law_take",s,["_law_box_here","_law_many","_law_found","_law_reach"],2,
 (.cons (.ite (.cmp .gt (.ix (.var 0) (.int 0)) (.int 0)) (.cons (.asg (.name 2) (.bin .mod (.ix (.var 0) (.int 0)) (.var 1)))
 (.cons (.put (.var 0) (.int 0) (.bin .fdiv (.ix (.var 0) (.int 0)) (.var 1)))
 (.cons (.ret (.var 2))
 .nil))) .nil)
 (.cons (.asg (.tup (.cons (.name 2) (.cons (.name 3) .nil))) (.tup (.cons (.int 0) (.cons (.int 1) .nil))))
 (.cons (.while (.cmp .lt (.var 3) (.var 1)) (.cons (.put (.var 0) (.int 2) (.bin .add (.ix (.var 0) (.int 2)) (.int 1)))
 (.cons (.asg (.name 2) (.bin .add (.bin .mul (.var 2) (.int 33554432)) (.call fm (.cons (.ix (.var 0) (.int 1)) (.cons (.ix (.var 0) (.int 2)) .nil)))))
 (.cons (.asg (.name 3) (.bin .mul (.var 3) (.int 33554432)))
 .nil))))
 (.cons (.ret (.bin .mod (.var 2) (.var 1)))
 .nil))))⟩
def uJ(T:List FD)(n fm:Nat):Prop:=∀{x k:Int} {M:Mem} {Q:QD},(∀i,Q (.int i) M)->phi T n fm [.int x,.int k] M Q
theorem BK{fm:Nat}(hf:T[f]?=Z (qz s fm))(J:uJ T (n-1) fm)(O:2<=n){m:Int}(L:Box b M)(h1:0<m)(h2:m<=2^120)(q:∀r M',0<=r->r<m->Bx b M M'->Q (.int r) M'):phi T n f [.ref b,.int m] M Q:=by
 refine aB ∅ hf rfl (ρ:=[Z _,Z _,Y,Y]) rfl ?_
 unfold qz;obtain⟨x,y,z,G⟩:=L;nofun;refine aS G (d:=.int x) rfl ?_;simp only[Fp];ac_nf
 split
 ·next hx=>
  nofun;refine aS G (d:=.int x) rfl ?_;ac_nf;refine⟨h1,?_⟩;nofun;refine aS G (d:=.int x) rfl ?_;ac_nf;refine⟨h1,∅,?_⟩
  refine cb G (j:=0) rfl ?_;nofun;exact q _ _ (QT _ ∅) (PY _ h1) Bx.put
 ·next hx=>
  nofun;refine⟨by rw[D2];lia,?_⟩
  nofun;refine⟨6,?_⟩;have go:∀(f:Nat) (found reach z:Int) (M':Mem),m<=reach*33554432^f->M' b=Z (.lst [.int x,.int y,.int z])->Bx b M M'->
   aR (gK (wOp wLt (fh 3) (fh 1))) (wSs (phi T (n-1)) (MSs.cons (MS.put (ME.var 0) (ME.int 2) (ME.bin BOp.add ((ME.var 0).ix (ME.int 2)) (ME.int 1)))
    (MSs.cons (MS.asg (MG.name 2) (ME.bin BOp.add (ME.bin BOp.mul (ME.var 2) (ME.int 33554432)) (ME.call fm (MEs.cons ((ME.var 0).ix (ME.int 1)) (MEs.cons ((ME.var 0).ix (ME.int 2)) MEs.nil)))))
      (MSs.cons (MS.asg (MG.name 3) (ME.bin BOp.mul (ME.var 3) (ME.int 33554432))) MSs.nil))))
    {nx:=wSs (phi T (n-1)) (MSs.cons (MS.ret (ME.bin BOp.mod (ME.var 2) (ME.var 1))) MSs.nil) {nx:=λx M'=>Q D.non M',rt:=Q},rt:=Q} (f+1) [Z (.ref b),Z (.int m),Z (.int found),Z (.int reach)] M':=by
   intro f
   induction f with
   |zero=>
    intro found reach z M' hm F B;simp only[aR];ac_nf;rw[if_neg ∅]
    nofun;exact⟨h1,q _ _ (QT _ ∅) (PY _ h1) B⟩
   |succ f ih=>
    intro found reach z M' hm F B;rw[aR];ac_nf
    split
    ·next U=>
     nofun;refine aS F (d:=.int z) rfl ?_;ac_nf;refine cb F (j:=2) rfl ?_;nofun;refine⟨lh (by decide),?_⟩
     refine aS ab (d:=.int y) rfl ?_;refine aS ab (d:=.int (z+1)) rfl ?_;refine J λi=>?_;ac_nf;nofun;refine⟨lh (by decide),?_⟩
     exact ih _ _ (z+1) _ (by rw[Int.mul_assoc,<-Int.pow_succ'];exact hm) ab (B.trans Bx.put)
    ·nofun;exact⟨h1,q _ _ (QT _ ∅) (PY _ h1) B⟩
  exact go 5 0 1 z M ∅ G (Bx.refl ⟨x,y,z,G⟩)
def km(T:List FD)(n f:Nat):Prop:=∀{b:N2} {m:Int} {M:Mem} {Q:QD},Box b M->0<m->m<=2^120->(∀r M',0<=r->r<m->Bx b M M'->Q (.int r) M')->phi T n f [.ref b,.int m] M Q
noncomputable def jf(s:Stmt)(ft:Nat):FD:=⟨"_law_number",s,["_law_box_here","_law_way"],1,
 (.cons (.asg (.name 1) (.call ft (.cons (.var 0) (.cons (.int 9) .nil))))
 (.cons (.ite (.cmp .eq (.var 1) (.int 0)) (.cons (.ret (.bin .sub (.call ft (.cons (.var 0) (.cons (.int 2001) .nil))) (.int 1000)))
 .nil) .nil)
 (.cons (.ret (.ix (.lst (.cons (.int 0) (.cons (.int 0) (.cons (.int 0) (.cons (.int 1) (.cons (.int 1) (.cons (.int 1) (.cons (.neg (.int 1)) (.cons (.neg (.int 1)) (.cons (.int 2) .nil)))))))))) (.var 1)))
 .nil)))⟩
theorem wY(hf:T[f]?=Z (jf s ft))(j:km T (n-1) ft)(U:1<=n)(G:Box b M)(q:∀r M',-1000<=r->r<=1000->Bx b M M'->Q (.int r) M'):phi T n f [.ref b] M Q:=by
 refine aB ∅ hf rfl (ρ:=[Z _,Y]) rfl ?_
 unfold jf;nofun;refine j G (by decide) (by decide) λr Fn h0 h1 B=>?_
 nofun
 split
 ·nofun;refine j B.box (by decide) (by decide) λfv M2 h0 h1 J=>?_
  ac_nf;exact q _ _ ∅ ∅ (B.trans J)
 ·next F=>
  nofun;refine⟨by rw[D2];lia,λp L=>?_⟩
  have F:r=1∨r=2∨r=3∨r=4∨r=5∨r=6∨r=7∨r=8:=by
   have:r≠0:=λz=>F (by rw[z];rfl)
   lia
  have O:=B.ge (Ge.new (o:=.lst [.int 0,.int 0,.int 0,.int 1,.int 1,.int 1,.int (-1),.int (-1),.int 2]) L)
  rcases F with rfl|rfl|rfl|rfl|rfl|rfl|rfl|rfl<;>exact aS ab rfl (q _ _ (by decide) (by decide) O)
end
section
variable{T:List FD}
def qA(T:List FD)(n f:Nat):Prop:=∀{b:N2} {M:Mem} {Q:QD},Box b M->(∀r M',-1000<=r->r<=1000->Bx b M M'->Q (.int r) M')->phi T n f [.ref b] M Q
def cU(ns:List Int):Prop:=∀x∈ns,-1000<=x/\x<=1000
theorem dH{lo:Int}:(cn lo n).length=n:=by simp[cn]
theorem aI{α:Type}{xs l r:List α}{x:α}(e:xs=l++x::r):l.length<xs.length:=by rw[e];simp
theorem nh{α:Type}{xs l r:List α}{x:α}(e:xs=l++x::r):xs[l.length]?=Z x:=by rw[e];simp
noncomputable def qB(s:Stmt)(fn:Nat):FD:=⟨"_law_part",s,["_law_box_here","_law_length"],2,
 (.cons (.ret (.blt .tuple (.cons (.comp [Y,(Z 0)] ["_law_k","_law_box_here"] (.last (.rng1 (.var 1)) (.name 0) .nil (.call fn (.cons (.var 1) .nil)))) .nil)))
 .nil)⟩
theorem BM{fn:Nat}(hf:T[f]?=Z (qB s fn))(B:qA T (n-1) fn)(Fn:1<=n)(fv:L<=1000)(F:Box b M)(q:∀(ns:List Int) M',ns.length=L->cU ns->Bx b M M'->Q (.tup (ns.map .int)) M'):phi T n f [.ref b,.int L] M Q:=by
 refine aB ∅ hf rfl (ρ:=[Z _,Z _]) rfl ?_
 unfold qB;nofun;refine⟨∅,∅,?_⟩
 refine ng (I:=λl ρ M' acc=>∃(ns:List Int) (x:Option D),acc=ns.map .int/\ns.length=l.length/\cU ns/\Bx b M M'/\ρ=[x,Z (.ref b)]) ⟨[],Y,rfl,rfl,λ_ h=>by simp at h,Bx.refl F,rfl⟩ (λ_ _ _ _ _=>trivial) ?_ ?_
 ·rintro l x r ρ M1 acc e ⟨ns,o,rfl,j,hs,z,rfl⟩;refine⟨_,rfl,λN' G=>?_⟩;ac_nf;refine B z.box λv M2 h1 h2 J=>?_;have:=aI e;rw[dH]at this;refine⟨by rw[r0,j,D2];lia,G _ _ _ ⟨ns++[v],_,by simp,by simp[j],?_,z.trans J,rfl⟩⟩
  intro y O
  rcases Ld.mp O with h|h
  ·exact hs y h
  ·simp at h;subst h;exact⟨h1,h2⟩
 ·rintro ρ M1 acc ⟨ns,o,rfl,j,hs,z,rfl⟩ p U;rw[dH]at j;refine⟨_,ns.map .int,rfl,ah ab,q ns _ ∅ hs (z.ge (Ge.new U))⟩
noncomputable abbrev Pr:=List Int×List Int×List Int
noncomputable def prD(p:Pr):D:=.tup [.tup (p.1.map .int),.tup (p.2.1.map .int),.tup (p.2.2.map .int)]
noncomputable def ll(p:Pr):MP:=.tuple [.tuple (p.1.map .int),.tuple (p.2.1.map .int),.tuple (p.2.2.map .int)]
structure uK(L0 L1 L2:Nat)(p:Pr):Prop where
 l0:p.1.length=L0
 l1:p.2.1.length=L1
 l2:p.2.2.length=L2
 s0:cU p.1
 s1:cU p.2.1
 s2:cU p.2.2
theorem lp{k:Nat}{M:Mem}:∀ns:List Int,aA (rb k M) (ns.map D.int)=Z (ns.map PyData.int)
 |[]=>rfl
 |x::r=>by
  have e:rb k M (.int x)=Z (.int x):=by cases k<;>rfl
  simp[aA,e,lp r]
theorem Fy{k:Nat}(p:Pr):rb (k+2) M (prD p)=Z (ll p):=by simp[rb,prD,ll,aA,lp]
theorem wZ{k:Nat}{M:Mem}:∀ps:List Pr,aA (rb (k+2) M) (ps.map prD)=Z (ps.map ll)
 |[]=>rfl
 |p::r=>by simp[aA,Fy,wZ r]
theorem xf{k:Nat}(h:M a=Z (.lst ds)):rb (k+1) M (.ref a)=(aA (rb k M) ds).map V6:=by simp only[rb,h]
theorem eh{s:MS}{r:MSs}(I:au->Mem->Prop)(h1:∀R:au->Mem->Prop,(∀ρ M,I ρ M->R ρ M)->wS Φ s {E with nx:=R} ρ M)(h2:∀ρ M,I ρ M->wSs Φ r E ρ M):wSs Φ (.cons s r) E ρ M:=by rw[bQ];exact h1 _ h2
theorem Bx.upd{q:N2}(h:Bx b M M')(B:M q=Y)(j:q≠b):Bx b M (af M' q o):=
 ⟨by obtain⟨x,y,z,e⟩:=h.box;exact⟨x,y,z,by rw[aD j.symm];exact e⟩,fun u o' nu eu=>by rw[aD (λz=>by rw[z,B]at eu;cases eu)];exact h.keep u o' nu eu⟩
theorem Bx.none{q:N2}(h:Bx b M M')(z:M' q=Y)(j:q≠b):M q=Y:=by
 cases e:M q with
 |none=>rfl
 |some o=>rw[h.keep q o j e]at z;cases z
theorem zB{k:Nat}:(D1 k [D.int 0]).flatten=(D1 k (0:Int)).map D.int:=by
 induction k with
 |zero=>rfl
 |succ k ih=>rw[Mr,Mv,ih];rfl
def xg(T:List FD)(n f:Nat):Prop:=∀{b:N2} {L:Nat} {M:Mem} {Q:QD},L<=1000->Box b M->(∀(ns:List Int) M',ns.length=L->cU ns->Bx b M M'->Q (.tup (ns.map .int)) M')->phi T n f [.ref b,.int L] M Q
end
section
theorem aP{α:Type}{f:α->D}{b:BT}{chk:Mem->Prop}{N:NC}(I:List α->au->Mem->List D->Prop){ys:List α}(hx:xs=ys.map f){acc:List D}(h0:I [] ρ M acc)(z:∀l ρ M acc,I l ρ M acc->chk M)(hs:∀l x r ρ M acc,ys=l++x::r->I l ρ M acc->∃ρ',b (f x) ρ=Z ρ'/\∀N':NC,(∀ρ2 M2 j,I (l++[x]) ρ2 M2 j->N' ρ2 M2 j)->tb ρ' M acc N')(B:∀ρ M acc,I ys ρ M acc->N ρ M acc):cw b tb chk N xs ρ M acc:=by
 subst hx;have g:∀(r l:List α) (ρ:au) (M:Mem) (acc:List D),ys=l++r->I l ρ M acc->cw b tb chk N (r.map f) ρ M acc:=by
  intro r
  induction r with
  |nil=>intro l ρ M acc e i;rw[MJ]at e;subst e;exact⟨z _ _ _ _ i,B _ _ _ i⟩
  |cons x r ih=>intro l ρ M acc e i;obtain⟨ρ',e1,h⟩:=hs l x r ρ M acc e i;exact⟨z _ _ _ _ i,ρ',e1,h _ λρ2 M2 j F=>ih (l++[x]) ρ2 M2 j (by rw[e];simp) F⟩
 exact g ys [] ρ M acc rfl h0
theorem bw{α:Type}{f:α->D}{b:BT}{tb:TSd}{chk:Mem->Prop}(I:List α->au->Mem->Prop){ys:List α}(hx:xs=ys.map f)(h0:I [] ρ M)(j:∀l ρ M,I l ρ M->chk M)(hs:∀l x r ρ M,ys=l++x::r->I l ρ M->∃ρ',b (f x) ρ=Z ρ'/\∀F:au->Mem->Prop,(∀ρ2 M2,I (l++[x]) ρ2 M2->F ρ2 M2)->tb {E with nx:=F,ct:=F,bk:=E.nx} ρ' M)(z:∀ρ M,I ys ρ M->E.nx ρ M):bY b tb chk E xs ρ M:=by
 subst hx;have g:∀(r l:List α) (ρ:au) (M:Mem),ys=l++r->I l ρ M->bY b tb chk E (r.map f) ρ M:=by
  intro r
  induction r with
  |nil=>intro l ρ M e i;rw[MJ]at e;subst e;exact⟨j _ _ _ i,z _ _ i⟩
  |cons x r ih=>intro l ρ M e i;obtain⟨ρ',e1,h⟩:=hs l x r ρ M e i;exact⟨j _ _ _ i,ρ',e1,h _ λρ2 M2 B=>ih (l++[x]) ρ2 M2 (by rw[e];simp) B⟩
 exact g ys [] ρ M rfl h0
theorem sC{x:D}(h:aJ M x=Z ds)(g:Ge M M'):aJ M' x=Z ds:=by
 cases x with
 |ref a=>
  simp only[aJ]at h⊢
  split at h
  ·next e=>rw[g _ _ e];exact h
  ·cases h
 |_=>exact h
theorem be:cn 0 n=(z4 n).map λi=>D.int (i:Nat):=by simp[cn]
end
section
variable{T:List FD}
def Big(ns:List Int):Prop:=∀x∈ns,-1000000000000<=x/\x<=1000000000000
noncomputable def uL(s:Stmt)(ft:Nat):FD:=⟨"_law_row",s,["_law_box_here","_law_length","_law_most"],2,
 (.cons (.asg (.name 2) (.ix (.lst (.cons (.int 9) (.cons (.int 9) (.cons (.int 9) (.cons (.bin .pow (.int 10) (.int 12)) .nil))))) (.call ft (.cons (.var 0) (.cons (.int 4) .nil)))))
 (.cons (.ret (.comp [Y,(Z 0),(Z 2)] ["_law_k","_law_box_here","_law_most"] (.last (.rng1 (.var 1)) (.name 0) .nil (.bin .sub (.call ft (.cons (.var 1) (.cons (.bin .add (.bin .mul (.int 2) (.var 2)) (.int 1)) .nil))) (.var 2)))))
 .nil))⟩
def An(T:List FD)(n f:Nat):Prop:=∀{b:N2} {L:Nat} {M:Mem} {Q:QD},L<=1000->Box b M->
 (∀(ns:List Int) p M',ns.length=L->Big ns->Bx b M M'->M p=Y->M' p=Z (.lst (ns.map .int))->Q (.ref p) M')->phi T n f [.ref b,.int L] M Q
theorem E5(hf:T[f]?=Z (uL s ft))(F:km T (n-1) ft)(hn:1<=n):An T n f:=by
 intro b L M Q hL fv q;refine aB ∅ hf rfl (ρ:=[Z _,Z _,Y]) rfl ?_
 unfold uL;nofun;refine⟨by decide,by decide,by decide,by rw[D2];lia,λp hp=>?_⟩
 have g0:=Ge.new (o:=.lst [.int 9,.int 9,.int 9,.int (10^(12:Int).toNat)]) hp;have O:p≠b:=λz=>by obtain⟨x,y,w,e⟩:=fv;rw[<-z,hp]at e;cases e
 have x0:=Bx.of fv g0;refine F x0.box (by decide) (by decide) λw M1 w0 w1 j=>?_
 have U:=j.keep p _ O ab;have hw:∃m:Int,0<=m/\m<=1000000000000/\atI [D.int 9,.int 9,.int 9,.int (10^(12:Int).toNat)] w=Z (.int m):=by
  have:w=0∨w=1∨w=2∨w=3:=∅
  rcases this with rfl|rfl|rfl|rfl
  ·exact⟨9,by decide,by decide,rfl⟩
  ·exact⟨9,by decide,by decide,rfl⟩
  ·exact⟨9,by decide,by decide,rfl⟩
  ·exact⟨_,by decide,by decide,rfl⟩
 obtain⟨m,m0,m1,em⟩:=hw;refine aS U em ?_;have Fn:=x0.trans j;nofun;refine⟨∅,∅,?_⟩
 refine ng (I:=λl ρ M' acc=>∃(ns:List Int) (x:Option D),acc=ns.map .int/\ns.length=l.length/\Big ns/\Bx b M M'/\ρ=[x,Z (.ref b),Z (.int m)]) ⟨[],Y,rfl,rfl,λ_ h=>by simp at h,Fn,rfl⟩ (λ_ _ _ _ _=>trivial) ?_ ?_
 ·rintro l x r ρ M1 acc e ⟨ns,o,rfl,J,hs,j,rfl⟩;refine⟨_,rfl,λN' hN=>?_⟩;ac_nf;refine⟨bT (by decide),?_⟩
  refine F j.box ∅ ∅ λv M2 h1 h2 x2=>?_
  ac_nf;have:=aI e;rw[dH]at this;refine⟨by rw[r0,J,D2];lia,hN _ _ _ ⟨ns++[v-m],_,by simp,by simp[J],?_,j.trans x2,rfl⟩⟩
  intro y hy
  rcases Ld.mp hy with h|h
  ·exact hs y h
  ·simp at h;subst h;lia
 ·rintro ρ M1 acc ⟨ns,o,rfl,J,hs,j,rfl⟩ p2 B;rw[dH]at J;have G:p2≠b:=λz=>by obtain⟨x,y,w,e⟩:=j.box;rw[<-z,B]at e;cases e
  exact q ns p2 _ ∅ hs (j.ge (Ge.new B)) (j.none B G) ab
end
section
variable{T:List FD}
noncomputable def qC(x:Str)(s:Stmt):FD:=⟨"_law_mixed",s,[x,"_law_k","_law_once","_law_twice"],2,(lj s).body⟩
theorem xh(hf:T[f]?=Z (qC x s))(j:1<=n):uJ T n f:=by
 intro x k M Q q;refine aB j hf rfl (ρ:=[Z _,Z _,Y,Y]) rfl ?_;unfold qC lj;nofun;refine⟨by decide,bT (by decide),lh (by decide),by decide,?_⟩
 nofun;refine⟨by decide,bT ?_,by decide,?_⟩
 ·have h1:=QT ((x%1000000007+7*k+1)*48271) (b:=2147483647) (by decide)
  have h2:=PY ((x%1000000007+7*k+1)*48271) (b:=2147483647) (by decide)
  lia
 nofun;refine⟨lh (by decide),by decide,by decide,by decide,?_⟩
 exact q _
end
section
open L2.Srt
variable{T:List FD}
noncomputable abbrev K3:=Int×Int×Int
noncomputable abbrev Tm:=K3×Int
noncomputable def k3D(k:K3):D:=.tup [.int k.1,.int k.2.1,.int k.2.2]
noncomputable def tmD(t:Tm):D:=.tup [.int t.1.1,.int t.1.2.1,.int t.1.2.2,.int t.2]
noncomputable def kcD(t:Tm):D×D:=(k3D t.1,.int t.2)
noncomputable def k3K(k:K3):Ky:=.tup [.int k.1,.int k.2.1,.int k.2.2]
def klt(a b:K3):Prop:=ltK (k3K a) (k3K b)=F2
theorem lr{a b:K3}(h:k3D a=k3D b):a=b:=by obtain⟨a1,a2,j⟩:=a;obtain⟨z,B,F⟩:=b;simp[k3D]at h;simp[h]
theorem BN{a b:K3}(h:k3K a=k3K b):a=b:=by obtain⟨a1,a2,j⟩:=a;obtain⟨z,B,F⟩:=b;simp[k3K]at h;simp[h]
noncomputable def cf(ts:List Tm)(k:K3):Int:=((ts.filter λt=>decide (t.1=k)).map (·.2)).sum
theorem fK{k:K3}:cf [] k=0:=rfl
theorem b9{t:Tm}{ts:List Tm}{k:K3}:cf (t::ts) k=(if t.1=k then t.2 else 0)+cf ts k:=by
 unfold cf
 by_cases h:t.1=k
 ·rw[Q5 (by simpa using h),if_pos h];simp
 ·rw[Q7 (by simpa using h),if_neg h];simp
theorem hZ{a b:List Tm}{k:K3}:cf (a++b) k=cf a k+cf b k:=by
 induction a with
 |nil=>simp[fK]
 |cons t a ih=>rw[Pu,b9,b9,ih];lia
theorem BO{a b:List Tm}(h:a.Perm b){k:K3}:cf a k=cf b k:=by
 induction h with
 |nil=>rfl
 |cons x h ih=>rw[b9,b9,ih]
 |swap x y l=>simp only[b9];lia
 |trans _ _ j z=>rw[j,z]
theorem iG{ts:List Tm}{k:K3}(h:∀t∈ts,t.1≠k):cf ts k=0:=by
 induction ts with
 |nil=>rfl
 |cons t ts ih=>rw[b9,if_neg (h t (by simp)),ih λu j=>h u (by simp[j])];rfl
theorem qD{ts:List Tm}(j:(ts.map (·.1)).Nodup){t:Tm}(B:t∈ts):cf ts t.1=t.2:=by
 induction ts with
 |nil=>simp at B
 |cons u ts ih=>
  simp only[Lc,MV]at j;rw[b9]
  rcases KZ.mp B with z|z
  ·subst z;rw[if_pos rfl,iG λv F e=>j.1 (by rw[<-e];exact Lm F)]
   lia
  ·rw[if_neg λe=>j.1 (by rw[e];exact Lm z),ih j.2 z];lia
theorem zC{ts:List Tm}{B:Int}(z:0<=B)(h:∀t∈ts,-B<=t.2/\t.2<=B){k:K3}:-(ts.length*B)<=cf ts k/\cf ts k<=ts.length*B:=by
 induction ts with
 |nil=>simp[fK]
 |cons t ts ih=>
  obtain⟨h1,h2⟩:=ih λu j=>h u (by simp[j])
  obtain⟨F,G⟩:=h t (by simp)
  rw[b9,Mf,PQ,Int.add_mul]
  split<;>lia
noncomputable def dz(L:List Tm)(k:K3)(c:Int):List Tm:=if(L.any λp=>decide (p.1=k))=F2 then L.map λp=>if p.1=k then(p.1,p.2+c)else p else L++[(k,c)]
theorem BP{L:List Tm}{k:K3}:dget (L.map kcD) (k3D k)=(L.find? λp=>decide (p.1=k)).map λp=>.int p.2:=by
 unfold dget
 induction L with
 |nil=>rfl
 |cons t L ih=>
  by_cases h:t.1=k
  ·rw[Lc,Qn (by simp[kcD,h]),Qn (by simpa using h)];rfl
  ·rw[Lc,OU (by simp only[decide_eq_true_eq];exactλe=>h (lr e)),OU (by simpa using h),ih]
theorem E6{L:List Tm}{k:K3}:((L.map kcD).any λp=>decide (p.1=k3D k))=L.any λp=>decide (p.1=k):=by
 induction L with
 |nil=>rfl
 |cons t L ih=>
  rw[Lc,Nr,Nr,ih];congr 1
  by_cases h:t.1=k
  ·simp[kcD,h]
  ·rw[decide_eq_false h];exact decide_eq_false (λe=>h (lr e))
theorem BQ{L:List Tm}(j:(L.map (·.1)).Nodup){k:K3}:fe (L.map kcD) (k3D k) (.int ((((L.find? λp=>decide (p.1=k)).map (·.2)).getD 0)+c))=(dz L k c).map kcD:=by
 unfold fe dz;rw[E6]
 split
 ·next h=>
  rw[MU,MU];apply LM;intro t B;simp only[RU]
  by_cases e:t.1=k
  ·rw[if_pos (by rw[<-e];rfl),if_pos e]
   have:L.find? (λp=>decide (p.1=k))=Z t:=by
    clear h
    induction L with
    |nil=>simp at B
    |cons u L ih=>
     simp only[Lc,MV]at j
     rcases KZ.mp B with z|z
     ·subst z;rw[Qn (by simpa using e)]
     ·rw[OU (by simp;intro e2;exact j.1 (by rw[e2,<-e];exact Lm z))]
      exact ih j.2 z
   rw[this];rfl
  ·rw[if_neg (c:=(kcD t).1=k3D k) (λz=>e (lr z)),if_neg e]
 ·next h=>
  have:L.find? (λp=>decide (p.1=k))=Y:=by rw[Rq];intro x hx;simp only[decide_eq_true_eq];intro e;exact h (MN.mpr ⟨x,hx,by simpa using e⟩)
  rw[this];simp[kcD]
theorem ni{L:List Tm}{k:K3}:(dz L k c).map (·.1)=if(L.any λp=>decide (p.1=k))=F2 then L.map (·.1)else L.map (·.1)++[k]:=by
 unfold dz
 split
 ·rw[MU];apply LM;intro t _;simp only[RU]
  split<;>rfl
 ·simp
theorem uM{L:List Tm}(j:(L.map (·.1)).Nodup){k:K3}:((dz L k c).map (·.1)).Nodup:=by
 rw[ni]
 split
 ·exact j
 ·next h=>
  refine Pf.mpr ⟨j,by simp,λa B b z e=>?_⟩
  simp at z;subst z;subst e;obtain⟨t,F,e⟩:=L9.mp B;exact h (MN.mpr ⟨t,F,by simpa using e⟩)
theorem zD{L:List Tm}{k a:K3}(h:a∈(dz L k c).map (·.1)):a∈L.map (·.1)∨a=k:=by
 rw[ni]at h
 split at h
 ·exact .inl h
 ·rcases Ld.mp h with z|z
  ·exact .inl z
  ·exact .inr (by simpa using z)
theorem zE{L:List Tm}{k:K3}:(dz L k c).length<=L.length+1:=by unfold dz;split<;>simp
theorem BS{L:List Tm}(j:(L.map (·.1)).Nodup){k a:K3}:cf (dz L k c) a=cf L a+if k=a then c else 0:=by
 unfold dz
 split
 ·next h=>
  obtain⟨t,B,e⟩:=MN.mp h;have e:t.1=k:=by simpa using e
  clear h
  induction L with
  |nil=>simp at B
  |cons u L ih=>
   simp only[Lc,MV]at j;rw[Lc,b9,b9]
   by_cases eu:u.1=k
   ·have rest:(L.map fun p=>if p.1=k then(p.1,p.2+c)else p)=L:=by
     conv=>rhs;rw[<-List.map_id L]
     apply LM;intro p F;rw[if_neg λz=>j.1 (by rw[eu,<-z];exact Lm F)];rfl
    rw[rest,if_pos eu];dsimp only
    by_cases ea:u.1=a
    ·rw[if_pos ea,if_pos ea,if_pos (by rw[<-eu];exact ea)];lia
    ·rw[if_neg ea,if_neg ea,if_neg (by rw[<-eu];exact ea)];lia
   ·rcases KZ.mp B with z|z
    ·exact absurd (by rw[<-z];exact e) eu
    ·rw[ih j.2 z,if_neg eu];lia
 ·rw[hZ,b9,fK];simp
noncomputable def tset(ts:List Tm):List Tm:=ts.foldl (λL t=>dz L t.1 t.2) []
theorem dr{ts:List Tm}{t:Tm}:tset (ts++[t])=dz (tset ts) t.1 t.2:=by simp[tset]
theorem bx{α:Type}{P:List α->Prop}(h0:P [])(h1:∀l x,P l->P (l++[x]))(l:List α):P l:=by
 have:∀r:List α,P r.reverse:=by
  intro r
  induction r with
  |nil=>exact h0
  |cons x r ih=>rw[List.reverse_cons];exact h1 _ _ ih
 have:=this l.reverse;rw[T9]at this;exact this
theorem gA(ts:List Tm):((tset ts).map (·.1)).Nodup:=bx (P:=λts=>((tset ts).map (·.1)).Nodup) (by simp[tset]) (λl x ih=>by rw[dr];exact uM ih) ts
theorem BU(ts:List Tm)(k:K3):cf (tset ts) k=cf ts k:=bx (P:=λts=>cf (tset ts) k=cf ts k) rfl (λl x ih=>by rw[dr,BS (gA l),ih,hZ,b9,fK];lia) ts
theorem qE(ts:List Tm):(tset ts).length<=ts.length:=bx (P:=λts=>(tset ts).length<=ts.length) (by simp[tset]) (λl x ih=>by rw[dr];have:=zE (L:=tset l) (k:=x.1) (c:=x.2);simp;lia) ts
theorem zF(ts:List Tm):∀a∈(tset ts).map (·.1),a∈ts.map (·.1):=bx (P:=λts=>∀a∈(tset ts).map (·.1),a∈ts.map (·.1)) (by simp[tset]) (λl x ih a j=>by
 rw[dr]at j;rw[LA]
 rcases zD j with z|z
 ·exact LD _ (ih a z)
 ·exact Lo _ (by simp[z])) ts
structure IsTask(ts rs:List Tm):Prop where
 srt:rs.Pairwise λa b=>klt a.1 b.1
 nz:∀r∈rs,r.2≠0
 cf:∀k,cf rs k=cf ts k
 mem:∀r∈rs,r.1∈ts.map (·.1)
 len:rs.length<=ts.length
theorem BV{a:K3}(h:klt a a):False:=by have:=qd _ _ h;unfold klt at h;rw[h]at this;cases this
theorem IsTask.nodup{ts rs:List Tm}(h:IsTask ts rs):(rs.map (·.1)).Nodup:=by rw[Mo,Mx];refine h.srt.imp ?_;intro a b j e;rw[e]at j;exact BV j
theorem IsTask.val{ts rs:List Tm}(h:IsTask ts rs){r:Tm}(j:r∈rs):r.2=Mi.cf ts r.1:=by rw[<-h.cf,qD h.nodup j]
theorem Fz{ts:List Tm}{k:K3}:Mi.cf (ts.filter λt=>!(t.2==0)) k=Mi.cf ts k:=by
 induction ts with
 |nil=>rfl
 |cons t ts ih=>
  rw[b9]
  by_cases h:t.2=0
  ·rw[Q7 (by simp[h]),ih,h];split<;>lia
  ·rw[Q5 (by simp[h]),b9,ih]
theorem Ge.upd{j:Mem}{d:N2}(g:Ge M j)(hd:M d=Y):Ge M (af j d o):=λa o' e=>by rw[aD (λz=>by rw[z,hd]at e;cases e)];exact g _ _ e
noncomputable def i3(s:Stmt):FD:=⟨"task_of",s,["left","right","many","terms","sums","k","i","j","c"],4,
 (.cons (.asg (.name 4) (.dnew F2))
 (.cons (.for (.tup (.cons (.name 5) (.cons (.name 6) (.cons (.name 7) (.cons (.name 8) .nil))))) (.seq (.var 3)) (.cons (.put (.var 4) (.tup (.cons (.var 5) (.cons (.var 6) (.cons (.var 7) .nil)))) (.bin .add (.dget (.var 4) (.tup (.cons (.var 5) (.cons (.var 6) (.cons (.var 7) .nil)))) (.int 0)) (.var 8)))
 .nil))
 (.cons (.ret (.tup (.cons (.var 0) (.cons (.var 1) (.cons (.var 2) (.cons (.comp [Y,Y,Y,Y] ["k","i","j","c"] (.last (.seq (.sortI (.var 4))) (.tup (.cons (.tup (.cons (.name 0) (.cons (.name 1) (.cons (.name 2) .nil)))) (.cons (.name 3) .nil))) (.cons (.cmp .ne (.var 3) (.int 0)) .nil) (.tup (.cons (.var 0) (.cons (.var 1) (.cons (.var 2) (.cons (.var 3) .nil))))))) .nil))))))
 .nil)))⟩
theorem BW(hf:T[f]?=Z (i3 s))(hn:1<=n){L R N x:D}{ts:List Tm}(hx:aJ M x=Z (ts.map tmD))(hl:ts.length<=100000)(q:∀(rs:List Tm) p M',IsTask ts rs->Ge M M'->M p=Y->M' p=Z (.lst (rs.map tmD))->Q (.tup [L,R,N,.ref p]) M'):phi T n f [L,R,N,x] M Q:=by
 refine aB ∅ hf rfl (ρ:=[Z _,Z _,Z _,Z _,Y,Y,Y,Y,Y]) rfl ?_
 unfold i3;nofun;intro d hd;nofun;have g0:=Ge.new (o:=.dct F2 []) hd;refine⟨_,sC hx g0,?_⟩;refine bw (I:=λl ρ M'=>∃Fn fv o7 o8,ρ=[Z L,Z R,Z N,Z x,Z (.ref d),Fn,fv,o7,o8]/\Ge M M'/\M' d=Z (.dct F2 ((tset l).map kcD))) rfl ⟨_,_,_,_,rfl,g0,ab⟩ (λl ρ M' g9=>(by obtain⟨_,_,_,_,_,g,_⟩:=g9;exact sC hx g)) ?_ ?_
 ·rintro l t r ρ M1 e ⟨Fn,fv,o7,o8,rfl,g1,B⟩;refine⟨_,rfl,λF hF=>?_⟩;have IG:=aI e;have IJ:=qE l;rw[bQ];ac_nf;refine⟨⟨_,_,B⟩,by rw[D2];lia,_,_,B,rfl,?_⟩
  have ek:D.tup [D.int t.1.1,D.int t.1.2.1,D.int t.1.2.2]=k3D t.1:=rfl;rw[ek,BP];have eg:((Option.map (λp:Tm=>D.int p.2) ((tset l).find? λp=>decide (p.1=t.1))).getD (.int 0))=.int (((((tset l).find? λp=>decide (p.1=t.1)).map (·.2)).getD 0)):=by cases(tset l).find? λp=>decide (p.1=t.1)<;>rfl
  rw[eg];ac_nf;refine⟨by rw[D2];lia,qw B rfl (by rw[r0,D2];lia) ?_⟩
  rw[BQ (gA l)];refine hF _ _ ⟨_,_,_,_,rfl,g1.upd hd,?_⟩;rw[ab,dr]
 ·rintro ρ M1 ⟨Fn,fv,o7,o8,rfl,g1,B⟩;dsimp only;nofun;refine⟨_,_,B,.tup [.tup [.int,.int,.int],.int],rfl,λkv IH=>?_,λp ys hp z j=>?_⟩
  ·obtain⟨t,_,rfl⟩:=L9.mp IH;rfl
  rw[MU]at z;obtain⟨L',O,p2⟩:=eO (λt:Tm=>kvD (kcD t)) z rfl;have G:(L'.map (·.1)).Nodup:=(O.map (·.1)).nodup_iff.mpr (gA ts);have II:L'.Pairwise λa b=>klt a.1 b.1:=by
   rw[<-p2]at j;unfold gk at j;rw[Mx]at j;rw[Mo,Mx]at G;refine(j.and G).imp ?_;rintro a b ⟨h1,h2⟩;unfold klt
   cases e1:ltK (k3K a.1) (k3K b.1)with
   |true=>rfl
   |false=>
    exfalso
    cases e2:ltK (k3K b.1) (k3K a.1)with
    |false=>exact h2 (BN (mN _ _ e1 e2))
    |true=>
     have:ltK (kyD (kvD (kcD b))) (kyD (kvD (kcD a)))=F2:=by
      show ltK (.tup [k3K b.1,.int b.2]) (.tup [k3K a.1,.int a.2])=F2;unfold ltK at e2⊢;have e2:aw (k3K b.1) (k3K a.1)=.lt:=by simpa using e2
      simp only[aw,cmpKs];rw[e2];rfl
     rw[this]at h1;cases h1
  have g2:=g1.trans (Ge.new (o:=.lst ys) hp);subst p2;refine⟨_,ah ab,?_⟩;have IK:L'.length<=ts.length:=by rw[O.length_eq];exact qE ts
  refine aP (f:=λt:Tm=>kvD (kcD t)) (I:=λl ρ M' acc=>(∃o0 o1 o2 o3,ρ=[o0,o1,o2,o3])/\M'=af M1 p (.lst (L'.map λt=>kvD (kcD t)))/\acc=(l.filter λt=>!(t.2==0)).map tmD) rfl ⟨⟨_,_,_,_,rfl⟩,rfl,rfl⟩ (λ_ _ _ _ hI=>by rw[hI.2.1];exact ah ab) ?_ ?_
  ·rintro l t r ρ M2 acc e ⟨⟨o0,o1,o2,o3,rfl⟩,rfl,rfl⟩;refine⟨_,rfl,λN' hN=>?_⟩;have IG:=aI e;have IM:(l.filter λt=>!(t.2==0)).length<=l.length:=Pc _ _;ac_nf;simp only[show(kcD t).2=D.int t.2 from rfl];ac_nf
   by_cases U:t.2=0
   ·rw[if_neg (by simp[U])]
    exact hN _ _ _ ⟨⟨_,_,_,_,rfl⟩,rfl,by simp[OW,U]⟩
   ·rw[if_pos (by simp[U])]
    refine⟨by rw[D2];lia,by rw[r0,D2];lia,hN _ _ _ ⟨⟨_,_,_,_,rfl⟩,rfl,?_⟩⟩
    simp[OW,U,tmD]
  ·rintro ρ M2 acc ⟨_,rfl,rfl⟩ p2 hp2;refine⟨by rw[D2];lia,?_⟩
   have J:M p2=Y:=by
    cases hq:M p2 with
    |none=>rfl
    |some o=>rw[g2 _ _ hq]at hp2;cases hp2
   refine q (L'.filter λt=>!(t.2==0)) p2 _ ⟨II.sublist List.filter_sublist,λr hr=>by simpa using(NR.mp hr).2,λk=>?_,λr hr=>?_,?_⟩ (g2.trans (Ge.new hp2)) J ab
   ·rw[Fz,BO O,BU]
   ·have:=(NR.mp hr).1;exact zF ts _ (Lm (O.mem_iff.mp this))
   ·have:=Pc (λt:Tm=>!(t.2==0)) L';lia
end
section
open L2.Srt
variable{T:List FD}
noncomputable def gi(l:List Int)(i:Int):Int:=l.getD i.toNat 0
structure InB(rs:List Tm)(la lb N:Nat):Prop where
 k:∀r∈rs,0<=r.1.1/\r.1.1<N
 i:∀r∈rs,0<=r.1.2.1/\r.1.2.1<la
 j:∀r∈rs,0<=r.1.2.2/\r.1.2.2<lb
 c:∀r∈rs,-(2^64)<r.2/\r.2<2^64
end
section
open L2.Srt
theorem sD{α:Type}{lt:α->α->Prop}(as:∀a b,lt a b->lt b a->False):∀{l m:List α},l.Pairwise lt->m.Pairwise lt->(∀x,x∈l↔x∈m)->l=m
 |[],[],_,_,_=>rfl
 |[],y::m,_,_,h=>by have:=(h y).mpr (by simp);simp at this
 |x::l,[],_,_,h=>by have:=(h x).mp (by simp);simp at this
 |x::l,y::m,B,hm,h=>by
  rw[PX]at B hm;have e:x=y:=by
   rcases KZ.mp ((h x).mp (by simp))with z|z
   ·exact z
   ·rcases KZ.mp ((h y).mpr (by simp))with w|w
    ·exact w.symm
    ·exact(as _ _ (hm.1 _ z) (B.1 _ w)).elim
  subst e;rw[sD as B.2 hm.2 λz=>?_];constructor
  ·intro j
   rcases KZ.mp ((h z).mp (by simp[j]))with w|w
   ·subst w;exact(as _ _ (B.1 _ j) (B.1 _ j)).elim
   ·exact w
  ·intro j
   rcases KZ.mp ((h z).mpr (by simp[j]))with w|w
   ·subst w;exact(as _ _ (hm.1 _ j) (hm.1 _ j)).elim
   ·exact w
end
section
open L2.Srt
variable{T:List FD}
noncomputable def ak(n:Nat)(F:Nat->Int):Int:=((z4 n).map F).sum
theorem aq(h:∀i,i<n->F i=G i):ak n F=ak n G:=by unfold ak;rw[LM λi hi=>h i (LP.mp hi)]
theorem rsum_succ:ak (n+1) F=ak n F+F n:=by unfold ak;rw[P7];simp
theorem xi:ak (n+1) F=F 0+ak n λi=>F (i+1):=by unfold ak;rw[List.range_succ_eq_map,Lc,RV,MU];rfl
theorem db:ak n (λi=>F i+G i)=ak n F+ak n G:=by
 induction n with
 |zero=>rfl
 |succ n ih=>rw[rsum_succ,rsum_succ,rsum_succ,ih];lia
theorem de{t:Int}:ak n (λi=>t*F i)=t*ak n F:=by
 induction n with
 |zero=>simp[ak]
 |succ n ih=>rw[rsum_succ,rsum_succ,ih,Int.mul_add]
theorem aW(h:∀i,i<n->F i=0):ak n F=0:=by
 induction n with
 |zero=>rfl
 |succ n ih=>rw[rsum_succ,ih λi hi=>h i ∅,h n ∅];rfl
noncomputable def eT(n m:Nat)(g:Nat->Nat->Tm):List Tm:=(z4 n).flatMap λi=>(z4 m).map (g i)
noncomputable def cz(i j:Nat):Tm:=(((i+j:Nat),(i:Int),(j:Int)),1)
noncomputable def bh(n m:Nat):List Tm:=eT n m cz
end
section
open L2.Srt
variable{T:List FD}
noncomputable def ko(s:Stmt)(ft:Nat):FD:=⟨"line_task",s,["n","m","terms"],2,
 (.cons (.asg (.name 2) (.comp [Y,Y,(Z 1)] ["i","j","m"] (.more (.rng1 (.var 0)) (.name 0) .nil (.last (.rng1 (.var 2)) (.name 1) .nil (.tup (.cons (.bin .add (.var 0) (.var 1)) (.cons (.var 0) (.cons (.var 1) (.cons (.int 1) .nil)))))))))
 (.cons (.ret (.call ft (.cons (.var 0) (.cons (.var 1) (.cons (.bin .sub (.bin .add (.var 0) (.var 1)) (.int 1)) (.cons (.var 2) .nil))))))
 .nil))⟩
theorem qF{g:Nat->Nat->Tm}:(eT n m g).length=n*m:=by
 unfold eT;rw[List.length_flatMap]
 induction n with
 |zero=>simp
 |succ n ih=>rw[P7,LA,PR,ih,OQ];simp
theorem xj{l:List Nat}{i:Nat}{G:Nat->List Tm}:(l++[i]).flatMap G=l.flatMap G++G i:=by simp
theorem zG{l:List Nat}{g:Nat->Nat->Tm}:(l.flatMap λi=>(z4 m).map (g i)).length=l.length*m:=by
 induction l with
 |nil=>simp
 |cons i l ih=>rw[NA,I7,ih,Mf,OQ];simp;lia
theorem BX{s':Stmt}(hf:T[f]?=Z (ko s ft))(L:T[ft]?=Z (i3 s')){k:Nat}(Fn:2<=k)(O:n<=100)(hm:m<=100)(q:∀(rs:List Tm) p M',IsTask (bh n m) rs->Ge M M'->M p=Y->M' p=Z (.lst (rs.map tmD))->Q (.tup [.int n,.int m,.int (n+m-1),.ref p]) M'):phi T k f [.int n,.int m] M Q:=by
 refine aB ∅ hf rfl (ρ:=[Z _,Z _,Y]) rfl ?_
 unfold ko;nofun;refine⟨∅,∅,?_⟩
 refine aP (f:=λi=>D.int (i:Nat)) (I:=λl ρ M' acc=>(∃o0 z,ρ=[o0,z,Z (.int m)])/\M'=M/\acc=(l.flatMap λi=>(z4 m).map (cz i)).map tmD) be ⟨⟨_,_,rfl⟩,rfl,rfl⟩ (λ_ _ _ _ _=>trivial) ?_ ?_
 ·rintro l i r ρ M1 acc e ⟨⟨o0,z,rfl⟩,rfl,rfl⟩;refine⟨_,rfl,λN' U=>?_⟩;have G:=aI e;rw[LJ]at G;ac_nf;refine⟨∅,∅,?_⟩
  refine aP (f:=λi=>D.int (i:Nat)) (I:=λl' ρ M' acc=>(∃z,ρ=[Z (.int i),z,Z (.int m)])/\M'=M1/\acc=((l.flatMap λi=>(z4 m).map (cz i))++l'.map (cz i)).map tmD) be ⟨⟨_,rfl⟩,rfl,by simp⟩ (λ_ _ _ _ _=>trivial) ?_ ?_
  ·rintro l' j r' ρ M2 acc e' ⟨⟨z,rfl⟩,rfl,rfl⟩;refine⟨_,rfl,λfv J=>?_⟩;have B:=aI e';rw[LJ]at B;have hmul:l.length*m<=100*100:=N4 ∅ ∅
   ac_nf;refine⟨by rw[D2];lia,by rw[r0,I7,zG,r0,D2];lia,J _ _ _ ⟨⟨_,rfl⟩,rfl,?_⟩⟩
   simp[tmD,cz]
  ·rintro ρ M2 acc ⟨⟨z,rfl⟩,rfl,rfl⟩;refine U _ _ _ ⟨⟨_,_,rfl⟩,rfl,?_⟩;rw[xj];simp
 ·rintro ρ M1 acc ⟨_,rfl,rfl⟩ p hp;have eL:((z4 (n:Int).toNat).flatMap λi=>(z4 m).map (cz i))=bh n m:=by rw[L6];rfl
  rw[eL];have hl:(bh n m).length<=100*100:=by unfold bh;rw[qF];exact N4 O hm
  nofun;refine BW L ∅ (ah ab) ∅ λrs p2 M2 h1 g F e2=>?_
  have g1:=Ge.new (o:=.lst ((bh n m).map tmD)) hp;refine q rs p2 M2 h1 (g1.trans g) ?_ e2
  cases hq:M1 p2 with
  |none=>rfl
  |some o=>rw[g1 _ _ hq]at F;cases F
end
section
open L2.Srt
theorem sF{k:Nat}(h:M p=Z (.lst (ns.map .int))):rb (k+1) M (.ref p)=Z (.list (ns.map .int)):=by rw[xf h,lp];rfl
theorem uN{g:Nat->Nat->Tm}(B:∀i j,(g i j).1.2=((i:Int),(j:Int))):((eT n m g).map (·.1)).Nodup:=by
 unfold eT;rw[UY,Mo,SR];refine⟨λi _=>?_,?_⟩
 ·rw[MU,Mx];refine(Mo.mp UZ).imp ?_;intro a b z e;have h:=congrArg (λk:K3=>k.2.2) e;simp only[RU,B]at h;lia
 ·refine(Mo.mp UZ).imp ?_;intro a b z x hx y F e;rw[MU]at hx F;obtain⟨u,_,rfl⟩:=L9.mp hx;obtain⟨v,_,rfl⟩:=L9.mp F;have h:=congrArg (λk:K3=>k.2.1) e;simp only[RU,B]at h;lia
theorem zH{g:Nat->Nat->Tm}{t:Tm}(h:t∈eT n m g):∃i j,i<n/\j<m/\t=g i j:=by obtain⟨i,hi,h⟩:=O8.mp h;obtain⟨j,z,rfl⟩:=L9.mp h;exact⟨i,j,LP.mp hi,LP.mp z,rfl⟩
theorem IsTask.sub{ts rs:List Tm}(h:IsTask ts rs)(B:(ts.map (·.1)).Nodup){r:Tm}(j:r∈rs):r∈ts:=by obtain⟨u,z,e⟩:=L9.mp (h.mem r j);have:=h.val j;rw[<-e,qD B z]at this;have e2:u=r:=Uc e this.symm;rw[<-e2];exact z
theorem kr:((bh n m).map (·.1)).Nodup:=uN λ_ _=>rfl
theorem BY{rs:List Tm}(h:IsTask (bh n m) rs)(B:1<=n):InB rs n m (n+m-1):=by
 have key:∀r∈rs,(0<=r.1.1/\r.1.1<(n+m-1:Nat))/\(0<=r.1.2.1/\r.1.2.1<n)/\(0<=r.1.2.2/\r.1.2.2<m)/\(-(2^64)<r.2/\r.2<2^64):=λr z=>by obtain⟨i,j,hi,F,rfl⟩:=zH (h.sub kr z);unfold cz;dsimp only;exact⟨∅,∅,∅,by decide⟩
 exact⟨λr z=>(key r z).1,λr z=>(key r z).2.1,λr z=>(key r z).2.2.1,λr z=>(key r z).2.2.2⟩
end
section
open L2.Srt
variable{T:List FD}
theorem eU{F:Nat->Nat->Int}:ak n (λi=>ak m λj=>F i j)=ak m λj=>ak n λi=>F i j:=by
 induction n with
 |zero=>exact(aW λ_ _=>rfl).symm
 |succ n ih=>rw[rsum_succ,ih,<-db];exact aq λj _=>rsum_succ.symm
theorem du{k:Nat}(h:k<n):ak n (λi=>if k=i then F i else 0)=F k:=by
 induction n with
 |zero=>lia
 |succ n ih=>
  rw[rsum_succ]
  by_cases e:k=n
  ·subst e;rw[if_pos rfl,aW λi hi=>if_neg ∅];lia
  ·rw[if_neg e,ih ∅];lia
theorem xk{t:Int}:ak n (λi=>F i*t)=ak n F*t:=by rw[Int.mul_comm,<-de];exact aq λi _=>Int.mul_comm _ _
theorem zI{C:Nat}(h:∀i,i<n->(F i).natAbs<=C):(ak n F).natAbs<=n*C:=by
 induction n with
 |zero=>simp[ak]
 |succ n ih=>rw[rsum_succ,OQ];exact Mu (Int.natAbs_add_le _ _) (Nat.add_le_add (ih λi hi=>h i ∅) (h n ∅))
end
section
open L2.Srt
noncomputable def uO(a:List Int)(m i:Nat):List Int:=(z4 m).map λt=>gi a ((i*m+t:Nat):Int)
theorem E7{a:List Int}{i:Nat}(h:i<a.length):a[i]?=Z (gi a (i:Nat)):=by unfold gi;rw[KU,L6,tv h];rfl
theorem BZ{a:List Int}{i:Nat}(j:a.length=n*m)(hi:i<n):bX (a.map D.int) (Z ((i*m:Nat):Int)) (Z ((i*m+m:Nat):Int))=(uO a m i).map D.int:=by
 have hle:i*m+m<=n*m:=by rw[<-OQ];exact Np m hi
 unfold bX;simp only[HT.sIx];rw[if_neg ∅,if_neg ∅,r0,L6,L6,N7 ∅,N7 ∅]
 unfold uO;apply Ny;intro t
 by_cases h:t<m
 ·rw[NJ ∅,OV,L8,E7 ∅,L8,L8,LC h];rfl
 ·rw[Mq (by simp;lia),Mq (by simp;lia)]
end
section
open L2.Srt
variable{T:List FD}
noncomputable def idx(l:List Int):List (Int×Int):=l.mapIdx λi x=>((i:Nat),x)
noncomputable def nz(l:List Int):List (Int×Int):=(idx l).filter λq=>!(q.2==0)
noncomputable def pD(q:Int×Int):D:=.tup [.int q.1,.int q.2]
theorem iH:(idx l).length=l.length:=by simp[idx]
theorem jg:fY (l.map .int)=(idx l).map pD:=by
 unfold fY idx;apply Ny;intro j;simp only[QJ,L8]
 cases l[j]?<;>rfl
end
section
open L2.Srt
noncomputable def S1(zs:List (Int×Int))(k:Int):Int:=(zs.map λz=>if z.1=k then z.2 else 0).sum
theorem sH{z:Int×Int}{k:Int}:S1 (z::zs) k=(if z.1=k then z.2 else 0)+S1 zs k:=by simp[S1]
noncomputable def gz(l:List Int)(i:Int):Int:=if i<0 then 0 else l.getD i.toNat 0
theorem xm(h:i<0):gz l i=0:=if_pos h
theorem xo:gz [] i=0:=by unfold gz;split<;>simp
theorem fL{x:Int}:gz (x::l) i=if i=0 then x else gz l (i-1):=by
 unfold gz
 by_cases h:i<0
 ·rw[if_pos h,if_neg ∅,if_pos ∅]
 ·rw[if_neg h]
  by_cases h0:i=0
  ·subst h0;simp
  ·rw[if_neg h0,if_neg ∅]
   obtain⟨n,rfl⟩:∃n:Nat,i=((n+1:Nat):Int):=⟨(i-1).toNat,∅⟩
   rw[show(((n+1:Nat):Int)-1).toNat=n by lia,L6]
   simp
theorem nj{a b:List Int}:∀{i:Int},gz (a++b) i=if i<a.length then gz a i else gz b (i-a.length):=by
 induction a with
 |nil=>
  intro i
  by_cases h:i<0
  ·rw[if_pos (by simpa using h),PN,xm h,xm h]
  ·rw[if_neg (by simpa using h)];simp
 |cons x a ih=>
  intro i;rw[Pu,fL,fL,ih,Mf]
  by_cases h0:i=0
  ·subst h0;rw[if_pos rfl,if_pos rfl,if_pos ∅]
  ·rw[if_neg h0,if_neg h0]
   by_cases h:i<((a.length+1:Nat):Int)
   ·rw[if_pos ∅,if_pos h]
   ·rw[if_neg ∅,if_neg h]
    congr 1;lia
theorem xp{x:Int}:∀{b:List Int} {i:Int},gz (b.map (x * ·)) i=x*gz b i
 |[],i=>by rw[OR,xo];simp
 |y::b,i=>by rw[Lc,fL,fL,xp];split<;>rfl
theorem eC(h:gz l i≠0):0<=i/\i<l.length:=by
 unfold gz at h
 by_cases hi:i<0
 ·rw[if_pos hi]at h;exact absurd rfl h
 ·rw[if_neg hi]at h;refine⟨∅,?_⟩
  by_cases hl:i.toNat<l.length
  ·lia
  ·rw[KU,Mq ∅]at h;exact absurd rfl h
theorem xq{a b:List (Int×Int)}{k:Int}:S1 (a++b) k=S1 a k+S1 b k:=by simp[S1]
noncomputable def Tn(ps:List Pr)(k i j:Int):Int:=(ps.map λp=>gz p.1 i*gz p.2.1 j*gz p.2.2 k).sum
theorem eV{a b:List Pr}{k:Int}:Tn (a++b) k i j=Tn a k i j+Tn b k i j:=by simp[Tn]
theorem df{p:Pr}{a:List Pr}{k:Int}:Tn (p::a) k i j=gz p.1 i*gz p.2.1 j*gz p.2.2 k+Tn a k i j:=by simp[Tn]
theorem xr{L0 L1 L2:Nat}{k i j:Int}:∀{us:List Pr},(∀u∈us,u.1.length=L0/\u.2.1.length=L1/\u.2.2.length=L2)->Tn us k i j≠0->(0<=k/\k<L2)/\(0<=i/\i<L0)/\(0<=j/\j<L1)
 |[],_,h=>absurd (by simp[Tn]) h
 |u::us,B,h=>by
  obtain⟨e0,e1,e2⟩:=B u (by simp)
  rw[df]at h
  by_cases z:gz u.1 i*gz u.2.1 j*gz u.2.2 k=0
  ·rw[z,Int.zero_add]at h;exact xr (λv F=>B v (by simp[F])) h
  ·have a1:gz u.1 i≠0:=λe=>z (by rw[e];simp)
   have a2:gz u.2.1 j≠0:=λe=>z (by rw[e];simp)
   have G:gz u.2.2 k≠0:=λe=>z (by rw[e];simp)
   have:=eC a1;have:=eC a2;have:=eC G;lia
end
section
open L2.Srt
variable{T:List FD}
noncomputable def one(L:Nat)(k:Int):List Int:=(z4 L).map λh=>if((h:Nat):Int)=k then 1 else 0
theorem fM{k:Int}:(one L k).length=L:=by simp[one]
theorem i4{k:Int}(h0:0<=k)(h1:k<L):gz (one L k) i=if i=k then 1 else 0:=by
 unfold gz one
 by_cases hi:i<0
 ·rw[if_pos hi,if_neg ∅]
 ·rw[if_neg hi,KU,L8]
  by_cases hl:i.toNat<L
  ·rw[LC hl];simp only[Oj,Option.getD_some]
   by_cases e:i=k
   ·rw[if_pos ∅,if_pos e]
   ·rw[if_neg ∅,if_neg e]
  ·rw[Mq (by simp;lia),if_neg ∅];rfl
end
section
open L2.Srt
noncomputable def tm(p:Pr)(k i j:Int):Int:=gz p.1 i*gz p.2.1 j*gz p.2.2 k
theorem uP{p:Pr}{a:List Pr}{k:Int}:Tn (p::a) k i j=tm p k i j+Tn a k i j:=df
theorem E8{ps:List Pr}{p:Pr}{k:Int}:Tn (ps.take n++p::ps.drop n) k i j=Tn ps k i j+tm p k i j:=by
 have e:Tn ps k i j=Tn (ps.take n) k i j+Tn (ps.drop n) k i j:=by rw[<-eV,MX]
 rw[eV,uP,e];lia
end
section
open L2.Srt
variable{T:List FD}
def Within(B:Int)(l:List Int):Prop:=∀x∈l,-B<=x/\x<=B
structure Dr(B:Int)(L0 L1 L2:Nat)(p:Pr):Prop where
 l0:p.1.length=L0
 l1:p.2.1.length=L1
 l2:p.2.2.length=L2
 e0:Within B p.1
 e1:Within B p.2.1
 e2:Within B p.2.2
end
section
open L2.Srt
variable{T:List FD}
theorem qG{k:Int}:Within 1 (one L k):=λx hx=>by
 unfold one at hx;obtain⟨h,_,rfl⟩:=L9.mp hx
 split<;>lia
end
section
open L2.Srt
theorem eD{i:Nat}(h:i<n):gz ((z4 n).map F) (i:Nat)=F i:=by unfold gz;rw[if_neg ∅,L6,KU,L8,LC h];rfl
theorem E9{a b:List Int}(j:a.length=b.length)(h:∀i:Nat,i<a.length->gz a (i:Nat)=gz b (i:Nat)):a=b:=by
 refine UM j λi h1 h2=>?_;have:=h i h1;unfold gz at this;rw[if_neg ∅,if_neg ∅,L6,KU,KU,tv h1,tv h2]at this
 exact this
end
section
open L2.Srt
variable{T:List FD}
noncomputable def ls(n i:Nat):List Int:=(z4 (2*n-1)).map λk=>if k=2*i then 1 else if i<=k/\k<i+n then -1 else 0
noncomputable def bV(n i j:Nat):List Int:=(z4 n).map λh=>if h=i∨h=j then 1 else 0
noncomputable def ppI(n i:Nat):List Pr:=(one n (i:Nat),one n (i:Nat),ls n i)::(z4 i).map λj=>(bV n i j,bV n i j,one (2*n-1) ((i+j:Nat):Int))
noncomputable def pp(n:Nat):List Pr:=(z4 n).flatMap (ppI n)
theorem sJ{G:Nat->List Pr}{k i j:Int}:∀l:List Nat,Tn (l.flatMap G) k i j=(l.map λx=>Tn (G x) k i j).sum
 |[]=>rfl
 |x::l=>by rw[NA,eV,sJ l];simp
theorem C0{G:Nat->Pr}{k:Int}:Tn ((z4 n).map G) k i j=ak n λx=>tm (G x) k i j:=by unfold Tn ak;rw[MU];rfl
theorem dS{k:Nat}:ak n (λi=>if k=i then v else 0)=if k<n then v else 0:=by
 by_cases h:k<n
 ·rw[if_pos h,du (F:=λ_=>v) h]
 ·rw[if_neg h];exact aW λi hi=>if_neg ∅
theorem Ea{i a b:Nat}{o:List Int}{k:Int}(hi:i<n):tm (one n (i:Nat),one n (i:Nat),o) k (a:Nat) (b:Nat)=if a=i/\b=i then gz o k else 0:=by
 unfold tm;dsimp only;rw[i4 ∅ ∅,i4 ∅ ∅]
 by_cases h1:a=i
 ·by_cases h2:b=i
  ·rw[if_pos ∅,if_pos ∅,if_pos ⟨h1,h2⟩];lia
  ·rw[if_pos (show(a:Int)=(i:Int) by lia),if_neg (show ¬(b:Int)=(i:Int) by lia),if_neg (show ¬(a=i/\b=i) by lia)];lia
 ·rw[if_neg (show ¬(a:Int)=(i:Int) by lia),if_neg (show ¬(a=i/\b=i) by lia)];simp
theorem C2{i j a b k:Nat}(hi:i<n)(J:j<i)(F:a<n)(G:b<n):tm (bV n i j,bV n i j,one (2*n-1) ((i+j:Nat):Int)) (k:Nat) (a:Nat) (b:Nat)=if((a=i∨a=j)/\(b=i∨b=j))/\k=i+j then 1 else 0:=by
 unfold tm bV;dsimp only;rw[eD F,eD G,i4 ∅ ∅]
 by_cases h1:a=i∨a=j
 ·by_cases h2:b=i∨b=j
  ·by_cases B:k=i+j
   ·rw[if_pos h1,if_pos h2,if_pos ∅,if_pos ⟨⟨h1,h2⟩,B⟩];rfl
   ·rw[if_pos h1,if_pos h2,if_neg ∅,if_neg (λz=>B z.2)];rfl
  ·rw[if_neg h2,if_neg (show ¬(((a=i∨a=j)/\(b=i∨b=j))/\k=i+j) fromλz=>h2 z.1.2)];simp
 ·rw[if_neg h1,if_neg (show ¬(((a=i∨a=j)/\(b=i∨b=j))/\k=i+j) fromλz=>h1 z.1.1)];simp
theorem FA{a b k:Nat}(L:a<n)(O:b<n)(U:k<2*n-1):Tn (pp n) (k:Nat) (a:Nat) (b:Nat)=if k=a+b then 1 else 0:=by
 unfold pp;rw[sJ];show ak n (λi=>Tn (ppI n i) _ _ _)=_;have Fn:∀i,i<n->Tn (ppI n i) (k:Nat) (a:Nat) (b:Nat)=(if a=i/\b=i then(if k=2*i then 1 else if i<=k/\k<i+n then -1 else 0)else 0)+ak i λj=>if((a=i∨a=j)/\(b=i∨b=j))/\k=i+j then 1 else 0:=λi hi=>by unfold ppI;rw[uP,Ea hi,C0];unfold ls;rw[eD U];congr 1;exact aq λj F=>C2 hi F L O
 rw[aq Fn]
 by_cases hab:a=b
 ·subst hab;have h1:∀i,i<n->((if a=i/\a=i then(if k=2*i then 1 else if i<=k/\k<i+n then -1 else 0)else 0)+ak i fun j=>if((a=i∨a=j)/\(a=i∨a=j))/\k=i+j then(1:Int)else 0)=(if a=i then((if k=2*a then 1 else if a<=k/\k<a+n then -1 else 0)+if a<=k/\k<2*a then 1 else 0)else 0)+if k-a=i then(if a<k-a/\a<=k then 1 else 0)else 0:=fun i hi=>by
   by_cases e:a=i
   ·subst e;rw[if_pos ⟨rfl,rfl⟩,if_pos rfl];have e1:(ak a fun j=>if((a=a∨a=j)/\(a=a∨a=j))/\k=a+j then(1:Int)else 0)=if a<=k/\k<2*a then 1 else 0:=by
     by_cases h:a<=k
     ·have:∀j,j<a->(if((a=a∨a=j)/\(a=a∨a=j))/\k=a+j then(1:Int)else 0)=if k-a=j then 1 else 0:=fun j F=>by
       by_cases z:k=a+j
       ·rw[if_pos ⟨⟨.inl rfl,.inl rfl⟩,z⟩,if_pos ∅]
       ·rw[if_neg (λw=>z w.2),if_neg ∅]
      rw[aq this,dS]
      by_cases h2:k<2*a
      ·rw[if_pos ∅,if_pos ⟨h,h2⟩]
      ·rw[if_neg ∅,if_neg (λw=>h2 w.2)]
     ·rw[if_neg (λw=>h w.1)];exact aW λj F=>if_neg (λw=>h ∅)
    rw[e1];have e2:(if k-a=a then(if a<k-a/\a<=k then(1:Int)else 0)else 0)=0:=by
     by_cases h:k-a=a
     ·rw[if_pos h,if_neg ∅]
     ·rw[if_neg h]
    rw[e2];lia
   ·rw[if_neg (fun w=>e w.1),if_neg e];have e1:∀j,j<i->(if((a=i∨a=j)/\(a=i∨a=j))/\k=i+j then(1:Int)else 0)=if a=j then(if k=i+a then 1 else 0)else 0:=fun j F=>by
     by_cases z:a=j
     ·subst z;rw[if_pos rfl]
      by_cases B:k=i+a
      ·rw[if_pos ⟨⟨.inr rfl,.inr rfl⟩,B⟩,if_pos B]
      ·rw[if_neg (λw=>B w.2),if_neg B]
     ·rw[if_neg z,if_neg (λw=>∅)]
    rw[aq e1,dS]
    by_cases h:a<i
    ·rw[if_pos h]
     by_cases z:k=i+a
     ·rw[if_pos z,if_pos ∅,if_pos ∅]
     ·rw[if_neg z]
      by_cases B:k-a=i
      ·rw[if_pos B,if_neg ∅]
      ·rw[if_neg B]
    ·rw[if_neg h]
     by_cases B:k-a=i
     ·rw[if_pos B,if_neg ∅]
     ·rw[if_neg B]
  rw[aq h1,db,dS,dS,if_pos L]
  by_cases c1:k=2*a
  ·rw[if_pos c1,if_neg (show ¬(a<=k/\k<2*a) by lia),if_neg (show ¬(a<k-a/\a<=k) by lia),if_pos (show k=a+a by lia)]
   split<;>rfl
  ·rw[if_neg c1,if_neg (show ¬k=a+a by lia)]
   by_cases J:a<=k/\k<a+n
   ·rw[if_pos J,if_pos (show k-a<n by lia)]
    by_cases G:k<2*a
    ·rw[if_pos ⟨J.1,G⟩,if_neg (show ¬(a<k-a/\a<=k) by lia)];rfl
    ·rw[if_neg (show ¬(a<=k/\k<2*a) fromλw=>G w.2),if_pos (show a<k-a/\a<=k by lia)];rfl
   ·rw[if_neg J,if_neg (show ¬(a<=k/\k<2*a) by lia)]
    by_cases G:k-a<n
    ·rw[if_pos G,if_neg (show ¬(a<k-a/\a<=k) by lia)];rfl
    ·rw[if_neg G];rfl
 ·have h1:∀i,i<n->((if a=i/\b=i then(if k=2*i then 1 else if i<=k/\k<i+n then -1 else 0)else 0)+ak i fun j=>if((a=i∨a=j)/\(b=i∨b=j))/\k=i+j then(1:Int)else 0)=if max a b=i then(if k=a+b then 1 else 0)else 0:=fun i hi=>by
   rw[if_neg ∅]
   have e1:∀j,j<i->(if((a=i∨a=j)/\(b=i∨b=j))/\k=i+j then(1:Int)else 0)=if min a b=j then(if max a b=i/\k=a+b then 1 else 0)else 0:=λj F=>by
    by_cases z:min a b=j
    ·rw[if_pos z]
     by_cases B:max a b=i/\k=a+b
     ·rw[if_pos B,if_pos ∅]
     ·rw[if_neg B,if_neg ∅]
    ·rw[if_neg z,if_neg ∅]
   rw[aq e1,dS]
   by_cases z:max a b=i
   ·rw[if_pos z,if_pos ∅]
    by_cases B:k=a+b
    ·rw[if_pos B,if_pos ⟨z,B⟩];rfl
    ·rw[if_neg B,if_neg (λw=>B w.2)];rfl
   ·rw[if_neg z,if_neg (show ¬(max a b=i/\k=a+b) fromλw=>z w.1)]
    split<;>rfl
  rw[aq h1,dS,if_pos ∅]
theorem lu{k:Int}:cf (bh n m) (k,i,j)=if(0<=i/\i<n)/\(0<=j/\j<m)/\k=i+j then 1 else 0:=by
 by_cases h:(0<=i/\i<n)/\(0<=j/\j<m)/\k=i+j
 ·rw[if_pos h];have hm:cz i.toNat j.toNat∈bh n m:=O8.mpr ⟨i.toNat,LP.mpr ∅,Lm (LP.mpr ∅)⟩
  have e:(k,i,j)=(cz i.toNat j.toNat).1:=by unfold cz;rw[QF,QF];exact⟨∅,∅,∅⟩
  rw[e];exact qD kr hm
 ·rw[if_neg h];refine iG λt z e=>h ?_;unfold bh eT at z;obtain⟨a,B,z⟩:=O8.mp z;obtain⟨b,F,rfl⟩:=L9.mp z;have B:=LP.mp B;have F:=LP.mp F;unfold cz at e;rw[QF,QF]at e;lia
theorem iI:∀p∈pp n,Dr 1 n n (2*n-1) p:=by
 intro p z;unfold pp at z;obtain⟨i,hi,z⟩:=O8.mp z;unfold ppI at z
 rcases KZ.mp z with rfl|z
 ·refine⟨fM,fM,by simp[ls],qG,qG,λx hx=>?_⟩
  unfold ls at hx;obtain⟨k,_,rfl⟩:=L9.mp hx
  split
  ·lia
  ·split<;>lia
 ·obtain⟨j,_,rfl⟩:=L9.mp z;have B:Within 1 (bV n i j):=fun x hx=>by
   unfold bV at hx;obtain⟨k,_,rfl⟩:=L9.mp hx
   split<;>lia
  exact⟨by simp[bV],by simp[bV],fM,B,B,qG⟩
theorem FB{k:Int}:Tn (pp n) k i j=cf (bh n n) (k,i,j):=by
 rw[lu]
 by_cases h:(0<=k/\k<((2*n-1:Nat):Int))/\(0<=i/\i<(n:Int))/\(0<=j/\j<(n:Int))
 ·obtain⟨K,rfl⟩:∃K:Nat,k=K:=⟨k.toNat,∅⟩
  obtain⟨I,rfl⟩:∃K:Nat,i=K:=⟨i.toNat,∅⟩
  obtain⟨J,rfl⟩:∃K:Nat,j=K:=⟨j.toNat,∅⟩
  rw[FA ∅ ∅ ∅]
  by_cases z:K=I+J
  ·rw[if_pos z,if_pos ∅]
  ·rw[if_neg z,if_neg ∅]
 ·rw[if_neg ∅]
  cases Decidable.em (Tn (pp n) k i j=0)with
  |inl e=>exact e
  |inr e=>exact absurd (xr (L0:=n) (L1:=n) (L2:=2*n-1) (us:=pp n) (λu B=>⟨(iI u B).l0,(iI u B).l1,(iI u B).l2⟩) e) h
end
section
open L2.Srt
variable{T:List FD}
theorem qH{i:Nat}:((z4 L).map F).set i v=(z4 L).map λk=>if k=i then v else F k:=by
 apply Ny;intro k;rw[List.getElem?_set]
 by_cases h:i=k
 ·subst h;rw[if_pos rfl]
  by_cases j:i<L
  ·rw[if_pos (by simpa using j),L8,LC j];simp
  ·rw[if_neg (by simpa using j),Mq (by simp;lia)]
 ·rw[if_neg h,L8,L8]
  by_cases j:k<L
  ·rw[LC j];simp[Ne.symm h]
  ·rw[Mq (by simp;lia)];rfl
theorem Ao:(D1 L [D.int 0]).flatten=((z4 L).map λ_=>(0:Int)).map D.int:=by
 rw[MU];have:(z4 L).map (D.int∘λ_=>(0:Int))=D1 L (D.int 0):=by rw[show(D.int∘λ_:Nat=>(0:Int))=λ_=>D.int 0 from rfl,List.map_const',LJ]
 rw[this,List.flatten_replicate_singleton]
theorem uQ{i:Nat}(h:i<L):ixN L (i:Nat)=Z i:=by unfold ixN;rw[if_pos ∅,if_pos ∅,L6]
theorem zJ{t:Tm}(h:t∈bh n m):((0<=t.1.1/\t.1.1<(n+m-1:Nat))/\(0<=t.1.2.1/\t.1.2.1<(n:Nat))/\(0<=t.1.2.2/\t.1.2.2<(m:Nat)))/\t.2=1:=by unfold bh eT at h;obtain⟨a,j,h⟩:=O8.mp h;obtain⟨b,z,rfl⟩:=L9.mp h;have j:=LP.mp j;have z:=LP.mp z;unfold cz;dsimp only;lia
theorem qI:(bh n m).length=n*m:=qF
end
section
noncomputable abbrev K2:=Int×Int
noncomputable def k2D(k:K2):D:=.tup [.int k.1,.int k.2]
noncomputable def raD(r:K2×N2):D×D:=(k2D r.1,.ref r.2)
theorem sK{a b:K2}(h:k2D a=k2D b):a=b:=by obtain⟨a1,a2⟩:=a;obtain⟨j,z⟩:=b;simp only[k2D,D.tup.injEq,P4,D.int.injEq,and_true]at h;rw[h.1,h.2]
theorem eE{α β:Type}{f:α->β}:∀{l:List α},(l.map f).Nodup->∀{x y:α},x∈l->y∈l->f x=f y->x=y
 |[],_,x,_,hx,_,_=>by cases hx
 |z::l,h,x,y,hx,F,e=>by
  rw[Lc,MV]at h
  rcases KZ.mp hx with rfl|j<;>rcases KZ.mp F with rfl|B
  ·rfl
  ·exact absurd (L9.mpr ⟨y,B,e.symm⟩) h.1
  ·exact absurd (L9.mpr ⟨x,j,e⟩) h.1
  ·exact eE h.2 j B e
structure RI(d:N2)(N:Nat)(M:Mem)(R:List (K2×N2))(g:K2->List Int):Prop where
 dct:M d=Z (.dct F2 (R.map raD))
 keys:(R.map (·.1)).Nodup
 ads:(R.map (·.2)).Nodup
 nd:∀r∈R,r.2≠d
 row:∀r∈R,M r.2=Z (.lst ((g r.1).map .int))
 ln:∀k,(g k).length=N
 out:∀k,k∉R.map (·.1)->g k=D1 N 0
structure Run(d:N2)(R:List (K2×N2))(M:Mem)(R':List (K2×N2))(M':Mem):Prop where
 ex:∀r∈R',r∈R∨M r.2=Y
 kp:∀b o,b≠d->b∉R.map (·.2)->M b=Z o->M' b=Z o
theorem Run.refl{d:N2}{R:List (K2×N2)}:Run d R M R M:=⟨λr h=>.inl h,λ_ _ _ _ e=>e⟩
theorem lw{k:K2}:∀R:List (K2×N2),dget (R.map raD) (k2D k)=(R.find? λr=>decide (r.1=k)).map λr=>.ref r.2
 |[]=>rfl
 |r::R=>by
  have ih:=lw (k:=k) R;unfold dget at ih⊢;rw[Lc,N6,N6]
  by_cases h:r.1=k
  ·have e:decide ((raD r).1=k2D k)=F2:=decide_eq_true (by rw[<-h];rfl)
   rw[e,decide_eq_true h];rfl
  ·have e:decide ((raD r).1=k2D k)=Md:=decide_eq_false (λz=>h (sK z));rw[e,decide_eq_false h];exact ih
theorem C3{k:K2}{R:List (K2×N2)}(h:k∉R.map (·.1)):dget (R.map raD) (k2D k)=Y:=by
 rw[lw,Rq.mpr λr j=>by intro z;exact h (L9.mpr ⟨r,j,of_decide_eq_true z⟩)]
 rfl
theorem lD{k:K2}{R:List (K2×N2)}(h:k∈R.map (·.1)):∃a,(k,a)∈R/\dget (R.map raD) (k2D k)=Z (.ref a):=by
 cases e:R.find? λr=>decide (r.1=k)with
 |none=>obtain⟨r,j,z⟩:=L9.mp h;exact absurd (decide_eq_true z) (Rq.mp e r j)
 |some r=>
  have h1:=Vh e;have h2:=Ru e;have B:r.1=k:=of_decide_eq_true h1;obtain⟨rk,ra⟩:=r
  cases B
  exact⟨ra,h2,by rw[lw,e];rfl⟩
theorem C4{k:K2}{R:List (K2×N2)}(h:k∉R.map (·.1)):fe (R.map raD) (k2D k) (.ref a)=(R++[(k,a)]).map raD:=by
 unfold fe;rw[if_neg,LA]
 ·rfl
 ·intro z;obtain⟨x,hx,j⟩:=MN.mp z;obtain⟨r,B,rfl⟩:=L9.mp hx;exact h (L9.mpr ⟨r,B,sK (of_decide_eq_true j)⟩)
theorem RI.ge{d:N2}{R:List (K2×N2)}{g:K2->List Int}(h:RI d N M R g)(x:Ge M M'):RI d N M' R g:=⟨x _ _ h.dct,h.keys,h.ads,h.nd,λr j=>x _ _ (h.row r j),h.ln,h.out⟩
theorem Run.trans{d:N2}{R R' R'':List (K2×N2)}{g g':K2->List Int}(h:Run d R M R' M')(h2:Run d R' M' R'' M'')(i:RI d N M' R' g')(sub:∀r∈R,r∈R'):Run d R M R'' M'':=by
 refine⟨λr F=>?_,λb o n m e=>?_⟩
 ·rcases h2.ex r F with j|j
  ·exact h.ex r j
  ·by_cases z:r.2∈R.map (·.2)
   ·obtain⟨r',B,e⟩:=L9.mp z;rw[<-e,i.row r' (sub r' B)]at j;cases j
   ·refine .inr ?_
    cases e:M r.2 with
    |none=>rfl
    |some o=>
     by_cases zd:r.2=d
     ·rw[zd,i.dct]at j;cases j
     ·rw[h.kp _ _ zd z e]at j;cases j
 ·refine h2.kp b o n (λz=>?_) (h.kp b o n m e);obtain⟨r',B,e'⟩:=L9.mp z
  rcases h.ex r' B with j|j
  ·exact m (L9.mpr ⟨r',j,e'⟩)
  ·rw[e',e]at j;cases j
theorem RI.new{d:N2}{R:List (K2×N2)}{g:K2->List Int}(h:RI d N M R g){k:K2}(O:k∉R.map (·.1)){J:Mem}(ga:Ge M J)(B:M a=Y)(h1:J a=Z (.lst ((D1 N (0:Int)).map .int))):
 RI d N (af J d (.dct F2 ((R++[(k,a)]).map raD))) (R++[(k,a)]) g/\Run d R M (R++[(k,a)]) (af J d (.dct F2 ((R++[(k,a)]).map raD))):=by
 have F:a≠d:=λz=>by rw[z,h.dct]at B;cases B
 refine⟨⟨ab,?_,?_,?_,?_,h.ln,?_⟩,⟨?_,?_⟩⟩
 ·rw[LA,Pf];exact⟨h.keys,by simp,λx hx y G=>by simp at G;subst G;exactλz=>O (z▸hx)⟩
 ·rw[LA,Pf];refine⟨h.ads,by simp,λx hx y G=>?_⟩
  simp at G;subst G;intro z;obtain⟨r,j,rfl⟩:=L9.mp hx;rw[<-z,h.row r j]at B;cases B
 ·intro r j
  rcases Ld.mp j with j|j
  ·exact h.nd r j
  ·simp at j;subst j;exact F
 ·intro r j
  rcases Ld.mp j with j|j
  ·rw[aD (h.nd r j)];exact ga _ _ (h.row r j)
  ·simp at j;subst j;rw[aD F,h1,h.out k O]
 ·intro k' L;exact h.out k' λz=>L (by rw[LA];exact LD _ z)
 ·intro r j
  rcases Ld.mp j with j|j
  ·exact .inl j
  ·simp at j;subst j;exact .inr B
 ·intro b o n m e;rw[aD n];exact ga _ _ e
theorem RI.put{d:N2}{R:List (K2×N2)}{g:K2->List Int}(h:RI d N M R g){k:K2}(B:(k,a)∈R){row:List Int}(G:row.length=N):
 RI d N (af M a (.lst (row.map .int))) R (λk'=>if k'=k then row else g k')/\Run d R M R (af M a (.lst (row.map .int))):=by
 refine⟨⟨?_,h.keys,h.ads,h.nd,?_,?_,?_⟩,⟨λr h=>.inl h,?_⟩⟩
 ·rw[aD (λz=>h.nd _ B z.symm)];exact h.dct
 ·intro r j
  by_cases e:r=(k,a)
  ·subst e;rw[ab,if_pos rfl]
  ·have na:r.2≠a:=λz=>e (eE h.ads j B z);have nk:r.1≠k:=λz=>e (eE h.keys j B z);rw[aD na,if_neg nk];exact h.row r j
 ·intro k'
  split
  ·exact G
  ·exact h.ln k'
 ·intro k' F;rw[if_neg (λz=>F (L9.mpr ⟨_,B,z.symm⟩))];exact h.out k' F
 ·intro b o n m e;rw[aD (λz=>m (L9.mpr ⟨_,B,z.symm⟩))];exact e
end
section
open L2.Srt
variable{T:List FD}
noncomputable def dg(s:Stmt):FD:=⟨"filled",s,["part"],1,
 (.cons (.ret (.comp [Y,Y] ["at","x"] (.last (.enum (.var 0)) (.tup (.cons (.name 0) (.cons (.name 1) .nil))) (.cons (.cmp .ne (.var 1) (.int 0)) .nil) (.tup (.cons (.var 0) (.cons (.var 1) .nil))))))
 .nil)⟩
theorem nr(hf:T[f]?=Z (dg s))(G:1<=n){x:D}(J:l.length<=1000000)(hx:aJ M x=Z (l.map .int))(q:∀p,M p=Y->Q (.ref p) (af M p (.lst ((nz l).map pD)))):phi T n f [x] M Q:=by
 refine aB ∅ hf rfl (ρ:=[Z _]) rfl ?_
 unfold dg;nofun;refine⟨_,hx,?_⟩;rw[jg];refine aP (f:=pD) (ys:=idx l) (I:=λr ρ M' acc=>(∃o0 z,ρ=[o0,z])/\M'=M/\acc=(r.filter λq=>!(q.2==0)).map pD) rfl ⟨⟨_,_,rfl⟩,rfl,rfl⟩ (λ_ _ _ _ h=>by rw[h.2.1];exact hx) ?_ ?_
 ·rintro l' y r ρ M1 acc e ⟨⟨o0,z,rfl⟩,rfl,rfl⟩;refine⟨_,rfl,λN' j=>?_⟩;have B:=aI e;rw[iH]at B;have F:(l'.filter λq=>!(q.2==0)).length<=l'.length:=Pc _ _;ac_nf
  by_cases hz:y.2=0
  ·rw[if_neg (by simp[hz])]
   refine j _ _ _ ⟨⟨_,_,rfl⟩,rfl,?_⟩;rw[OW,Q7 (by simp[hz])];simp
  ·rw[if_pos (by simp[hz])]
   refine⟨by rw[D2];lia,by rw[r0,D2];lia,j _ _ _ ⟨⟨_,_,rfl⟩,rfl,?_⟩⟩
   rw[OW,Q5 (by simp[hz])];simp[pD]
 ·rintro ρ M1 acc ⟨⟨o0,z,rfl⟩,rfl,rfl⟩ p hp;exact q p hp
theorem qJ{k:Nat}(j:k<l.length):gz (l.set k v) i=if i=k then v else gz l i:=by
 unfold gz
 by_cases h:i<0
 ·rw[if_pos h,if_pos h,if_neg ∅]
 ·rw[if_neg h,if_neg h,KU,KU]
  by_cases e:i=k
  ·subst e;rw[L6,NW j,if_pos rfl];rfl
  ·rw[Pg ∅,if_neg e]
theorem cV{k:Nat}(j:k<l.length):l[k]?=Z (gz l k):=by unfold gz;rw[if_neg ∅,L6,KU,tv j];rfl
theorem i5:gz (D1 n 0) i=0:=by
 unfold gz
 split
 ·rfl
 ·rw[KU]
  cases e:(D1 n (0:Int))[i.toNat]? with
  |none=>rfl
  |some x=>exact List.eq_of_mem_replicate (Lj e)
end
section
open L2.Srt
variable{T:List FD}
noncomputable def ow(n i:Nat):Pr:=(one n (i:Nat),one n (i:Nat),ls n i)
noncomputable def pa(n i j:Nat):Pr:=(bV n i j,bV n i j,one (2*n-1) ((i+j:Nat):Int))
noncomputable def ows(n:Nat):List Pr:=(z4 n).map (ow n)
noncomputable def tri{α:Type}(F:Nat->Nat->α)(n:Nat):List α:=(z4 n).flatMap λi=>(z4 i).map (F i)
noncomputable def trj{α:Type}(F:Nat->Nat->α)(n:Nat):List α:=(z4 n).flatMap λj=>(z4 (n-(j+1))).map λt=>F j (j+1+t)
noncomputable def bp(n:Nat):List Pr:=ows n++trj (pa n) n
theorem xt{i j:Nat}:bV n i j=bV n j i:=by unfold bV;exact LM λh _=>by simp only[or_comm]
theorem C5{i j:Nat}:pa n i j=pa n j i:=by unfold pa;rw[xt,Nat.add_comm]
theorem nv{α:Type}{f:Nat->α}{g:Nat->List α}:∀l:List Nat,(l.flatMap λi=>f i::g i).Perm (l.map f++l.flatMap g)
 |[]=>by simp
 |i::l=>by rw[NA,Lc,NA,Pu,Pu];refine List.Perm.cons _ ?_;refine((nv l).append_left _).trans ?_;rw[<-Lh,<-Lh];exact List.perm_append_comm.append_right _
theorem ku{α:Type}{f:Nat->α}{g:Nat->List α}:∀l:List Nat,(l.flatMap λi=>g i++[f i]).Perm (l.flatMap g++l.map f)
 |[]=>by simp
 |i::l=>by rw[NA,Lc,NA,Lh,Lh];refine LY _ ?_;rw[List.singleton_append];exact((ku l).cons _).trans UN.symm
theorem lF{α:Type}{F:Nat->Nat->α}:∀n,(trj F n).Perm (tri (λi j=>F j i) n)
 |0=>by simp[tri,trj]
 |n+1=>by
  have e1:tri (λi j=>F j i) (n+1)=tri (λi j=>F j i) n++(z4 n).map λj=>F j n:=by unfold tri;rw[P7,Py];simp
  have e2:trj F (n+1)=(z4 n).flatMap λj=>((z4 (n-(j+1))).map λt=>F j (j+1+t))++[F j n]:=by
   unfold trj;rw[P7,Py];have:(List.flatMap (λj=>(z4 (n+1-(j+1))).map λt=>F j (j+1+t)) [n])=[]:=by simp
   rw[this,MJ];unfold List.flatMap;congr 1;refine LM λj z=>?_;have z:=LP.mp z;rw[show n+1-(j+1)=(n-(j+1))+1 by lia,P7,LA]
   simp only[Lc,OR];rw[show j+1+(n-(j+1))=n by lia]
  rw[e1,e2];exact(ku _).trans ((lF n).append_right _)
theorem pp_perm:(pp n).Perm (ows n++tri (pa n) n):=by unfold pp ppI;exact nv _
theorem zK:tri (λi j=>pa n j i) n=tri (pa n) n:=by unfold tri;simp only[C5]
theorem bp_perm:(bp n).Perm (ows n++tri (pa n) n):=by unfold bp;refine LY _ ?_;have:=lF (F:=pa n) n;rw[zK (n:=n)]at this;exact this
theorem bp_pp:(bp n).Perm (pp n):=bp_perm.trans pp_perm.symm
theorem sL{α:Type}{F:Nat->Nat->α}:∀n,2*(tri F n).length+n=n*n
 |0=>by simp[tri]
 |n+1=>by
  have e1:tri F (n+1)=tri F n++(z4 n).map (F n):=by unfold tri;rw[P7,Py];simp
  have:=sL (F:=F) n;rw[e1,I7,r0,LJ,Q8,Tf];lia
theorem C6{α:Type}{F:Nat->Nat->α}(n:Nat):2*(trj F n).length+n=n*n:=by rw[(lF n).length_eq];exact sL n
theorem xu:2*(bp n).length=n*(n+1):=by have:=C6 (F:=pa n) n;unfold bp ows;rw[I7,r0,LJ,Tf];lia
theorem FC(h:n<=50):(bp n).length<=2000:=by
 have:=xu (n:=n);have:n*(n+1)<=50*51:=N4 h ∅
 lia
noncomputable def dI(s:Stmt):FD:=⟨"single_one",s,["length","at","row"],2,
 (.cons (.asg (.name 2) (.bin .mul (.lst (.cons (.int 0) .nil)) (.var 0)))
 (.cons (.put (.var 2) (.var 1) (.int 1))
 (.cons (.ret (.var 2))
 .nil)))⟩
theorem lH(hf:T[f]?=Z (dI s))(U:1<=n){i:Nat}(Fn:L<=1000)(hi:i<L)(q:∀p M',Ge M M'->M p=Y->M' p=Z (.lst ((one L (i:Nat)).map .int))->Q (.ref p) M'):phi T n f [.int L,.int i] M Q:=by
 refine aB ∅ hf rfl (ρ:=[Z _,Z _,Y]) rfl ?_
 unfold dI;nofun;refine⟨by rw[D2];lia,λG F=>?_⟩
 refine⟨_,ab,∅,∅,by rw[D2];simp;lia,λB z=>?_⟩
 rw[L6,Ao];have J:=Ge.new (o:=.lst [.int 0]) F;have g1:=J.trans (Ge.new (o:=.lst (((z4 L).map λ_=>(0:Int)).map D.int)) z);have e1:=ab (M:=af M G (.lst [.int 0])) (a:=B) (o:=.lst (((z4 L).map λ_=>(0:Int)).map D.int));have O:M B=Y:=by
  cases hz:M B with
  |none=>rfl
  |some o=>rw[J _ _ hz]at z;cases z
 generalize af (af M G (.lst [.int 0])) B _=M1 at g1 e1⊢;nofun;refine cb e1 (j:=i) (by rw[r0,r0,LJ];exact uQ hi) ?_
 nofun;refine q B _ (g1.upd O) O ?_;rw[ab,<-R7 (f:=D.int),qH];unfold one;congr 3;exact LM λh _=>by simp only[Int.natCast_inj]
noncomputable def kw(s:Stmt)(fo:Nat):FD:=⟨"own_product",s,["n","i","o","j","part"],2,
 (.cons (.asg (.name 2) (.bin .mul (.lst (.cons (.int 0) .nil)) (.bin .sub (.bin .mul (.int 2) (.var 0)) (.int 1))))
 (.cons (.for (.name 3) (.rng1 (.var 0)) (.cons (.put (.var 2) (.bin .add (.var 1) (.var 3)) (.ite (.cmp .eq (.var 3) (.var 1)) (.int 1) (.neg (.int 1))))
 .nil))
 (.cons (.asg (.name 4) (.blt .tuple (.cons (.call fo (.cons (.var 0) (.cons (.var 1) .nil))) .nil)))
 (.cons (.ret (.tup (.cons (.var 4) (.cons (.var 4) (.cons (.blt .tuple (.cons (.var 2) .nil)) .nil)))))
 .nil))))⟩
theorem Eb(hf:T[f]?=Z (kw s fo))(L:T[fo]?=Z (dI so)){k:Nat}(hk:2<=k){i:Nat}(hn:n<=50)(hi:i<n)(q:∀M',Ge M M'->Q (prD (ow n i)) M'):phi T k f [.int n,.int i] M Q:=by
 refine aB ∅ hf rfl (ρ:=[Z _,Z _,Y,Y,Y]) rfl ?_
 unfold kw;nofun;refine⟨by rw[D2];lia,λfv O=>⟨bT ∅,?_⟩⟩
 refine⟨_,ab,∅,∅,by rw[D2];simp;lia,λpo B=>?_⟩
 rw[show(2*(n:Int)-1).toNat=2*n-1 by lia,Ao]
 have F:=Ge.new (o:=.lst [.int 0]) O;have G:M po=Y:=by
  cases hz:M po with
  |none=>rfl
  |some o=>rw[F _ _ hz]at B;cases B
 have g2:=F.trans (Ge.new (o:=.lst (((z4 (2*n-1)).map λ_=>(0:Int)).map D.int)) B);have e2:=ab (M:=af M fv (.lst [.int 0])) (a:=po) (o:=.lst (((z4 (2*n-1)).map λ_=>(0:Int)).map D.int));generalize af (af M fv (.lst [.int 0])) po (.lst (((z4 (2*n-1)).map λ_=>(0:Int)).map D.int))=M2 at g2 e2⊢;nofun;refine⟨∅,∅,?_⟩
 rw[L6];refine bw (f:=λi=>D.int (i:Nat)) (ys:=z4 n) (I:=λl' ρ M'=>∃U,ρ=[Z (.int n),Z (.int (i:Nat)),Z (.ref po),U,Y]/\Ge M M'/\M' po=Z (.lst (((z4 (2*n-1)).map λk=>if i<=k/\k<i+l'.length then(if k=2*i then(1:Int)else -1)else 0).map D.int))) be ⟨_,rfl,g2,by rw[e2];congr 3;exact LM λk _=>by rw[if_neg (by simp)]⟩ (λ_ _ _ _=>trivial) ?_ ?_
 ·rintro l' j r' ρ M3 e' ⟨U,rfl,g3,J⟩;refine⟨_,rfl,fun F' Fn=>?_⟩;have z:=aI e';rw[LJ]at z;have hj:j=l'.length:=by
   have:=nh e';rw[LC z]at this;exact(MW.inj this).symm
  subst hj;have fin:∀v:Int,v=(if l'.length=i then 1 else -1)->F' [Z (.int n),Z (.int (i:Nat)),Z (.ref po),Z (.int (l'.length:Nat)),Y] (af M3 po (.lst ((((z4 (2*n-1)).map λk=>if i<=k/\k<i+l'.length then(if k=2*i then(1:Int)else -1)else 0).map D.int).set (i+l'.length) (.int v)))):=λv hv=>by
   refine Fn _ _ ⟨_,rfl,g3.upd G,?_⟩;rw[ab,<-R7 (f:=D.int),qH];congr 3;refine LM λk _=>?_;rw[I7,Mp]
   by_cases h1:k=i+l'.length
   ·rw[if_pos h1,if_pos (show i<=k/\k<i+(l'.length+1) by lia),hv]
    by_cases h2:l'.length=i
    ·rw[if_pos h2,if_pos ∅]
    ·rw[if_neg h2,if_neg ∅]
   ·rw[if_neg h1]
    by_cases h2:i<=k/\k<i+l'.length
    ·rw[if_pos h2,if_pos (show i<=k/\k<i+(l'.length+1) by lia)]
    ·rw[if_neg h2,if_neg (show ¬(i<=k/\k<i+(l'.length+1)) by lia)]
  nofun;rw[<-PQ]
  by_cases hz:l'.length=i
  ·rw[if_pos (by simp;lia)]
   refine cb J (j:=i+l'.length) (by rw[r0,r0,LJ];exact uQ ∅) ?_
   exact fin 1 (by rw[if_pos hz])
  ·rw[if_neg (by simp;lia)]
   refine cb J (j:=i+l'.length) (by rw[r0,r0,LJ];exact uQ ∅) ?_
   exact fin (-1) (by rw[if_neg hz])
 ·rintro ρ M3 ⟨U,rfl,g3,J⟩;rw[LJ]at J;dsimp only;nofun;refine lH L ∅ ∅ hi λp1 M4 g4 _ e4=>?_
  refine⟨_,_,rfl,ah e4,?_⟩;nofun;refine⟨_,_,rfl,ah (g4 _ _ J),by rw[D2];lia,?_⟩
  have:=q M4 (g3.trans g4);unfold ow prD ls at this;rw[show((z4 (2*n-1)).map λk=>if i<=k/\k<i+n then(if k=2*i then(1:Int)else -1)else 0)=((z4 (2*n-1)).map λk=>if k=2*i then(1:Int)else if i<=k/\k<i+n then -1 else 0)from LM λk _=>by
   by_cases h1:k=2*i
   ·rw[if_pos h1,if_pos h1,if_pos ∅]
   ·rw[if_neg h1,if_neg h1]]
  exact this
noncomputable def kx(s:Stmt)(fo:Nat):FD:=⟨"pair_product",s,["n","i","j","part"],3,
 (.cons (.asg (.name 3) (.blt .tuple (.cons (.comp [Y,(Z 1),(Z 2)] ["at","i","j"] (.last (.rng1 (.var 0)) (.name 0) .nil (.ite (.cmp .inS (.var 0) (.tup (.cons (.var 1) (.cons (.var 2) .nil)))) (.int 1) (.int 0)))) .nil)))
 (.cons (.ret (.tup (.cons (.var 3) (.cons (.var 3) (.cons (.blt .tuple (.cons (.call fo (.cons (.bin .sub (.bin .mul (.int 2) (.var 0)) (.int 1)) (.cons (.bin .add (.var 1) (.var 2)) .nil))) .nil)) .nil)))))
 .nil))⟩
theorem Ec(hf:T[f]?=Z (kx s fo))(L:T[fo]?=Z (dI so)){k:Nat}(fv:2<=k){i j:Nat}(hn:n<=50)(hi:i<n)(hj:j<n)(q:∀M',Ge M M'->Q (prD (pa n i j)) M'):phi T k f [.int n,.int i,.int j] M Q:=by
 refine aB ∅ hf rfl (ρ:=[Z _,Z _,Z _,Y]) rfl ?_
 unfold kx;nofun;refine⟨∅,∅,?_⟩
 rw[L6];refine aP (f:=λi=>D.int (i:Nat)) (ys:=z4 n) (I:=λr ρ M' acc=>(∃o0,ρ=[o0,Z (.int (i:Nat)),Z (.int (j:Nat))])/\M'=M/\acc=(r.map λh=>if h=i∨h=j then(1:Int)else 0).map .int) be ⟨⟨_,rfl⟩,rfl,rfl⟩ (λ_ _ _ _ _=>trivial) ?_ ?_
 ·rintro r h r2 ρ B acc e10 ⟨⟨o0,rfl⟩,rfl,rfl⟩;refine⟨_,rfl,λN' F=>?_⟩;have G:=aI e10;rw[LJ]at G;ac_nf;refine⟨by rw[D2];lia,[(i:Int),(j:Int)],rfl,?_⟩
  ac_nf
  by_cases z:h=i∨h=j
  ·rw[if_pos (by simp;lia)]
   exact⟨by rw[r0,r0,D2];lia,F _ _ _ ⟨⟨_,rfl⟩,rfl,by rw[LA,LA,Lc,Lc,if_pos z];rfl⟩⟩
  ·rw[if_neg (by simp;lia)]
   exact⟨by rw[r0,r0,D2];lia,F _ _ _ ⟨⟨_,rfl⟩,rfl,by rw[LA,LA,Lc,Lc,if_neg z];rfl⟩⟩
 ·rintro ρ B acc ⟨⟨o0,rfl⟩,rfl,rfl⟩ p2 hp2;refine⟨_,_,rfl,ah ab,?_⟩;have J:=Ge.new (o:=.lst (((z4 n).map λh=>if h=i∨h=j then(1:Int)else 0).map .int)) hp2
  generalize af B p2 (.lst (((z4 n).map λh=>if h=i∨h=j then(1:Int)else 0).map .int))=M11 at J⊢
  nofun;refine⟨bT ∅,?_⟩
  rw[show(2*(n:Int)-1)=((2*n-1:Nat):Int) by lia,<-PQ]
  refine lH L ∅ ∅ ∅ λp1 O U _ Fn=>?_
  exact⟨_,_,rfl,ah Fn,by rw[D2];lia,q O (J.trans U)⟩
noncomputable def uR(s:Stmt)(fo fp:Nat):FD:=⟨"by_pairs",s,["n","products"],1,
 (.cons (.asg (.name 1) (.comp [Y,(Z 0)] ["i","n"] (.last (.rng1 (.var 0)) (.name 0) .nil (.call fo (.cons (.var 1) (.cons (.var 0) .nil))))))
 (.cons (.aug 1 .ext (.comp [Y,Y,(Z 0)] ["i","j","n"] (.more (.rng1 (.var 0)) (.name 0) .nil (.last (.rng2 (.bin .add (.var 0) (.int 1)) (.var 2)) (.name 1) .nil (.call fp (.cons (.var 2) (.cons (.var 0) (.cons (.var 1) .nil))))))))
 (.cons (.ret (.tup (.cons (.var 0) (.cons (.var 0) (.cons (.bin .sub (.bin .mul (.int 2) (.var 0)) (.int 1)) (.cons (.var 1) .nil))))))
 .nil)))⟩
theorem FE{fp:Nat}{sp:Stmt}(hf:T[f]?=Z (uR s fo fp))(Fn:T[fo]?=Z (kw so f1))(fv:T[fp]?=Z (kx sp f1))(L:T[f1]?=Z (dI s1)){k:Nat}(hk:3<=k)(U:n<=50)(h1:1<=n)(q:∀p M',Ge M M'->M p=Y->M' p=Z (.lst ((bp n).map prD))->Q (.tup [.int n,.int n,.int ((2*n-1:Nat):Int),.ref p]) M'):phi T k f [.int n] M Q:=by
 refine aB ∅ hf rfl (ρ:=[Z _,Y]) rfl ?_
 unfold uR;nofun;refine⟨∅,∅,?_⟩
 rw[L6];refine aP (f:=λi=>D.int (i:Nat)) (ys:=z4 n) (I:=λl ρ M' acc=>(∃o0,ρ=[o0,Z (.int n)])/\Ge M M'/\acc=(l.map (ow n)).map prD) be ⟨⟨_,rfl⟩,Ge.refl,rfl⟩ (λ_ _ _ _ _=>trivial) ?_ ?_
 ·rintro l i r ρ M1 acc e ⟨⟨o0,rfl⟩,g1,rfl⟩;refine⟨_,rfl,λN' z=>?_⟩;have B:=aI e;rw[LJ]at B;have hi:i<n:=LP.mp (by rw[e];simp)
  ac_nf;refine Eb Fn L ∅ U hi λM2 g2=>?_
  exact⟨by rw[r0,r0,D2];lia,z _ _ _ ⟨⟨_,rfl⟩,g1.trans g2,by simp⟩⟩
 ·rintro ρ M1 acc ⟨⟨o0,rfl⟩,g1,rfl⟩ G hp1;have hp:M G=Y:=by
   cases hz:M G with
   |none=>rfl
   |some o=>rw[g1 _ _ hz]at hp1;cases hp1
  have g2:=g1.trans (Ge.new (o:=.lst (((z4 n).map (ow n)).map prD)) hp1);have e2:=ab (M:=M1) (a:=G) (o:=.lst (((z4 n).map (ow n)).map prD));generalize af M1 G _=M2 at g2 e2⊢;nofun;refine⟨∅,∅,?_⟩
  rw[L6];have hT:∀l i r,z4 n=l++i::r->(l.flatMap λj=>(z4 (n-(j+1))).map λt=>pa n j (j+1+t)).length+n<=3000:=λl i r e=>by
   have h1:(l.flatMap λj=>(z4 (n-(j+1))).map λt=>pa n j (j+1+t)).length<=l.length*n:=by
    clear e
    induction l with
    |nil=>simp
    |cons j l ih=>rw[NA,I7,r0,LJ,Mf,OQ];lia
   have B:=aI e;rw[LJ]at B;have:l.length*n<=50*50:=N4 ∅ U
   lia
  refine aP (f:=λi=>D.int (i:Nat)) (ys:=z4 n) (I:=λl ρ M' acc=>(∃o0 F,ρ=[o0,F,Z (.int n)])/\Ge M2 M'/\acc=(l.flatMap λj=>(z4 (n-(j+1))).map λt=>pa n j (j+1+t)).map prD) be ⟨⟨_,_,rfl⟩,Ge.refl,rfl⟩ (λ_ _ _ _ _=>trivial) ?_ ?_
  ·rintro l i r ρ M3 acc e ⟨⟨o0,F,rfl⟩,g3,rfl⟩;refine⟨_,rfl,λN' z=>?_⟩;have hi:i<n:=LP.mp (by rw[e];simp)
   have hT:=hT l i r e;ac_nf;refine⟨(i:Int)+1,n,⟨rfl,rfl⟩,⟨∅,∅,∅,∅⟩,?_⟩
   rw[show((n:Int)-((i:Int)+1)).toNat=n-(i+1) by lia]
   refine aP (f:=λt=>D.int ((i:Int)+1+(t:Nat))) (ys:=z4 (n-(i+1))) (I:=λl' ρ M' acc=>(∃F,ρ=[Z (.int i),F,Z (.int n)])/\Ge M2 M'/\acc=((l.flatMap λj=>(z4 (n-(j+1))).map λt=>pa n j (j+1+t))++l'.map λt=>pa n i (i+1+t)).map prD) (by rfl) ⟨⟨_,rfl⟩,g3,by simp⟩ (λ_ _ _ _ _=>trivial) ?_ ?_
   ·rintro l' t r' ρ M4 acc e' ⟨⟨F,rfl⟩,J,rfl⟩;refine⟨_,rfl,λN2 IG=>?_⟩;have O:=aI e';rw[LJ]at O;have ht:t<n-(i+1):=LP.mp (by rw[e'];simp)
    ac_nf;rw[show(i:Int)+1+(t:Int)=((i+1+t:Nat):Int) by lia]
    refine Ec fv L ∅ U hi ∅ λM5 g5=>?_
    refine⟨by rw[r0,I7,r0,D2];lia,IG _ _ _ ⟨⟨_,rfl⟩,J.trans g5,by simp⟩⟩
   ·rintro ρ M4 acc ⟨⟨F,rfl⟩,J,rfl⟩;refine z _ _ _ ⟨⟨_,_,rfl⟩,J,?_⟩;rw[Py];simp
  ·rintro ρ M3 acc ⟨⟨o0,F,rfl⟩,g3,rfl⟩ p3 hp3;have hl:=FC (n:=n) U;unfold bp ows trj at hl;rw[I7]at hl;have J:=g3.trans (Ge.new (o:=.lst (((z4 n).flatMap λj=>(z4 (n-(j+1))).map λt=>pa n j (j+1+t)).map prD)) hp3);refine⟨G,p3,_,_,rfl,rfl,J _ _ e2,ab,by simp only[r0]at hl⊢;rw[D2];lia,?_⟩
   nofun;refine⟨bT ∅,by rw[D2];lia,?_⟩
   rw[show 2*(n:Int)-1=((2*n-1:Nat):Int) by lia]
   refine q G _ ((g2.trans J).upd hp) hp ?_;rw[ab,<-LA];rfl
end
section
open L2.Srt
variable{T:List FD}
noncomputable def at2(rs:List Tm)(i j:Int):Bool:=rs.any λt=>decide (t.1.2=(i,j))
noncomputable def pq(L0 L1 N:Nat)(rs:List Tm)(i j:Int):Pr:=(one L0 i,one L1 j,(z4 N).map λk:Nat=>cf rs (k,i,j))
noncomputable def plJ(L0 L1 N:Nat)(rs:List Tm)(i:Nat)(l:List Nat):List Pr:=(l.filter λj:Nat=>at2 rs i j).map λj:Nat=>pq L0 L1 N rs i j
noncomputable def pl(L0 L1 N:Nat)(rs:List Tm)(l:List Nat):List Pr:=l.flatMap λi=>plJ L0 L1 N rs i (z4 L1)
def lx2(a b:K2):Prop:=a.1<b.1∨(a.1=b.1/\a.2<b.2)
theorem GI{a b:K2}(h:lx2 a b):ltK (kyD (k2D a)) (kyD (k2D b))=F2:=by
 unfold ltK;have e:aw (kyD (k2D a)) (kyD (k2D b))=(aw (.int a.1) (.int b.1)).then ((aw (.int a.2) (.int b.2)).then .eq):=by
  show aw (.tup [.int a.1,.int a.2]) (.tup [.int b.1,.int b.2])=_
  conv=>lhs;unfold aw
  simp only[cmpKs]
 rw[e];simp only[aw]
 rcases h with h|⟨h1,h2⟩
 ·rw[if_pos h];rfl
 ·rw[if_neg ∅,if_pos h1,if_pos h2];rfl
noncomputable def gr(rs:List Tm)(L1:Nat)(l:List Nat):List K2:=l.flatMap λi:Nat=>((z4 L1).filter λj:Nat=>at2 rs i j).map λj:Nat=>((i:Int),(j:Int))
theorem ky{rs:List Tm}{l:List Nat}:pl L0 L1 N rs l=(gr rs L1 l).map λk=>pq L0 L1 N rs k.1 k.2:=by unfold pl gr plJ;rw[UY];simp[MU,Function.comp_def]
theorem gr_lt{rs:List Tm}:(gr rs L1 (z4 L0)).Pairwise lx2:=by
 unfold gr;rw[SR];refine⟨λi _=>?_,?_⟩
 ·rw[Mx];refine(List.pairwise_lt_range.filter _).imp ?_;intro a b h;exact .inr ⟨rfl,by dsimp only;lia⟩
 ·refine List.pairwise_lt_range.imp ?_;intro a b h x hx y j;obtain⟨_,_,rfl⟩:=L9.mp hx;obtain⟨_,_,rfl⟩:=L9.mp j;exact .inl (by dsimp only;lia)
theorem fN{rs:List Tm}(F:InB rs L0 L1 N){k:K2}:k∈gr rs L1 (z4 L0)↔at2 rs k.1 k.2=F2:=by
 unfold gr;constructor
 ·intro h;obtain⟨i,hi,h⟩:=O8.mp h;obtain⟨j,J,rfl⟩:=L9.mp h;exact(NR.mp J).2
 ·intro h;have h':=h;unfold at2 at h';obtain⟨t,G,e⟩:=MN.mp h';have e:t.1.2=(k.1,k.2):=of_decide_eq_true e;have z:=F.i t G;have B:=F.j t G;rw[e]at z B;refine O8.mpr ⟨k.1.toNat,LP.mpr (by dsimp only at z;lia),L9.mpr ⟨k.2.toNat,NR.mpr ⟨LP.mpr (by dsimp only at B;lia),?_⟩,?_⟩⟩
  ·rw[OC z.1,OC B.1];exact h
  ·rw[OC z.1,OC B.1]
theorem FF{rs:List Tm}(J:InB rs L0 L1 N){R:List (K2×N2)}(L:(R.map (·.1)).Nodup)(O:∀i j,(i,j)∈R.map (·.1)↔at2 rs i j=F2){ys:List D}(F:ys.Perm ((R.map raD).map (·.1)))(hs:gk ys):ys=(gr rs L1 (z4 L0)).map k2D:=by
 have e0:(R.map raD).map (·.1)=(R.map (·.1)).map k2D:=by rw[MU,MU];rfl
 rw[e0]at F;obtain⟨ks,G,p2⟩:=eO k2D F rfl;have B:ks.Nodup:=G.nodup_iff.mpr L;rw[<-p2];congr 1;unfold gk at hs;rw[<-p2,Mx]at hs;refine sD (lt:=lx2) (λa b h1 h2=>?_) ((hs.and (Mo.mp B)).imp ?_) gr_lt λx=>?_
 ·unfold lx2 at h1 h2;lia
 ·rintro a b ⟨h1,h2⟩;unfold lx2
  by_cases h3:lx2 b a
  ·rw[GI h3]at h1;cases h1
  ·unfold lx2 at h3
   by_cases h4:a.1=b.1
   ·have:a.2≠b.2:=λz=>h2 (Uc h4 z);lia
   ·lia
 ·rw[fN J,G.mem_iff];exact O x.1 x.2
theorem xv{L0 L1 N:Nat}{rs:List Tm}:∀{l:List Nat},(pl L0 L1 N rs l).length<=l.length*L1
 |[]=>by simp[pl]
 |i::l=>by
  have ih:=xv (L0:=L0) (L1:=L1) (N:=N) (rs:=rs) (l:=l);have h1:(plJ L0 L1 N rs i (z4 L1)).length<=L1:=by unfold plJ;rw[r0];exact Mu (Pc _ _) (by simp)
  unfold pl at ih⊢;rw[NA,I7,Mf,OQ];lia
noncomputable def iJ(s:Stmt)(f1:Nat):FD:=⟨"plain",s,["task","left","right","many","terms","outs","k","i","j","c","products"],1,
 (.cons (.asg (.tup (.cons (.name 1) (.cons (.name 2) (.cons (.name 3) (.cons (.name 4) .nil))))) (.var 0))
 (.cons (.asg (.name 5) (.dnew F2))
 (.cons (.for (.tup (.cons (.name 6) (.cons (.name 7) (.cons (.name 8) (.cons (.name 9) .nil))))) (.seq (.var 4)) (.cons (.ite (.cmp .ninD (.tup (.cons (.var 7) (.cons (.var 8) .nil))) (.var 5)) (.cons (.put (.var 5) (.tup (.cons (.var 7) (.cons (.var 8) .nil))) (.bin .mul (.lst (.cons (.int 0) .nil)) (.var 3)))
 .nil) .nil)
 (.cons (.put (.ix (.var 5) (.tup (.cons (.var 7) (.cons (.var 8) .nil)))) (.var 6) (.var 9))
 .nil)))
 (.cons (.asg (.name 10) (.comp [Y,Y,(Z 1),(Z 2),(Z 5)] ["i","j","left","right","outs"] (.last (.seq (.blt .sorts (.cons (.var 5) .nil))) (.tup (.cons (.name 0) (.cons (.name 1) .nil))) .nil (.tup (.cons (.blt .tuple (.cons (.call f1 (.cons (.var 2) (.cons (.var 0) .nil))) .nil)) (.cons (.blt .tuple (.cons (.call f1 (.cons (.var 3) (.cons (.var 1) .nil))) .nil)) (.cons (.blt .tuple (.cons (.ix (.var 4) (.tup (.cons (.var 0) (.cons (.var 1) .nil)))) .nil)) .nil)))))))
 (.cons (.ret (.tup (.cons (.var 1) (.cons (.var 2) (.cons (.var 3) (.cons (.var 10) .nil))))))
 .nil)))))⟩
theorem sM{i:Nat}(h:i<L):ixN L (i:Nat)=Z i:=by unfold ixN;simp;lia
theorem xw(hf:T[f]?=Z (dI s))(j:1<=n)(z:L<=1000)(h0:0<=i)(h1:i<L)(q:∀p M',Ge M M'->M p=Y->M' p=Z (.lst ((one L i).map .int))->Q (.ref p) M'):phi T n f [.int L,.int i] M Q:=by obtain⟨k,rfl⟩:=LX h0;exact lH hf j z ∅ q
theorem zL(hf:T[f]?=Z (iJ s f1))(IH:T[f1]?=Z (dI s1))(hn:2<=n)(h0:L0<=100)(h1:L1<=100)(hN:N<=100){pt:N2}{rs:List Tm}(ept:M pt=Z (.lst (rs.map tmD)))(II:(rs.map (·.1)).Nodup)(hB:InB rs L0 L1 N)(hl:rs.length<=63)(q:∀p M',Ge M M'->M p=Y->M' p=Z (.lst ((pl L0 L1 N rs (z4 L0)).map prD))->Q (.tup [.int L0,.int L1,.int N,.ref p]) M'):phi T n f [.tup [.int L0,.int L1,.int N,.ref pt]] M Q:=by
 refine aB ∅ hf rfl (ρ:=[Z _,Y,Y,Y,Y,Y,Y,Y,Y,Y,Y]) rfl ?_
 unfold iJ;nofun;nofun;intro d hd;have g0:=Ge.new (o:=.dct F2 []) hd;have d0:=ab (M:=M) (a:=d) (o:=.dct F2 []);generalize af M d (.dct F2 [])=M0 at g0 d0⊢;nofun;refine⟨_,ah (g0 _ _ ept),?_⟩;have J0:pt≠d:=λz=>by rw[z,hd]at ept;cases ept
 refine bw (f:=tmD) (ys:=rs) (I:=λl ρ M'=>∃R g o6 o7 o8 o9 L,ρ=[Z (.tup [.int L0,.int L1,.int N,.ref pt]),Z (.int L0),Z (.int L1),Z (.int N),Z (.ref pt),Z (.ref d),o6,o7,o8,o9,L]/\Ge M M'/\RI d N M' R g/\(∀r∈R,M r.2=Y)/\R.length<=l.length/\(∀k i j,gz (g (i,j)) k=cf l (k,i,j))/\∀i j,(i,j)∈R.map (·.1)↔at2 l i j=F2) rfl ⟨[],λ_=>D1 N 0,_,_,_,_,_,rfl,g0,⟨d0,by simp,by simp,by simp,by simp,by simp,λ_ _=>rfl⟩,by simp,by simp,λk i j=>by rw[i5,fK],by simp[at2]⟩ (λl ρ M' ⟨_,_,_,_,_,_,_,_,g,_⟩=>ah (g _ _ ept)) ?_ ?_
 ·rintro l t r ρ U e ⟨R,g,o6,o7,o8,o9,L,rfl,g1,J,fr,IP,hg,hk⟩;refine⟨_,rfl,λF hF=>?_⟩;have IQ:=aI e;have IR:t∈rs:=by rw[e];simp
  have tB:=hB.k t IR;have IS:cf l t.1=0:=by refine iG λu hu eu=>?_;rw[e,LA,Lc]at II;exact(Pf.mp II).2.2 _ (Lm hu) _ (LH ..) eu
  have ek:D.tup [D.int t.1.2.1,D.int t.1.2.2]=k2D t.1.2:=rfl;refine eh (λρ M'=>ρ=[Z (.tup [.int L0,.int L1,.int N,.ref pt]),Z (.int L0),Z (.int L1),Z (.int N),Z (.ref pt),Z (.ref d),Z (.int t.1.1),Z (.int t.1.2.1),Z (.int t.1.2.2),Z (.int t.2),L]/\∃R',RI d N M' R' g/\Run d R U R' M'/\(∀r∈R,r∈R')/\R'.length<=R.length+1/\(∀k,k∈R'.map (·.1)↔k∈R.map (·.1)∨k=t.1.2)) (λRR hR=>?_) ?_
  ·ac_nf;refine⟨by rw[D2];lia,d,F2,_,rfl,.inl J.dct,rfl,?_⟩
   ac_nf;rw[ek]
   by_cases G:t.1.2∈R.map (·.1)
   ·obtain⟨a,ha,e⟩:=lD G;rw[e];ac_nf;exact hR _ _ ⟨rfl,R,J,Run.refl,λr h=>h,∅,λk=>⟨.inl,λz=>z.elim id λz=>by rw[z];exact G⟩⟩
   ·rw[C3 G];ac_nf;rw[bQ];ac_nf;refine⟨by rw[D2];lia,λp1 IT=>?_⟩
    have IJ:=Ge.new (o:=.lst [.int 0]) IT;refine⟨_,ab,∅,∅,by rw[D2];simp;lia,λp2 Fn=>?_⟩
    have g2:=IJ.trans (Ge.new (o:=.lst (D1 (N:Int).toNat [D.int 0]).flatten) Fn);have IK:U p2=Y:=by
     cases hq:U p2 with
     |none=>rfl
     |some o=>rw[IJ _ _ hq]at Fn;cases Fn
    have e2:af (af U p1 (.lst [.int 0])) p2 (.lst (D1 (N:Int).toNat [D.int 0]).flatten) p2=Z (.lst ((D1 N (0:Int)).map .int)):=by rw[ab,zB];simp
    generalize af (af U p1 (.lst [.int 0])) p2 (.lst (D1 (N:Int).toNat [D.int 0]).flatten)=M2 at g2 e2;refine⟨by rw[D2];lia,qw (g2 _ _ J.dct) rfl (by rw[r0,D2];lia) ?_⟩
    rw[ek,C4 G];obtain⟨B,r2⟩:=J.new G g2 IK e2;exact hR _ _ ⟨rfl,_,B,r2,λr h=>LD _ h,by simp,λk=>by simp⟩
  ·rintro ρ M2 ⟨rfl,R',B,r2,sub,J1,IM⟩;rw[bQ];ac_nf;refine⟨by rw[D2];lia,?_⟩
   rw[ek];obtain⟨a,O,ea⟩:=lD ((IM t.1.2).mpr (.inr rfl));refine wV B.dct rfl ea ?_;obtain⟨kn,ekn⟩:=LX tB.1;have IN:kn<N:=∅
   rw[ekn];refine cb (B.row _ O) (j:=kn) (by rw[r0,B.ln];exact sM IN) ?_
   obtain⟨I3,r3⟩:=B.put O (row:=(g t.1.2).set kn t.2) (by rw[QM];exact B.ln _)
   rw[show((g t.1.2).map D.int).set kn (.int t.2)=((g t.1.2).set kn t.2).map D.int from R7.symm];have rr:=r2.trans (g:=g) r3 B sub;refine hF _ _ ⟨R',_,_,_,_,_,_,rfl,?_,I3,λr hr=>?_,by simp;lia,λk i j=>?_,λi j=>?_⟩
   ·intro b o hb;refine rr.kp b o (λz=>by rw[z,hd]at hb;cases hb) (λz=>?_) (g1 _ _ hb)
    obtain⟨r,hr,rfl⟩:=L9.mp z;rw[fr r hr]at hb;cases hb
   ·rcases rr.ex r hr with h|h
    ·exact fr r h
    ·cases hz:M r.2 with
     |none=>rfl
     |some o=>rw[g1 _ _ hz]at h;cases h
   ·rw[hZ,b9,fK]
    by_cases h:(i,j)=t.1.2
    ·rw[if_pos h,qJ (by rw[B.ln];exact IN)]
     by_cases h3:k=kn
     ·have et:t.1=(k,i,j):=Uc (ekn.trans h3.symm) h.symm;rw[if_pos h3,if_pos et,<-et,IS];lia
     ·rw[if_neg h3,if_neg (λz=>h3 ((congrArg (·.1) z).symm.trans ekn)),<-h,hg];lia
    ·rw[if_neg h,if_neg (λz=>h (congrArg (·.2) z).symm),hg];lia
   ·rw[IM,hk];unfold at2;rw[List.any_append,Nr,List.any_nil,Bool.or_false,QR];exact or_congr Ul ⟨λz=>by simp[z],λz=>(of_decide_eq_true z).symm⟩
 ·rintro ρ U ⟨R,g,o6,o7,o8,o9,L,rfl,g1,J,fr,IP,hg,hk⟩;dsimp only;rw[bQ];ac_nf;refine⟨d,F2,_,.tup [.int,.int],rfl,J.dct,rfl,λkv IU=>?_,by rw[r0];lia,λps ys IV fv IO=>?_⟩
  ·obtain⟨t,_,rfl⟩:=L9.mp IU;rfl
  have ey:=FF hB J.keys hk fv IO;subst ey;have g2:=Ge.new (o:=.lst ((gr rs L1 (z4 L0)).map k2D)) IV;have e2:=ab (M:=U) (a:=ps) (o:=.lst ((gr rs L1 (z4 L0)).map k2D));have B:=J.ge g2;have g2:=g1.trans g2;generalize af U ps (.lst ((gr rs L1 (z4 L0)).map k2D))=M2 at g2 e2 B⊢;refine⟨_,ah e2,?_⟩;refine aP (f:=k2D) (ys:=gr rs L1 (z4 L0)) (I:=λl ρ M' acc=>(∃o0 o1,ρ=[o0,o1,Z (.int L0),Z (.int L1),Z (.ref d)])/\Ge M2 M'/\acc=(l.map λk=>pq L0 L1 N rs k.1 k.2).map prD) rfl ⟨⟨_,_,rfl⟩,Ge.refl,rfl⟩ (λ_ _ _ _ h=>ah (h.2.1 _ _ e2)) ?_ ?_
  ·rintro lk k rk ρ M3 acc ek ⟨⟨o0,o1,rfl⟩,g3,rfl⟩;refine⟨_,rfl,λN' IW=>?_⟩;have IX:k∈gr rs L1 (z4 L0):=by rw[ek];simp
   have IG:=(fN hB).mp IX;have IY:=(hk k.1 k.2).mpr IG;have IQ:=aI ek;have IZ:=xv (L0:=L0) (L1:=L1) (N:=N) (rs:=rs) (l:=z4 L0);rw[ky,r0,LJ]at IZ;have h6:L0*L1<=100*100:=N4 h0 h1;unfold at2 at IG;obtain⟨t,ht,et⟩:=MN.mp IG;have et:t.1.2=(k.1,k.2):=of_decide_eq_true et;have b1:=hB.i t ht;have b2:=hB.j t ht;rw[et]at b1 b2;ac_nf;refine xw IH ∅ ∅ b1.1 b1.2 λp4 M4 g4 _ e4=>⟨_,_,rfl,ah e4,?_⟩
   refine xw IH ∅ ∅ b2.1 b2.2 λp5 M5 g5 _ e5=>⟨_,_,rfl,ah e5,?_⟩
   have g5:=(g3.trans g4).trans g5;have I5:=B.ge g5;obtain⟨a,O,ea⟩:=lD IY;refine⟨by rw[D2];lia,wV I5.dct rfl ea ⟨_,_,rfl,ah (I5.row _ O),?_⟩⟩
   refine⟨by rw[D2];lia,by rw[r0,r0,D2];lia,IW _ _ _ ⟨⟨_,_,rfl⟩,g5,?_⟩⟩
   rw[LA,LA];congr 1;have eg:g (k.1,k.2)=(z4 N).map λm:Nat=>cf rs (m,k.1,k.2):=by
    apply Ny;intro m;rw[L8]
    by_cases hm:m<N
    ·rw[LC hm,cV (by rw[J.ln];exact hm),hg];rfl
    ·rw[Mq (by rw[J.ln];lia),Mq (by simp;lia)];rfl
   show[D.tup [_,_,D.tup ((g (k.1,k.2)).map D.int)]]=_;rw[eg];rfl
  ·rintro ρ M3 acc ⟨⟨o0,o1,rfl⟩,g3,rfl⟩ p6 hp6;have g6:=Ge.new (o:=.lst (((gr rs L1 (z4 L0)).map λk=>pq L0 L1 N rs k.1 k.2).map prD)) hp6;nofun;refine⟨by rw[D2];lia,q p6 _ ((g2.trans g3).trans g6) ?_ (by rw[ab,ky])⟩
   cases hz:M p6 with
   |none=>rfl
   |some o=>rw[(g2.trans g3) _ _ hz]at hp6;cases hp6
theorem xx{a b:K2}(h:lx2 a b):a≠b:=λz=>by subst z;unfold lx2 at h;lia
theorem sN{α:Type}[BEq α][LawfulBEq α]:∀{l m:List α},l.Nodup->(∀x∈l,x∈m)->l.length<=m.length
 |[],_,_,_=>NF _
 |x::l,m,j,h=>by
  rw[MV]at j;have ih:=sN (l:=l) (m:=m.erase x) j.2 λy B=>by
   rw[List.mem_erase_of_ne (λz=>j.1 (by rw[<-z];exact B))]
   exact h y (Lq _ B)
  rw[List.length_erase_of_mem (h x LH)]at ih;have:=List.length_pos_of_mem (h x LH);rw[Mf];lia
theorem FG{rs:List Tm}(j:InB rs L0 L1 N):(pl L0 L1 N rs (z4 L0)).length<=rs.length:=by rw[ky,r0,<-r0 (as:=rs) (f:=λt:Tm=>t.1.2)];refine sN (Mo.mpr (gr_lt.imp xx)) λk z=>?_;have h:=(fN j).mp z;unfold at2 at h;obtain⟨t,B,e⟩:=MN.mp h;exact L9.mpr ⟨t,B,of_decide_eq_true e⟩
theorem nA:cU (one L i):=λx hx=>by
 obtain⟨m,_,rfl⟩:=L9.mp hx
 split<;>lia
theorem FH{rs:List Tm}(hs:∀k,-1000<=cf rs k/\cf rs k<=1000):∀p∈pl L0 L1 N rs (z4 L0),uK L0 L1 N p:=λp j=>by
 rw[ky]at j;obtain⟨k,_,rfl⟩:=L9.mp j;refine⟨fM,fM,by simp[pq],nA,nA,λx hx=>?_⟩
 obtain⟨m,_,rfl⟩:=L9.mp hx;exact hs _
theorem Ap{L0 L1 N:Nat}{rs:List Tm}{k i j:Int}:∀{ks:List K2},ks.Nodup->(∀x∈ks,(0<=x.1/\x.1<L0)/\(0<=x.2/\x.2<L1))->Tn (ks.map λx=>pq L0 L1 N rs x.1 x.2) k i j=if(i,j)∈ks then gz ((z4 N).map λm:Nat=>cf rs (m,i,j)) k else 0
 |[],_,_=>by simp[Tn]
 |x::ks,B,F=>by
  rw[MV]at B;have ih:=Ap (N:=N) (rs:=rs) (k:=k) (i:=i) (j:=j) B.2 λy L=>F y (by simp[L])
  obtain⟨G,J⟩:=F x (by simp)
  rw[Lc,df,ih];unfold pq;dsimp only;rw[i4 G.1 G.2,i4 J.1 J.2]
  by_cases e:(i,j)=x
  ·subst e;rw[if_pos rfl,if_pos rfl,if_neg B.1,if_pos (by simp)];simp
  ·have hm:((i,j)∈x::ks)↔(i,j)∈ks:=⟨λz=>by rcases KZ.mp z with z|z;exact absurd z e;exact z,λz=>Lq _ z⟩
   have O:(if i=x.1 then(1:Int)else 0)*(if j=x.2 then 1 else 0)=0:=by
    by_cases e1:i=x.1
    ·rw[if_neg (λz=>e (Uc e1 z))];simp
    ·rw[if_neg e1];simp
   rw[O];simp only[hm];simp
theorem Aq{rs:List Tm}(B:InB rs L0 L1 N){k:Int}:Tn (pl L0 L1 N rs (z4 L0)) k i j=cf rs (k,i,j):=by
 have G:∀x∈gr rs L1 (z4 L0),(0<=x.1/\x.1<L0)/\(0<=x.2/\x.2<L1):=λx hx=>by have h:=(fN B).mp hx;unfold at2 at h;obtain⟨t,F,e⟩:=MN.mp h;have e:t.1.2=(x.1,x.2):=of_decide_eq_true e;have J:=B.i t F;have L:=B.j t F;rw[e]at J L;exact⟨J,L⟩
 rw[ky,Ap (Mo.mpr (gr_lt.imp xx)) G];have out:(¬(0<=k/\k<N)∨at2 rs i j≠F2)->cf rs (k,i,j)=0:=λh=>iG λt F e=>by
  rcases h with h|h
  ·have:=B.k t F;rw[e]at this;exact h this
  ·exact h (MN.mpr ⟨t,F,by simp[e]⟩)
 by_cases h:at2 rs i j=F2
 ·rw[if_pos ((fN B).mpr h)]
  by_cases hk:0<=k/\k<N
  ·obtain⟨m,rfl⟩:=LX hk.1;have hm:m<N:=by lia
   unfold gz;rw[if_neg ∅,L6,KU,L8,LC hm];rfl
  ·rw[out (.inl hk)];apply Classical.byContradiction;intro z;have:=eC z;simp at this;exact hk this
 ·rw[if_neg (λz=>h ((fN B).mp z)),out (.inr h)]
end
section
open L2.Srt
noncomputable def ngL(l:List Int):List Int:=l.map λx=>0-x
theorem FI:gz (ngL l) i = -gz l i:=by
 have e:ngL l=l.map ((-1) * ·):=by unfold ngL;exact LM λx _=>∅
 rw[e,xp];lia
theorem zM(h:cU l):cU (ngL l):=λx hx=>by unfold ngL at hx;obtain⟨y,j,rfl⟩:=L9.mp hx;have:=h y j;lia
theorem xz:(ngL l).length=l.length:=by simp[ngL]
theorem sP{a b:List Pr}(h:a.Perm b){k:Int}:Tn a k i j=Tn b k i j:=by
 induction h with
 |nil=>rfl
 |cons x _ ih=>rw[df,df,ih]
 |swap x y l=>simp only[df];lia
 |trans _ _ z B=>rw[z,B]
end
section
open L2.Srt
variable{T:List FD}
theorem Ed{ps:List Pr}{a:Nat}{k:Int}:Tn (ps.drop a++ps.take a) k i j=Tn ps k i j:=by rw[sP (Of),MX]
theorem FJ{r o:List Int}{k:Int}:tm (l,r,o) k i j+tm (l,r,ngL o) k i j=0:=by unfold tm;dsimp only;rw[FI,Int.mul_neg];lia
theorem xA{a:Nat}(h:a<=ds.length):bX ds (Z (a:Int)) Y=ds.drop a:=by unfold bX;rw[HT.sIx_none,HT.sIx_nat,N7 h,Nw (by simp)]
theorem xB{a:Nat}(h:a<=ds.length):bX ds Y (Z (a:Int))=ds.take a:=by unfold bX;rw[HT.sIx_none,HT.sIx_nat,N7 h,Tb,Nat.sub_zero]
end
section
open L2.Srt
variable{T:List FD}
noncomputable abbrev Bks:=List (N2×List Int)
structure RwAt(M:Mem)(p:N2)(R:Bks)(W:Nat):Prop where
 at':M p=Z (.lst (R.map λr=>.ref r.1))
 row:∀r∈R,M r.1=Z (.lst (r.2.map .int))/\r.2.length=W
theorem RwAt.ge{R:Bks}(h:RwAt M p R W)(g:Ge M M'):RwAt M' p R W:=⟨g _ _ h.at',λr j=>⟨g _ _ (h.row r j).1,(h.row r j).2⟩⟩
noncomputable def jh(c:Int)(m b:List Int):List Int:=(m.zip b).map λu=>u.1+c*u.2
noncomputable def ax(B:List (List Int))(W:Nat)(zs:List (Int×Int)):List Int:=zs.foldl (λm z=>jh z.2 m (B.getD z.1.toNat [])) (D1 W 0)
theorem eW{B:List (List Int)}{z:Int×Int}:ax B W (zs++[z])=jh z.2 (ax B W zs) (B.getD z.1.toNat []):=by unfold ax;rw[Qo];rfl
theorem ji{m b:List Int}(h:m.length=W)(g:b.length=W):(jh c m b).length=W:=by simp[jh,h,g]
theorem fO{z:Int×Int}(h:z∈nz l):∃i:Nat,z.1=i/\i<l.length/\l[i]?=Z z.2:=by unfold nz idx at h;obtain⟨h,_⟩:=NR.mp h;obtain⟨i,hi,e⟩:=List.mem_mapIdx.mp h;subst e;exact⟨i,rfl,hi,tv hi⟩
theorem kz{α:Type}{xs:List α}{i:Nat}{x:α}(h:xs[i]?=Z x):atI xs (i:Nat)=Z x:=by
 have:=(L7.mp h).1;unfold atI ixN;rw[if_pos ∅,if_pos ∅,OF,L6]
 exact h
theorem qK:∀{a b:List Int},Qg ik (a.map .int) (b.map .int)=(a.zip b).map pD
 |[],_=>by simp
 |_::_,[]=>by simp
 |x::a,y::b=>by have:=qK (a:=a) (b:=b);simp only[Lc,Sy,PV,this];rfl
noncomputable def i6(s:Stmt)(ff:Nat):FD:=⟨"block_sum",s,["part","blocks","made","at","c"],2,
 (.cons (.asg (.name 2) (.bin .mul (.lst (.cons (.int 0) .nil)) (.blt .len (.cons (.ix (.var 1) (.int 0)) .nil))))
 (.cons (.for (.tup (.cons (.name 3) (.cons (.name 4) .nil))) (.seq (.call ff (.cons (.var 0) .nil))) (.cons (.asg (.name 2) (.comp [Y,Y,(Z 4)] ["x","y","c"] (.last (.zip (.var 2) (.ix (.var 1) (.var 3))) (.tup (.cons (.name 0) (.cons (.name 1) .nil))) .nil (.bin .add (.var 0) (.bin .mul (.var 2) (.var 1))))))
 .nil))
 (.cons (.ret (.var 2))
 .nil)))⟩
theorem sQ(hf:T[f]?=Z (i6 s ff))(IG:T[ff]?=Z (dg sf))(hn:2<=n){R:Bks}{pb:N2}(hR:RwAt M pb R W)(hl:l.length=R.length)(h0:1<=R.length)(hb:R.length<=1000)(hw:W<=100000)(hs:∀x∈l,-(2^64)<x/\x<2^64)(q:∀p M',Ge M M'->M p=Y->M' p=Z (.lst ((ax (R.map (·.2)) W (nz l)).map .int))->Q (.ref p) M'):phi T n f [.tup (l.map .int),.ref pb] M Q:=by
 refine aB ∅ hf rfl (ρ:=[Z _,Z _,Y,Y,Y]) rfl ?_
 unfold i6;nofun;refine⟨by rw[D2];decide,λp1 IH=>?_⟩
 have g1:Ge M (af M p1 (.lst [.int 0])):=.new IH;have G:=hR.ge g1;obtain⟨j,R',rfl⟩:∃j R',R=j::R':=by
  cases R with
  |nil=>simp at h0
  |cons j R'=>exact⟨j,R',rfl⟩
 refine aS G.at' (d:=.ref j.1) (by simp[atI,ixN]) ?_
 refine b7 (G.row j (LH ..)).1 ?_;rw[r0,(G.row j (LH ..)).2];refine wMul_r.mpr ⟨[.int 0],ab,∅,∅,by rw[D2];simp;lia,λp2 J=>?_⟩
 rw[show(D1 (W:Int).toNat [D.int 0]).flatten=(D1 W (0:Int)).map .int by simp]
 have g2:=g1.trans (.new (o:=.lst ((D1 W (0:Int)).map .int)) J);have IK:=hR.ge g2;nofun;refine nr IG ∅ (l:=l) ∅ rfl λp3 L=>?_
 refine⟨_,ah ab,?_⟩;have g3:=g2.trans (.new (o:=.lst ((nz l).map pD)) L);refine bw (f:=pD) (ys:=nz l) (I:=λzs ρ M'=>∃pm fv o4,ρ=[Z (.tup (l.map .int)),Z (.ref pb),Z (.ref pm),fv,o4]/\Ge M M'/\M pm=Y/\M' pm=Z (.lst ((ax ((j::R').map (·.2)) W zs).map .int))/\(ax ((j::R').map (·.2)) W zs).length=W/\M' p3=Z (.lst ((nz l).map pD))) rfl ?_ ?_ ?_ ?_
 ·refine⟨p2,Y,Y,rfl,g3,?_,?_,by simp[ax],ab⟩
  ·cases e:M p2 with
   |none=>rfl
   |some o=>rw[g1 _ _ e]at J;cases J
  ·rw[aD (λz=>by subst z;rw[ab]at L;cases L)]
   exact ab
 ·rintro zs ρ M' ⟨pm,fv,o4,rfl,g,n0,em,ln,U⟩;exact ah U
 ·rintro zs z r ρ M' e ⟨pm,fv,o4,rfl,g,n0,em,ln,U⟩;refine⟨_,rfl,λF hF=>?_⟩;nofun;obtain⟨i,ei,hi,ez⟩:=fO (show z∈nz l by rw[e];simp)
  have IM:=hs _ (Lj ez);obtain⟨b,eb⟩:∃b,(j::R')[i]?=Z b:=⟨_,tv ∅⟩
  have O:=Lj eb;have B:=hR.ge g;refine aS B.at' (d:=.ref b.1) ?_ ?_
  ·rw[ei];exact kz (by rw[L8,eb];rfl)
  have hB:((j::R').map (·.2)).getD z.1.toNat []=b.2:=by rw[ei,L6,KU,L8,eb];rfl
  refine⟨_,ah em,_,ah (B.row b O).1,?_⟩;rw[qK];refine aP (f:=pD) (ys:=(ax ((j::R').map (·.2)) W zs).zip b.2) (I:=λt ρ M'' acc=>(∃o0 o1,ρ=[o0,o1,Z (.int z.2)])/\M''=M'/\acc=(t.map λu=>u.1+z.2*u.2).map .int) rfl ⟨⟨_,_,rfl⟩,rfl,rfl⟩ ?_ ?_ ?_
  ·rintro t ρ M1 acc ⟨_,rfl,_⟩;exact⟨ah em,ah (B.row b O).1⟩
  ·rintro t u r' ρ M1 acc e' ⟨⟨o0,o1,rfl⟩,rfl,rfl⟩;refine⟨_,rfl,λN' II=>?_⟩;have IJ:=aI e';ac_nf;refine⟨bT ⟨∅,∅⟩,?_⟩
   rw[List.length_zip,ln]at IJ;exact⟨by rw[r0,r0,D2];lia,II _ _ _ ⟨⟨_,_,rfl⟩,rfl,by simp⟩⟩
  ·rintro ρ M1 acc ⟨⟨o0,o1,rfl⟩,rfl,rfl⟩ p Fn;refine hF _ _ ⟨p,_,_,rfl,g.trans (.new Fn),?_,?_,?_,?_⟩
   ·cases e9:M p with
    |none=>rfl
    |some o=>rw[g _ _ e9]at Fn;cases Fn
   ·rw[ab,eW,hB];rfl
   ·rw[eW,hB];exact ji ln (B.row b O).2
   ·rw[aD (λy=>by subst y;rw[U]at Fn;cases Fn)];exact U
 ·rintro ρ M' ⟨pm,fv,o4,rfl,g,n0,em,ln,U⟩;nofun;exact q _ _ g n0 em
end
section
open L2.Srt
variable{T:List FD}
noncomputable def bI(t:List Int)(us:List (Int×Int))(c:Int):List Int:=us.foldl (λt u=>t.set u.1.toNat (gz t u.1+c*u.2)) t
noncomputable def ck(P:List (List Int))(t:List Int)(zs:List (Int×Int))(b:List Int):List Int:=zs.foldl (λt z=>bI t ((P.getD z.1.toNat []).zip b) z.2) t
noncomputable def bR(mul:List Int->List Int->List Int)(BL BR:List (List Int))(W:Nat)(P:List (List Int))(N:Nat)(ps:List Pr):List Int:=ps.foldl (λt p=>ck P t (nz p.2.2) (mul (ax BL W (nz p.1)) (ax BR W (nz p.2.1)))) (D1 N 0)
theorem eX{c:Int}:∀{us:List (Int×Int)} {t:List Int},(bI t us c).length=t.length
 |[],_=>rfl
 |u::us,t=>by show(bI (t.set _ _) us c).length=_;rw[eX (us:=us),QM]
theorem kA{us:List (Int×Int)}{u:Int×Int}{t:List Int}:bI t (us++[u]) c=(bI t us c).set u.1.toNat (gz (bI t us c) u.1+c*u.2):=by unfold bI;rw[Qo];rfl
theorem nB{P:List (List Int)}{t:List Int}{z:Int×Int}{b:List Int}:ck P t (zs++[z]) b=bI (ck P t zs b) ((P.getD z.1.toNat []).zip b) z.2:=by unfold ck;rw[Qo];rfl
theorem gB{P:List (List Int)}{b:List Int}:∀{zs:List (Int×Int)} {t:List Int},(ck P t zs b).length=t.length
 |[],_=>rfl
 |z::zs,t=>by show(ck P (bI t _ _) zs b).length=_;rw[gB (zs:=zs),eX]
theorem gC{mul:List Int->List Int->List Int}{BL BR:List (List Int)}{W:Nat}{P:List (List Int)}{N:Nat}{ps:List Pr}{p:Pr}:bR mul BL BR W P N (ps++[p])=ck P (bR mul BL BR W P N ps) (nz p.2.2) (mul (ax BL W (nz p.1)) (ax BR W (nz p.2.1))):=by unfold bR;rw[Qo];rfl
theorem eY{BL BR P:List (List Int)}{ps:List Pr}:(bR mul BL BR W P N ps).length=N:=by
 refine bx (P:=λps=>(bR mul BL BR W P N ps).length=N) (by simp[bR]) (λl x ih=>?_) ps
 rw[gC,gB,ih]
noncomputable def kB(s:Stmt)(fs ff:Nat):FD:=⟨"by_blocks",s,["scheme","lefts","rights","places","multiply","told","times","l","r","o","block","more","k","c","at","x",""],5,
 (.cons (.par 5 6 (.bin .mul (.lst (.cons (.int 0) .nil)) (.bin .add (.ix (.ix (.var 3) (.neg (.int 1))) (.neg (.int 1))) (.int 1))) (.int 0))
 (.cons (.for (.tup (.cons (.name 7) (.cons (.name 8) (.cons (.name 9) .nil)))) (.seq (.ix (.var 0) (.int 3))) (.cons (.asg (.tup (.cons (.name 10) (.cons (.name 11) .nil))) (.callC 4 (.cons (.call fs (.cons (.var 7) (.cons (.var 1) .nil))) (.cons (.call fs (.cons (.var 8) (.cons (.var 2) .nil))) .nil))))
 (.cons (.aug 6 .add (.var 11))
 (.cons (.for (.tup (.cons (.name 12) (.cons (.name 13) .nil))) (.seq (.call ff (.cons (.var 9) .nil))) (.cons (.for (.tup (.cons (.name 14) (.cons (.name 15) .nil))) (.zip (.ix (.var 3) (.var 12)) (.var 10)) (.cons (.augI (.var 5) (.var 14) .add (.bin .mul (.var 13) (.var 15)))
 .nil))
 .nil))
 .nil))))
 (.cons (.ret (.tup (.cons (.var 5) (.cons (.var 6) .nil))))
 .nil)))⟩
theorem xC(s:Stmt)(fs ff:Nat):(kB s fs ff).takes:=by show(Lw "")∈([_,_,_,_,_,_,_,_,_,_,_,_,_,_,_,_,Lw ""]:List Str);simp only[KZ,true_or,or_true]
theorem sR{α:Type}{xs:List α}{x:α}(h:xs.getLast?=Z x):atI xs (-1)=Z x:=by
 rw[Px]at h;have:=(L7.mp h).1;unfold atI ixN;rw[if_neg ∅,if_pos ∅,OF]
 rw[<-h];congr 1;lia
theorem kC{M2:Mem}(g:Ge M M2)(h:M p=Y):Ge M (af M2 p o):=λa o' e=>by rw[aD (λz=>by rw[z,h]at e;cases e)];exact g _ _ e
theorem i7(g:Ge M M')(h:M' p=Y):M p=Y:=by
 cases e:M p with
 |none=>rfl
 |some o=>rw[g _ _ e]at h;cases h
theorem Ee {fs:Nat}{ss:Stmt}(hf:T[f]?=Z (kB s fs ff))(II:T[fs]?=Z (i6 ss ff))(L:T[ff]?=Z (dg sf))(h5:fs<5000/\ff<5000/\f<1000){j:Nat}(hn:4<=n)(hj:j<1000){gs:List D}{pp pL pR pP:N2}{a0 a1 a2:D}{ps:List Pr}{RL RR RP:Bks}{V tm:Nat}(ep:M pp=Z (.lst (ps.map prD)))(hL:RwAt M pL RL W)(hR:RwAt M pR RR W)(hP:RwAt M pP RP V)(h0:1<=RL.length/\RL.length<=1000/\1<=RR.length/\RR.length<=1000/\1<=RP.length/\RP.length<=1000)(hw:W<=100000)(hv:1<=V/\V<=100000)(hN:N<=1000000)(hl:∀p∈ps,p.1.length=RL.length/\p.2.1.length=RR.length/\p.2.2.length=RP.length)(hs:∀p∈ps,(∀x∈p.1,-(2^64)<x/\x<2^64)/\(∀x∈p.2.1,-(2^64)<x/\x<2^64)/\∀x∈p.2.2,-(2^64)<x/\x<2^64)(IQ:∀r∈RP,∀x∈r.2,0<=x/\x<N)(IR:∃r,RP.getLast?=Z r/\r.2.getLast?=Z ((N:Int)-1))(IS:∀p∈ps,(mul (ax (RL.map (·.2)) W (nz p.1)) (ax (RR.map (·.2)) W (nz p.2.1))).length=V)(hmul:∀{p x y O Q1},p∈ps->Ge M O->O x=Z (.lst ((ax (RL.map (·.2)) W (nz p.1)).map .int))->O y=Z (.lst ((ax (RR.map (·.2)) W (nz p.2.1)).map .int))->
   (∀z M2,Ge O M2->O z=Y->M2 z=Z (.lst ((mul (ax (RL.map (·.2)) W (nz p.1)) (ax (RR.map (·.2)) W (nz p.2.1))).map .int))->Q1 (.tup [.ref z,.int tm]) M2)->rOf (phi T (n-1)) j gs js [.ref x,.ref y] O Q1)(q:∀p M',Ge M M'->M p=Y->M' p=Z (.lst ((bR mul (RL.map (·.2)) (RR.map (·.2)) W (RP.map (·.2)) N ps).map .int))->Q (.tup [.ref p,.int (ps.length*tm:Nat)]) M'):
 phi T n (1000+f) [.tup [a0,a1,a2,.ref pp],.ref pL,.ref pR,.ref pP,.ref a,.int (j:Nat),.tup gs,.tup ((js:List Nat).map λi:Nat=>.int i)] M Q:=by
 refine zz (xs:=[.tup [a0,a1,a2,.ref pp],.ref pL,.ref pR,.ref pP]) ∅ ∅ hj hf (xC s fs ff) rfl (ρ:=[Z _,Z _,Z _,Z _,Z _,Y,Y,Y,Y,Y,Y,Y,Y,Y,Y,Y,Y]) rfl ?_
 unfold kB;nofun;refine⟨by rw[D2];decide,λp1 IT=>?_⟩
 have g1:Ge M (af M p1 (.lst [.int 0])):=.new IT;obtain⟨rl,el,IU⟩:=IR;have IJ:=hP.ge g1;refine aS IJ.at' (d:=.ref rl.1) (sR (by rw[RF,el];rfl)) ?_
 refine aS (IJ.row rl (List.mem_of_getLast? el)).1 (d:=.int ((N:Int)-1)) (sR (by rw[RF,IU];rfl)) ?_
 rw[E1,show(N:Int)-1+1=N by lia]
 refine wMul_r.mpr ⟨[.int 0],ab,∅,∅,by rw[D2];simp;lia,λpt IK=>?_⟩
 rw[show(D1 (N:Int).toNat [D.int 0]).flatten=(D1 N (0:Int)).map .int by simp]
 have g2:=g1.trans (.new (o:=.lst ((D1 N (0:Int)).map .int)) IK);have npt:=i7 g1 IK;have eps:=g2 _ _ ep;nofun;refine⟨_,rfl,_,ah eps,?_⟩;refine bw (f:=prD) (ys:=ps) (I:=λl ρ M'=>∃o7 o8 o9 IV IW U Fn B G,ρ=[Z (.tup [a0,a1,a2,.ref pp]),Z (.ref pL),Z (.ref pR),Z (.ref pP),Z (.ref a),Z (.ref pt),Z (.int (l.length*tm:Nat)),o7,o8,o9,IV,IW,U,Fn,B,G,Y]/\Ge M M'/\M' pt=Z (.lst ((bR mul (RL.map (·.2)) (RR.map (·.2)) W (RP.map (·.2)) N l).map .int))) rfl ?_ ?_ ?_ ?_
 ·exact⟨Y,Y,Y,Y,Y,Y,Y,Y,Y,by simp,g2,ab⟩
 ·rintro l ρ M' ⟨_,_,_,_,_,_,_,_,_,rfl,g,_⟩;exact ah (g _ _ ep)
 ·rintro l p r ρ M' e ⟨_,_,_,_,_,_,_,_,_,rfl,g,et⟩;refine⟨_,rfl,λF hF=>?_⟩;have hp:p∈ps:=by rw[e];simp
  obtain⟨l1,l2,l3⟩:=hl p hp;obtain⟨s1,s2,s3⟩:=hs p hp;have lo:p.2.2.length<=1000:=by rw[l3];exact h0.2.2.2.2.2
  nofun;refine⟨a,rfl,?_⟩;ac_nf;refine lg (sQ II L ∅ (hL.ge g) l1 h0.1 h0.2.1 hw s1 λx O gx nx ex=>?_) h5.1
  refine lg (sQ II L ∅ ((hR.ge g).ge gx) l2 h0.2.2.1 h0.2.2.2.1 hw s2 λy M2 gy ny ey=>?_) h5.1
  have gm:=(g.trans gx).trans gy;refine BH (hmul hp gm (gy _ _ ex) ey λz M3 gz' nz' ez=>?_);have g3:=gm.trans gz';refine⟨_,rfl,?_⟩;nofun;have IM:=(gx.trans gy |>.trans gz') _ _ et
  nofun;refine lg (nr L ∅ (l:=p.2.2) ∅ rfl λpz J=>?_) h5.2.1
  have g4:=g3.trans (.new (o:=.lst ((nz p.2.2).map pD)) J);have fv:af M3 pz (.lst ((nz p.2.2).map pD)) z=_:=Ge.new (o:=.lst ((nz p.2.2).map pD)) J _ _ ez;have IG:af M3 pz (.lst ((nz p.2.2).map pD)) pt=_:=Ge.new (o:=.lst ((nz p.2.2).map pD)) J _ _ IM;have IH:af M3 pz (.lst ((nz p.2.2).map pD)) pz=Z (.lst ((nz p.2.2).map pD)):=ab;have nzp:z≠pt:=λy=>by subst y;rw[(gx.trans gy) _ _ et]at nz';cases nz'
  have npp:pz≠pt:=λy=>by subst y;rw[IM]at J;cases J
  generalize af M3 pz (.lst ((nz p.2.2).map pD))=M4 at g4 fv IG IH⊢;have IN:(bR mul (RL.map (·.2)) (RR.map (·.2)) W (RP.map (·.2)) N l).length=N:=eY;have hb:=IS p hp;have fin:=@gC mul (RL.map (·.2)) (RR.map (·.2)) W (RP.map (·.2)) N l p;generalize bR mul (RL.map (·.2)) (RR.map (·.2)) W (RP.map (·.2)) N l=t0 at IG IN fin;generalize mul (ax (RL.map (·.2)) W (nz p.1)) (ax (RR.map (·.2)) W (nz p.2.1))=b at fv hb fin;refine⟨_,ah IH,?_⟩;refine bw (f:=pD) (ys:=nz p.2.2) (I:=λzs ρ M'=>∃U Fn B G,ρ=[Z (.tup [a0,a1,a2,.ref pp]),Z (.ref pL),Z (.ref pR),Z (.ref pP),Z (.ref a),Z (.ref pt),Z (.int ((l.length*tm:Nat)+(tm:Nat))),Z (.tup (p.1.map .int)),Z (.tup (p.2.1.map .int)),Z (.tup (p.2.2.map .int)),Z (.ref z),Z (.int (tm:Nat)),U,Fn,B,G,Y]/\M'=af M4 pt (.lst ((ck (RP.map (·.2)) t0 zs b).map .int))) rfl ?_ ?_ ?_ ?_
  ·exact⟨_,_,_,_,rfl,(wX IG).symm⟩
  ·rintro zs ρ M' ⟨_,_,_,_,rfl,rfl⟩;exact ah (by rw[aD npp];exact IH)
  ·rintro zs w r' ρ M' e' ⟨_,_,_,_,rfl,rfl⟩;refine⟨_,rfl,λF2 IX=>?_⟩;obtain⟨i,ei,hi,ew⟩:=fO (show w∈nz p.2.2 by rw[e'];simp)
   have J2:=s3 _ (Lj ew);obtain⟨row,er⟩:∃row,RP[i]?=Z row:=⟨_,tv ∅⟩
   have IO:=Lj er;have g5:∀t:List Int,Ge M (af M4 pt (.lst (t.map .int))):=λt=>kC g4 npt;have IY:(RP.map (·.2)).getD w.1.toNat []=row.2:=by rw[ei,L6,KU,L8,er];rfl
   have sz:∀t:List Int,aJ (af M4 pt (.lst (t.map .int))) (.ref z)=Z (b.map .int):=λt=>ah (by rw[aD nzp];exact fv)
   have sr:∀t:List Int,aJ (af M4 pt (.lst (t.map .int))) (.ref row.1)=Z (row.2.map .int):=λt=>ah (g5 t _ _ (hP.row row IO).1);nofun;refine aS ((hP.ge (g5 _)).at') (d:=.ref row.1) (by rw[ei];exact kz (by rw[L8,er];rfl)) ?_
   refine⟨_,sr _,_,sz _,?_⟩;rw[qK];have IZ:(ck (RP.map (·.2)) t0 zs b).length=N:=by rw[gB,IN]
   refine bw (f:=pD) (ys:=row.2.zip b) (I:=λus ρ M'=>∃B G,ρ=[Z (.tup [a0,a1,a2,.ref pp]),Z (.ref pL),Z (.ref pR),Z (.ref pP),Z (.ref a),Z (.ref pt),Z (.int ((l.length*tm:Nat)+(tm:Nat))),Z (.tup (p.1.map .int)),Z (.tup (p.2.1.map .int)),Z (.tup (p.2.2.map .int)),Z (.ref z),Z (.int (tm:Nat)),Z (.int w.1),Z (.int w.2),B,G,Y]/\M'=af M4 pt (.lst ((bI (ck (RP.map (·.2)) t0 zs b) us w.2).map .int))) rfl ?_ ?_ ?_ ?_
   ·exact⟨_,_,rfl,rfl⟩
   ·rintro us ρ M' ⟨_,_,rfl,rfl⟩;exact⟨sr _,sz _⟩
   ·rintro us u r2 ρ M' e2 ⟨_,_,rfl,rfl⟩;refine⟨_,rfl,λF3 J0=>?_⟩;have hu:=IQ row IO u.1 (OX (show(u.1,u.2)∈row.2.zip b by rw[e2];simp)).1
    have IP:(bI (ck (RP.map (·.2)) t0 zs b) us w.2).length=N:=by rw[eX,IZ]
    have eu:u.1=((u.1.toNat:Nat):Int):=∅
    have hk:u.1.toNat<N:=∅
    have J1:atI ((bI (ck (RP.map (·.2)) t0 zs b) us w.2).map D.int) u.1=Z (.int (gz (bI (ck (RP.map (·.2)) t0 zs b) us w.2) u.1)):=by rw[eu];exact kz (by rw[L8,cV (by rw[IP];exact hk)];rfl)
    nofun;refine⟨pt,_,u.1,_,rfl,rfl,ab,J1,bT ⟨∅,∅⟩,?_⟩
    rw[BG];refine cb ab (j:=u.1.toNat) (by rw[eu,r0,IP];unfold ixN;rw[if_pos ∅,if_pos ∅]) ?_
    rw[wW,<-R7];exact J0 _ _ ⟨_,_,rfl,by rw[kA]⟩
   ·rintro ρ M' ⟨_,_,rfl,rfl⟩;ac_nf;exact IX _ _ ⟨_,_,_,_,rfl,by rw[nB,IY]⟩
  ·rintro ρ M' ⟨_,_,_,_,rfl,rfl⟩;ac_nf;have e6:((l.length*tm:Nat):Int)+(tm:Nat)=((l++[p]).length*tm:Nat):=by rw[I7,Mp,Q8,Nat.one_mul,PQ]
   rw[e6];exact hF _ _ ⟨_,_,_,_,_,_,_,_,_,rfl,kC g4 npt,by rw[ab,fin]⟩
 ·rintro ρ M' ⟨_,_,_,_,_,_,_,_,_,rfl,g,et⟩;nofun;exact⟨by rw[D2];decide,q _ _ g npt et⟩
end
section
open L2.Srt
theorem zN{t:List Int}:∀us:List (Int×Int),(∀u∈us,0<=u.1/\u.1<t.length)->gz (bI t us c) z=gz t z+c*S1 us z:=by
 refine bx (P:=λus:List (Int×Int)=>(∀u∈us,0<=u.1/\u.1<(t.length:Int))->gz (bI t us c) z=gz t z+c*S1 us z) (λ_=>by simp[bI,S1]) λl x ih h=>?_
 have hx:=h x (by simp)
 have e:=ih λu j=>h u (LD _ j);rw[kA,qJ (by rw[eX];lia),xq,sH,show S1 [] z=0 by rfl]
 by_cases y:z=x.1
 ·subst y;rw[if_pos ∅,if_pos rfl,e];grind
 ·rw[if_neg ∅,if_neg ∅,e];grind
theorem C7{P:List (List Int)}{b t:List Int}:∀zs:List (Int×Int),(∀w∈zs,∀u∈(P.getD w.1.toNat []).zip b,0<=u.1/\u.1<t.length)->gz (ck P t zs b) z=gz t z+(zs.map λw=>w.2*S1 ((P.getD w.1.toNat []).zip b) z).sum:=by
 refine bx (P:=λzs=>(∀w∈zs,∀u∈(P.getD w.1.toNat []).zip b,0<=u.1/\u.1<t.length)->gz (ck P t zs b) z=gz t z+(zs.map λw=>w.2*S1 ((P.getD w.1.toNat []).zip b) z).sum) (λ_=>by simp[ck]) λl x ih h=>?_
 have e:=ih λu j=>h u (LD _ j);rw[nB,zN _ (by rw[gB];exact h x (by simp)),e,LA,PR]
 simp;lia
theorem Ef{x:Int}:nz (l++[x])=nz l++(if x=0 then[]else[(((l.length:Nat):Int),x)]):=by
 unfold nz idx;rw[List.mapIdx_append,OW];congr 1
 by_cases h:x=0<;>simp[h]
theorem xD{x:Int}{i:Nat}:gz (l++[x]) (i:Nat)=if i=l.length then x else gz l (i:Nat):=by
 rw[nj,fL,xo]
 by_cases h:i=l.length
 ·subst h;simp
 ·rw[if_neg h]
  by_cases y:i<l.length
  ·rw[if_pos ∅]
  ·rw[if_neg ∅,if_neg ∅]
   by_cases w:gz l (i:Nat)=0
   ·rw[w]
   ·have:=eC w;lia
theorem xE:∀l:List Int,((nz l).map λw=>w.2*G w.1.toNat).sum=ak l.length λi=>gz l (i:Nat)*G i:=by
 refine bx (P:=λl=>((nz l).map λw=>w.2*G w.1.toNat).sum=ak l.length λi=>gz l (i:Nat)*G i) (by rfl) λl x ih=>?_
 rw[Ef,LA,PR,ih,I7,Mp,rsum_succ,xD,if_pos rfl];congr 1
 ·exact aq λi hi=>by rw[xD,if_neg ∅]
 ·by_cases h:x=0
  ·subst h;simp
  ·rw[if_neg h];simp
theorem C8{m b:List Int}(hm:m.length=W)(j:b.length=W)(z:q<W):gz (jh c m b) (q:Nat)=gz m (q:Nat)+c*gz b (q:Nat):=by
 have h1:q<m.length:=∅
 have h2:q<b.length:=∅
 have e:(jh c m b)[q]?=Z (m[q]+c*b[q]):=by unfold jh;rw[L8,show(m.zip b)[q]?=Z (m[q],b[q])from List.getElem?_zip_eq_some.mpr ⟨tv h1,tv h2⟩];rfl
 unfold gz;rw[if_neg ∅,if_neg ∅,if_neg ∅,L6,KU,KU,KU,e,tv h1,tv h2]
 rfl
theorem C9{B:List (List Int)}(j:q<W):∀zs:List (Int×Int),(∀w∈zs,(B.getD w.1.toNat []).length=W)->(ax B W zs).length=W/\gz (ax B W zs) (q:Nat)=(zs.map λw=>w.2*gz (B.getD w.1.toNat []) (q:Nat)).sum:=by
 refine bx (P:=λzs=>(∀w∈zs,(B.getD w.1.toNat []).length=W)->(ax B W zs).length=W/\gz (ax B W zs) (q:Nat)=(zs.map λw=>w.2*gz (B.getD w.1.toNat []) (q:Nat)).sum) (λ_=>⟨by simp[ax],by simp[ax];exact i5⟩) λl x ih h=>?_
 obtain⟨e1,e2⟩:=ih λu z=>h u (LD _ z);have hx:=h x (by simp)
 rw[eW];refine⟨ji e1 hx,?_⟩;rw[C8 e1 hx j,e2,LA,PR];simp
theorem sU{B:List (List Int)}(j:q<W)(F:l.length=B.length)(z:∀b∈B,b.length=W):gz (ax B W (nz l)) (q:Nat)=ak l.length λi=>gz l (i:Nat)*gz (B.getD i []) (q:Nat):=by
 rw[(C9 j (nz l) λw hw=>?_).2,xE (G:=λi=>gz (B.getD i []) (q:Nat))];obtain⟨i,ei,hi,_⟩:=fO hw;rw[ei,L6,KU,tv ∅]
 exact z _ (Pq _)
theorem eF{B:List (List Int)}(F:l.length=B.length)(j:∀b∈B,b.length=W):(ax B W (nz l)).length=W:=by
 have g:∀zs:List (Int×Int),(∀w∈zs,(B.getD w.1.toNat []).length=W)->(ax B W zs).length=W:=bx (P:=λzs=>(∀w∈zs,(B.getD w.1.toNat []).length=W)->(ax B W zs).length=W) (λ_=>by simp[ax]) λl x ih h=>by rw[eW];exact ji (ih λu z=>h u (LD _ z)) (h x (by simp))
 refine g _ λw hw=>?_;obtain⟨i,ei,hi,_⟩:=fO hw;rw[ei,L6,KU,tv ∅]
 exact j _ (Pq _)
end
section
open L2.Srt
theorem iK{i:Nat}{x:Int}(h:l[i]?=Z x):gz l (i:Nat)=x:=by unfold gz;rw[if_neg ∅,L6,KU,h];rfl
theorem qL{m:Nat}{F:Nat->Int}:∀n:Nat,ak (n*m) F=ak n λa=>ak m λb=>F (a*m+b)
 |0=>by rw[Nat.zero_mul];rfl
 |n+1=>by
  rw[rsum_succ,<-qL n];have g:∀k:Nat,ak (n*m+k) F=ak (n*m) F+ak k λb=>F (n*m+b):=λk=>by
   induction k with
   |zero=>show _=_+0;simp
   |succ k ih=>rw[<-QC,rsum_succ,ih,rsum_succ];lia
  rw[OQ,g m]
theorem zO{s:Nat}(h:s<=W)(z:∀i,s<=i->F i=0):ak W F=ak s F:=by
 obtain⟨k,rfl⟩:=Nat.exists_eq_add_of_le h;clear h
 induction k with
 |zero=>rfl
 |succ k ih=>rw[<-QC,rsum_succ,ih,z _ ∅];simp
theorem Ar{z:Int}:∀{r b:List Int},r.length=b.length->S1 (r.zip b) z=ak b.length λq=>if gz r (q:Nat)=z then gz b (q:Nat)else 0
 |[],[],_=>rfl
 |x::r,y::b,h=>by
  rw[PV,sH,Ar (r:=r) (b:=b) (by simpa using h),Mf,xi]
  congr 1
theorem sV{w m:Nat}{k:Int}{GL GR:Nat->Nat->Int}:∀ps:List Pr,(ps.map λp=>gz p.2.2 k*ak w λb=>(ak m λi=>gz p.1 (i:Nat)*GL i b)*(ak m λj=>gz p.2.1 (j:Nat)*GR j b)).sum=ak w λb=>ak m λi=>ak m λj=>Tn ps k (i:Nat) (j:Nat)*(GL i b*GR j b)
 |[]=>by
  rw[aW]
  ·rfl
  ·exactλb _=>aW λi _=>aW λj _=>by simp[Tn]
 |p::ps=>by
  rw[Lc,RV,sV ps,<-de,<-db];refine aq λb _=>?_;rw[<-xk,<-de,<-db];refine aq λi _=>?_;rw[<-de,<-de,<-db];refine aq λj _=>?_;rw[df]
  grind
end
section
open L2.Srt
noncomputable def cvz(w:Nat)(A B:List Int)(z:Int):Int:=ak w λi=>gz A (i:Nat)*gz B (z-(i:Nat))
noncomputable def cv(w:Nat)(A B:List Int):List Int:=(z4 (2*w-1)).map λz:Nat=>cvz w A B (z:Nat)
theorem dv:(cv w A B).length=2*w-1:=by simp[cv]
theorem dJ(h:¬(0<=i/\i<l.length)):gz l i=0:=Decidable.byContradiction λz=>h (eC z)
theorem Eg(j:B.length<=w)(h:¬(0<=z/\z<(2*w-1:Nat))):cvz w A B z=0:=aW λi hi=>by rw[dJ (l:=B) ∅,Int.mul_zero]
theorem uS(j:B.length<=w):gz (cv w A B) z=cvz w A B z:=by
 by_cases h:0<=z/\z<(2*w-1:Nat)
 ·obtain⟨k,rfl⟩:=LX h.1;refine iK ?_;unfold cv;rw[L8,LC ∅];rfl
 ·rw[Eg j h,dJ (by rw[dv];exact h)]
noncomputable def pln(n w:Nat):List (List Int):=(z4 (2*n-1)).map λk:Nat=>(z4 (2*w-1)).map λx:Nat=>((k*w:Nat):Int)+(x:Nat)
theorem fP:(pln n w).length=2*n-1:=by simp[pln]
theorem xF:∀r∈pln n w,∀x∈r,0<=x/\x<(2*n*w-1:Nat):=λr h z B=>by
 obtain⟨k,j,rfl⟩:=L9.mp h;obtain⟨x,hx,rfl⟩:=L9.mp B;have j:=LP.mp j;have hx:=LP.mp hx;have h1:(k+2)*w<=2*n*w:=Np w ∅
 rw[Q8]at h1;lia
theorem Eh{i:Nat}(hi:i<2*n-1):(pln n w).getD i []=(z4 (2*w-1)).map λx:Nat=>((i*w:Nat):Int)+(x:Nat):=by unfold pln;rw[KU,L8,LC hi];rfl
theorem Ei{i:Nat}(hi:i<2*n-1){b:List Int}(B:b.length=2*w-1):S1 (((pln n w).getD i []).zip b) z=gz b (z-(i*w:Nat)):=by
 rw[Eh hi,Ar (by simp[B]),B]
 have ev:∀q,q<2*w-1->gz ((z4 (2*w-1)).map λx:Nat=>((i*w:Nat):Int)+(x:Nat)) (q:Nat)=((i*w:Nat):Int)+(q:Nat):=λq j=>iK (by rw[L8,LC j];rfl)
 by_cases h:0<=z-(i*w:Nat)/\z-(i*w:Nat)<(2*w-1:Nat)
 ·obtain⟨k,G⟩:=LX h.1;rw[G,<-du (n:=2*w-1) (k:=k) (F:=λq=>gz b (q:Nat)) ∅]
  refine aq λq j=>?_;rw[ev q j]
  by_cases e:k=q
  ·rw[if_pos ∅,if_pos e]
  ·rw[if_neg ∅,if_neg e]
 ·rw[dJ (by rw[B];exact h)]
  exact aW λq j=>if_neg (by rw[ev q j];lia)
theorem zP{BL BR P:List (List Int)}{V:Nat}(G:List Int->Nat->Int):∀ps:List Pr,(∀p∈ps,p.2.2.length=P.length/\(mul (ax BL W (nz p.1)) (ax BR W (nz p.2.1))).length=V)->(∀r∈P,∀x∈r,0<=x/\x<N)->
 (∀(b:List Int) (i:Nat),b.length=V->i<P.length->S1 ((P.getD i []).zip b) z=G b i)->
 gz (bR mul BL BR W P N ps) z=(ps.map λp=>ak P.length λk=>gz p.2.2 (k:Nat)*G (mul (ax BL W (nz p.1)) (ax BR W (nz p.2.1))) k).sum:=by
 intro ps h B F
 revert ps
 refine bx (P:=λps=>(∀p∈ps,p.2.2.length=P.length/\(mul (ax BL W (nz p.1)) (ax BR W (nz p.2.1))).length=V)->gz (bR mul BL BR W P N ps) z=(ps.map λp=>ak P.length λk=>gz p.2.2 (k:Nat)*G (mul (ax BL W (nz p.1)) (ax BR W (nz p.2.1))) k).sum) (λ_=>by simp[bR];exact i5) λl p ih h=>?_
 have e:=ih λu j=>h u (LD _ j);obtain⟨h1,h2⟩:=h p (by simp)
 rw[gC,C7,e,LA,PR]
 ·congr 1;have e2:(nz p.2.2).map (fun w=>w.2*S1 ((P.getD w.1.toNat []).zip (mul (ax BL W (nz p.1)) (ax BR W (nz p.2.1)))) z)=(nz p.2.2).map fun w=>w.2*G (mul (ax BL W (nz p.1)) (ax BR W (nz p.2.1))) w.1.toNat:=LM fun w hw=>by
   obtain⟨i,ei,hi,_⟩:=fO hw;rw[ei,L6,F _ i h2 ∅]
  rw[e2,xE (G:=G (mul (ax BL W (nz p.1)) (ax BR W (nz p.2.1)))),h1];simp
 ·intro w hw u j;obtain⟨i,ei,hi,_⟩:=fO hw;rw[eY];rw[ei,L6,KU,tv ∅]at j
  exact B _ (Pq _) _ (OX j).1
theorem qM{α:Type}{m:Nat}{F:α->Nat->Int}:∀ps:List α,(ps.map λp=>ak m λk=>F p k).sum=ak m λk=>(ps.map λp=>F p k).sum
 |[]=>(aW λ_ _=>rfl).symm
 |p::ps=>by rw[Lc,RV,qM ps,<-db];exact aq λk _=>by rw[Lc,RV]
noncomputable def blk(n w:Nat)(A:List Int):List (List Int):=(z4 n).map λi:Nat=>(z4 w).map λx:Nat=>gz A (i*w+x:Nat)
theorem ci:(blk n w A).length=n:=by simp[blk]
theorem dh:∀b∈blk n w A,b.length=w:=λb j=>by obtain⟨k,_,rfl⟩:=L9.mp j;simp
theorem Ej{i:Nat}(hi:i<n):(blk n w A).getD i []=(z4 w).map λx:Nat=>gz A (i*w+x:Nat):=by unfold blk;rw[KU,L8,LC hi];rfl
theorem i8{i:Nat}(hi:i<n):gz ((blk n w A).getD i []) y=if 0<=y/\y<w then gz A ((i*w:Nat)+y)else 0:=by
 rw[Ej hi]
 by_cases h:0<=y/\y<w
 ·obtain⟨k,rfl⟩:=LX h.1;rw[if_pos h];exact iK (by rw[L8,LC ∅];rfl)
 ·rw[if_neg h,dJ (by simpa using h)]
theorem qN(j:l.length=n):gz (ax (blk n w B) w (nz l)) y=ak n λi=>gz l (i:Nat)*gz ((blk n w B).getD i []) y:=by
 by_cases h:0<=y/\y<w
 ·obtain⟨k,rfl⟩:=LX h.1;rw[sU ∅ (by rw[j,ci]) dh,j]
 ·rw[dJ (by rw[eF (by rw[j,ci]) dh];exact h)]
  exact(aW λi hi=>by rw[i8 hi,if_neg h,Int.mul_zero]).symm
theorem zQ(hw:0<w)(L:B.length<=n*w){u:Int}:(ak n λj=>gz ((blk n w B).getD j []) (u-(j*w:Nat)))=gz B u:=by
 by_cases h:0<=u/\u<(n*w:Nat)
 ·obtain⟨k,rfl⟩:=LX h.1;have J:k<n*w:=by lia
  have e:=SI k w;have hm:=VG k hw;have hd:k / w<n:=QK (by rw[QY];exact J)
  rw[<-du (n:=n) (k:=k / w) (F:=λ_=>gz B (k:Nat)) hd];refine aq λj G=>?_;rw[i8 G]
  by_cases ej:k / w=j
  ·subst ej;rw[QY]at e;rw[if_pos rfl,if_pos ∅];congr 1;lia
  ·rw[if_neg ej,if_neg];intro z;refine ej ?_;have O:j*w<=k:=by lia
   have U:k<(j+1)*w:=by rw[Q8];lia
   exact(Nat.div_eq_of_lt_le ∅ ∅)
 ·rw[dJ ∅]
  refine aW λj G=>?_;rw[i8 G,if_neg];intro z;have:(j+1)*w<=n*w:=Np w G;rw[Q8]at this;exact h ∅
theorem Ca{s:Nat}(hw:0<w){ps:List Pr}(fv:A.length=s)(hB:B.length=s)(hs:s<=n*w)(U:∀k i j,Tn ps k i j=cf (bh n n) (k,i,j))(J:∀p∈ps,p.1.length=n/\p.2.1.length=n/\p.2.2.length=2*n-1):
 gz (bR (cv w) (blk n w A) (blk n w B) w (pln n w) (2*n*w-1) ps) z=cvz s A B z:=by
 have L:∀p∈ps,(ax (blk n w B) w (nz p.2.1)).length=w:=λp G=>eF (by rw[(J p G).2.1,ci]) dh
 rw[zP (V:=2*w-1) (λb i=>gz b (z-(i*w:Nat))) ps (λp G=>⟨by rw[(J p G).2.2,fP],dv⟩) xF λb i O hi=>Ei (by rwa[fP]at hi) O,fP]
 have e1:ps.map (λp=>ak (2*n-1) λk=>gz p.2.2 (k:Nat)*gz (cv w (ax (blk n w A) w (nz p.1)) (ax (blk n w B) w (nz p.2.1))) (z-(k*w:Nat)))
  = ps.map λp=>ak (2*n-1) λk=>gz p.2.2 (k:Nat)*ak w λb=>(ak n λi=>gz p.1 (i:Nat)*gz ((blk n w A).getD i []) (b:Nat))*(ak n λj=>gz p.2.1 (j:Nat)*gz ((blk n w B).getD j []) (z-(k*w:Nat)-(b:Nat))):=LM λp G=>by
  obtain⟨l1,l2,l3⟩:=J p G;refine aq λk Fn=>?_;rw[uS (by rw[L p G];exact Le _)]
  congr 1;exact aq λb O=>by rw[qN l1,qN l2]
 rw[e1,qM,aq λk _=>sV (w:=w) (m:=n) (k:=(k:Nat)) (GL:=λi b=>gz ((blk n w A).getD i []) (b:Nat)) (GR:=λj b=>gz ((blk n w B).getD j []) (z-(k*w:Nat)-(b:Nat))) ps];rw[eU];have e2:∀b,b<w->(ak (2*n-1) λk=>ak n λi=>ak n λj=>Tn ps (k:Nat) (i:Nat) (j:Nat)*(gz ((blk n w A).getD i []) (b:Nat)*gz ((blk n w B).getD j []) (z-(k*w:Nat)-(b:Nat))))
  = ak n λi=>gz A (i*w+b:Nat)*gz B (z-(i*w+b:Nat)):=λb O=>by
  rw[eU];refine aq λi hi=>?_;rw[eU,<-zQ hw (B:=B) (n:=n) ∅,<-de]
  refine aq λj hj=>?_;rw[<-du (n:=2*n-1) (k:=i+j) (F:=λk=>gz A (i*w+b:Nat)*gz ((blk n w B).getD j []) (z-(i*w+b:Nat)-(j*w:Nat))) ∅]
  refine aq λk Fn=>?_;rw[U,lu]
  by_cases e:i+j=k
  ·subst e;rw[if_pos rfl,if_pos ∅,i8 hi,if_pos ∅,Int.one_mul]
   congr 2;rw[Q8];lia
  ·rw[if_neg e,if_neg ∅,Int.zero_mul]
 rw[aq e2,eU,<-qL (F:=λq=>gz A (q:Nat)*gz B (z-(q:Nat)))];exact zO hs λi hi=>by rw[dJ (l:=A) ∅,Int.zero_mul]
theorem Cb{s:Nat}(hw:0<w){ps:List Pr}(G:A.length=s)(J:B.length=s)(hs:s<=n*w)(L:∀k i j,Tn ps k i j=cf (bh n n) (k,i,j))(O:∀p∈ps,p.1.length=n/\p.2.1.length=n/\p.2.2.length=2*n-1):
 (bR (cv w) (blk n w A) (blk n w B) w (pln n w) (2*n*w-1) ps).take (2*s-1)=cv s A B:=by
 have h2:2*s-1<=2*n*w-1:=by rw[RW];lia
 apply Ny;intro z
 by_cases F:z<2*s-1
 ·rw[NJ F,cV (by rw[eY];lia),Ca hw G J hs L O,cV (by rw[dv];exact F),uS ∅]
 ·rw[Mq (by rw[Lu];lia),Mq (by rw[dv];lia)]
end
section
open L2.Srt
variable{T:List FD}
noncomputable def kD(s:Stmt):FD:=⟨"block_length",s,["length","n"],2,
 (.cons (.ret (.bin .fdiv (.bin .sub (.bin .add (.var 0) (.var 1)) (.int 1)) (.var 1)))
 .nil)⟩
theorem Cc(hf:T[f]?=Z (kD s)){k:Nat}(z:1<=k){l:Nat}(B:1<=n)(j:n<=1000)(q:Q (.int ((l+n-1) / n:Nat)) M):phi T k f [.int l,.int n] M Q:=by
 refine aB ∅ hf rfl (ρ:=[Z _,Z _]) rfl ?_
 unfold kD;nofun;refine⟨∅,∅,?_⟩
 rw[show((l:Int)+n-1) / n=(((l+n-1) / n:Nat):Int) by rw[Int.natCast_ediv];congr 1;lia]
 exact q
theorem nC{l r:List Nat}{x:Nat}(e:z4 n=l++x::r):x=l.length/\x<n/\l=z4 x:=by
 have h1:x<n:=LP.mp (by rw[e];simp)
 have h2:(z4 n)[l.length]?=Z x:=by rw[e];simp
 have j:l.length<n:=by have:=congrArg Nb e;simp at this;lia
 rw[LC j]at h2
 cases h2
 refine⟨rfl,h1,?_⟩;have z:(z4 n).take l.length=l:=by rw[e];simp
 rw[<-z,List.take_range,N7 ∅]
 simp
end
section
open L2.Srt
variable{T:List FD}
noncomputable def tms(m n:Nat):Nat->Nat->Nat
 |0,_=>1
 |d+1,s=>if s=1 then 1 else m*tms m n d ((s+n-1) / n)
def Lim(m:Nat)(l:List Int):Prop:=∀x∈l,x.natAbs<2^m
theorem Lim.gz(h:Lim m l)(i:Int):(gz l i).natAbs<2^m:=by
 by_cases z:Mi.gz l i=0
 ·rw[z];exact Vi m
 ·obtain⟨h0,h1⟩:=eC z;have:l[i.toNat]?=Z (Mi.gz l i):=by
   have:=cV (l:=l) (k:=i.toNat) ∅
   rwa[show((i.toNat:Nat):Int)=i by lia]at this
  exact h _ (Lj this)
theorem Ek(h:∀q:Nat,q<l.length->(gz l (q:Nat)).natAbs<2^m):Lim m l:=λx hx=>by
 obtain⟨q,j,e⟩:=List.getElem_of_mem hx;have:=h q j
 rwa[iK (by rw[tv j,e])]at this
theorem sW(hm:m<=1000){x:Int}(h:x.natAbs<2^m):QV x<=2^20:=Mu (intBits_le_iff.mpr h) ∅
end
section
open L2.Srt
variable{T:List FD}
theorem As{g:MG}{e:ME}{r:MSs}(h:wE Φ e ρ M λx j=>∃ρ',bG g x ρ=Z ρ'/\wSs Φ r E ρ' j):wSs Φ (.cons (.asg g e) r) E ρ M:=by rw[bQ];exact h
theorem sX{s d:Nat}(j:2<=n)(hs:2<=s)(h:s<=2^(d+1)):(s+n-1) / n<=2^d/\1<=(s+n-1) / n/\s<=n*((s+n-1) / n)/\(s+n-1) / n<=s/\n*((s+n-1) / n)<=s+n:=by
 have e:=SI (s+n-1) n;have r:=VG (s+n-1) (show n > 0 by lia)
 have h1:(s+n-1) / n<2^d+1:=QK (by rw[Tf,Tg];have:2*2^d<=n*2^d:=Np _ j;rw[Nat.pow_succ]at h;lia)
 have h2:(s+n-1) / n<s+1:=QK (by rw[Tf,Tg];have:2*s<=n*s:=Np _ j;lia)
 refine⟨∅,?_,∅,∅,∅⟩
 exact Nat.div_pos ∅ ∅
end
section
open L2.Srt
variable{T:List FD}
noncomputable def jj(s:Stmt):FD:=⟨"_law_times",s,["_law_many","_law_n","_law_length","_law_total"],3,
 (.cons (.asg (.name 3) (.int 1))
 (.cons (.while (.cmp .gt (.var 2) (.int 1)) (.cons (.asg (.name 3) (.bin .mul (.var 3) (.var 0)))
 (.cons (.asg (.name 2) (.bin .add (.bin .fdiv (.var 2) (.var 1)) (.blt .int (.cons (.cmp .gt (.bin .mod (.var 2) (.var 1)) (.int 0)) .nil))))
 .nil)))
 (.cons (.ret (.var 3))
 .nil)))⟩
theorem Cd{s:Nat}(z:1<=n):(s+n-1) / n=s / n+if 0<s%n then 1 else 0:=by
 have e:=SI s n;have r:=VG s (show n > 0 by lia)
 have h0:0<n:=∅
 by_cases h:0<s%n
 ·rw[if_pos h];have j:(s%n-1) / n=0:=V0 ∅
  rw[show s+n-1=n*(s / n)+(s%n-1+n) by lia,Vj h0,Nat.add_div_right _ h0,j]
 ·rw[if_neg h];have j:(n-1) / n=0:=V0 ∅
  rw[show s+n-1=n*(s / n)+(n-1) by lia,Vj h0,j]
theorem xG(hf:T[f]?=Z (jj s)){k:Nat}(J:1<=k){many d sz:Nat}(hm:many<=1000)(B:2<=n)(F:n<=1000)(h1:1<=sz)(h2:sz<=2^d)(q:Q (.int (tms many n d sz:Nat)) M):phi T k f [.int many,.int n,.int sz] M Q:=by
 refine aB ∅ hf rfl (ρ:=[Z _,Z _,Z _,Y]) rfl ?_
 unfold jj;nofun;nofun;refine⟨d+1,?_⟩;have g:∀(d sz tot:Nat),1<=sz->sz<=2^d->Q (.int (tot*tms many n d sz:Nat)) M->
  aR (gK (wOp wGt (fh 2) (wC (.int 1)))) (wSs (phi T (k-1)) (.cons (.asg (.name 3) (.bin .mul (.var 3) (.var 0))) (.cons (.asg (.name 2) (.bin .add (.bin .fdiv (.var 2) (.var 1)) (.blt .int (.cons (.cmp .gt (.bin .mod (.var 2) (.var 1)) (.int 0)) .nil)))) .nil)))
   {nx:=wSs (phi T (k-1)) (.cons (.ret (.var 3)) .nil) {nx:=λ_ M'=>Q .non M',rt:=Q},rt:=Q} (d+1) [Z (.int many),Z (.int n),Z (.int sz),Z (.int tot)] M:=by
  intro d
  induction d with
  |zero=>
   intro sz tot h1 h2 q;obtain rfl:sz=1:=by simp at h2;lia
   rw[aR];ac_nf;rw[if_neg (by simp)]
   nofun;have e:tms many n 0 1=1:=rfl;rw[e,Tg]at q;exact q
  |succ d ih=>
   intro sz tot h1 h2 q;rw[aR]
   by_cases hs:sz=1
   ·subst hs;ac_nf;rw[if_neg (by simp)]
    nofun;have e:tms many n (d+1) 1=1:=rfl;rw[e,Tg]at q;exact q
   ·have ew:=sX B ∅ h2
    have ec:=Cd (s:=sz) (n:=n) ∅
    have e:tms many n (d+1) sz=many*tms many n d ((sz+n-1) / n):=by show(if sz=1 then 1 else _)=_;rw[if_neg hs]
    have j:=ih ((sz+n-1) / n) (tot*many) ew.2.1 ew.1 (by rw[RW,<-e];exact q)
    ac_nf;rw[if_pos ∅]
    nofun;refine⟨lh ⟨∅,∅⟩,?_⟩
    nofun;refine⟨∅,∅,∅,?_⟩
    have G:(sz:Int) / n+(if 0<(sz:Int)%n then 1 else 0)=(((sz+n-1) / n:Nat):Int):=by
     rw[ec]
     by_cases z:0<sz%n
     ·rw[if_pos z,if_pos (by exact_mod_cast z)];simp
     ·rw[if_neg z,if_neg (by intro y;exact z (by exact_mod_cast y))];simp
    ac_nf;rw[G,show(tot:Int)*many=((tot*many:Nat):Int) by simp]
    exact j
 exact g d sz 1 h1 h2 (by rw[Nat.one_mul];exact q)
end
section
open L2.Srt
theorem FK{i:Nat}:gi l (i:Nat)=gz l (i:Nat):=by unfold gi gz;rw[if_neg ∅]
end
section
open L2.Srt
variable{T:List FD}
noncomputable def oB(s:Stmt):FD:=⟨"row_blocks",s,["row","n","wide","whole"],3,
 (.cons (.asg (.name 3) (.bin .add (.var 0) (.bin .mul (.lst (.cons (.int 0) .nil)) (.bin .sub (.bin .mul (.var 1) (.var 2)) (.blt .len (.cons (.var 0) .nil))))))
 (.cons (.ret (.comp [Y,(Z 3),(Z 2)] ["at","whole","wide"] (.last (.rng1 (.var 1)) (.name 0) .nil (.sl (.var 1) (.some (.bin .mul (.var 0) (.var 2))) (.some (.bin .mul (.bin .add (.var 0) (.int 1)) (.var 2)))))))
 .nil))⟩
theorem El{k:Nat}:gz (A++D1 k 0) i=gz A i:=by
 rw[nj]
 by_cases h:i<A.length
 ·rw[if_pos h]
 ·rw[if_neg h,i5,dJ ∅]
theorem kE(hf:T[f]?=Z (oB s)){k:Nat}(hk:1<=k)(hn:n<=10)(hw:w<=100)(hA:A.length<=n*w)(ep:M p=Z (.lst (A.map .int)))(q:∀p' R M',Ge M M'->M p'=Y->RwAt M' p' R w->R.map (·.2)=blk n w A->Q (.ref p') M'):phi T k f [.ref p,.int n,.int w] M Q:=by
 have IG:n*w<=10*100:=N4 hn hw;refine aB ∅ hf rfl (ρ:=[Z _,Z _,Z _,Y]) rfl ?_
 unfold oB;nofun;refine⟨by rw[D2];decide,λp1 z=>⟨bT ⟨∅,∅⟩,?_⟩⟩
 have g1:=Ge.new (o:=.lst [.int 0]) z;refine b7 (g1 _ _ ep) ?_;ac_nf;rw[r0,show(n:Int)*w-A.length=((n*w-A.length:Nat):Int) by rw[Int.ofNat_sub hA];simp]
 refine⟨_,ab,∅,∅,by rw[D2];simp;lia,λp2 B=>?_⟩
 rw[L6,zB];have g2:=g1.trans (Ge.new (o:=.lst ((D1 (n*w-A.length) (0:Int)).map D.int)) B);refine⟨_,_,g2 _ _ ep,ab,by rw[r0,r0,Qq,D2];lia,λpw F=>?_⟩
 rw[<-LA];have g3:=g2.trans (Ge.new (o:=.lst ((A++D1 (n*w-A.length) (0:Int)).map D.int)) F);have O:af (af (af M p1 (.lst [.int 0])) p2 (.lst ((D1 (n*w-A.length) (0:Int)).map D.int))) pw (.lst ((A++D1 (n*w-A.length) (0:Int)).map D.int)) pw=_:=ab;generalize af (af (af M p1 (.lst [.int 0])) p2 (.lst ((D1 (n*w-A.length) (0:Int)).map D.int))) pw (.lst ((A++D1 (n*w-A.length) (0:Int)).map D.int))=M3 at g3 O⊢;have G:(A++D1 (n*w-A.length) (0:Int)).length=n*w:=by rw[I7,Qq];lia
 have j:∀i,i<n->uO (A++D1 (n*w-A.length) (0:Int)) w i=(z4 w).map λx:Nat=>gz A (i*w+x:Nat):=λi hi=>by unfold uO;exact LM λt _=>by rw[FK,El]
 generalize A++D1 (n*w-A.length) (0:Int)=W at O G j;clear g1 g2 z B F;nofun;refine⟨∅,∅,?_⟩
 rw[L6];refine aP (f:=λi:Nat=>.int (i:Nat)) (ys:=z4 n) (I:=λl ρ M' acc=>(∃o0,ρ=[o0,Z (.ref pw),Z (.int w)])/\Ge M3 M'/\∃R:Bks,acc=R.map (λr=>.ref r.1)/\R.map (·.2)=l.map (λi:Nat=>(z4 w).map λx:Nat=>gz A (i*w+x:Nat))/\∀r∈R,M' r.1=Z (.lst (r.2.map .int))/\r.2.length=w) be ⟨⟨_,rfl⟩,.refl,[],rfl,rfl,by simp⟩ (λ_ _ _ _ _=>trivial) ?_ ?_
 ·rintro l x r' ρ M1 acc e ⟨⟨o0,rfl⟩,g,R,rfl,eR,J⟩;refine⟨_,rfl,λN' U=>?_⟩;obtain⟨ex,hx,el⟩:=nC e;have Fn:R.length=l.length:=by have:=congrArg Nb eR;simpa using this
  ac_nf;refine⟨bT ⟨∅,∅⟩,bT ⟨∅,∅⟩,?_⟩
  rw[show(x:Int)*w=((x*w:Nat):Int) by simp,show((x:Int)+1)*w=((x*w+w:Nat):Int) by rw[PQ,SG];grind]
  refine⟨_,g _ _ O,λpr L=>?_⟩;rw[BZ G hx,j x hx];refine⟨by rw[r0,Fn,<-ex,D2];lia,U _ _ _ ⟨⟨_,rfl⟩,g.trans (.new L),R++[(pr,(z4 w).map λt:Nat=>gz A (x*w+t:Nat))],by simp,by simp[eR],λu hu=>?_⟩⟩
  rcases Ld.mp hu with h|h
  ·exact⟨Ge.new L _ _ (J u h).1,(J u h).2⟩
  ·rw[PZ]at h;subst h;exact⟨ab,by simp⟩
 ·rintro ρ M1 acc ⟨_,g,R,rfl,eR,J⟩ p fv;exact q p R _ ((g3.trans g).trans (.new fv)) (i7 (g3.trans g) fv) ⟨ab,λr hr=>⟨Ge.new fv _ _ (J r hr).1,(J r hr).2⟩⟩ eR
theorem xH{J L:Str}(O:ρ[4]?=Z (Z (.int (w:Nat))))(e1:ρ[1]?=Z (Z (.int (n:Nat))))(fv:1<=n/\n<=10)(hw:1<=w/\w<=100)(q:∀p R M',Ge M M'->RwAt M' p R (2*w-1)->R.map (·.2)=pln n w->Q (.ref p) M'):
 wE Φ (.comp [Y,(Z 4)] [J,L] (.last (.rng1 (.bin .sub (.bin .mul (.int 2) (.var 1)) (.int 1))) (.name 0) .nil (.lrng2 (.bin .mul (.var 0) (.var 1)) (.bin .sub (.bin .mul (.bin .add (.var 0) (.int 2)) (.var 1)) (.int 1))))) ρ M Q:=by
 ac_nf;refine⟨_,e1,?_⟩;ac_nf;refine⟨bT ⟨by decide,by decide⟩,∅,∅,?_⟩
 rw[O,show(2*(n:Int)-1).toNat=2*n-1 by lia]
 simp only[Sd];refine aP (f:=λi:Nat=>.int (i:Nat)) (ys:=z4 (2*n-1)) (I:=λl ρ M' acc=>(∃o0,ρ=[o0,Z (.int w)])/\Ge M M'/\∃R:Bks,acc=R.map (λr=>.ref r.1)/\R.map (·.2)=l.map (λk:Nat=>(z4 (2*w-1)).map λx:Nat=>((k*w:Nat):Int)+(x:Nat))/\∀r∈R,M' r.1=Z (.lst (r.2.map .int))/\r.2.length=2*w-1) be ⟨⟨_,rfl⟩,.refl,[],rfl,rfl,by simp⟩ (λ_ _ _ _ _=>trivial) ?_ ?_
 ·rintro l x r' ρ' M1 acc e ⟨⟨o0,rfl⟩,g,R,rfl,eR,j⟩;refine⟨_,rfl,λN' B=>?_⟩;obtain⟨ex,hx,el⟩:=nC e;have F:R.length=l.length:=by have:=congrArg Nb eR;simpa using this
  have U:x*w<=20*100:=N4 ∅ hw.2
  ac_nf;refine⟨bT ⟨∅,∅⟩,bT ⟨∅,∅⟩,((x*w:Nat):Int),2*w-1,?_,∅,∅,∅,λp z=>?_⟩
  ·have:((x:Int)+2)*w=((x*w:Nat):Int)+2*w:=by rw[Int.add_mul,SG]
   rw[this,show(x:Int)*w=((x*w:Nat):Int) by simp]
   congr 3;lia
  ·rw[show((z4 (2*w-1)).map λk:Nat=>D.int (((x*w:Nat):Int)+(k:Nat)))=((z4 (2*w-1)).map λk:Nat=>((x*w:Nat):Int)+(k:Nat)).map .int by rw[MU];rfl]
   refine⟨by rw[r0,F,<-ex,D2];lia,B _ _ _ ⟨⟨_,rfl⟩,g.trans (.new z),R++[(p,(z4 (2*w-1)).map λk:Nat=>((x*w:Nat):Int)+(k:Nat))],by simp,by simp[eR],λu Fn=>?_⟩⟩
   rcases Ld.mp Fn with h|h
   ·exact⟨Ge.new z _ _ (j u h).1,(j u h).2⟩
   ·rw[PZ]at h;subst h;exact⟨ab,by simp⟩
 ·rintro ρ' M1 acc ⟨_,g,R,rfl,eR,j⟩ p z;exact q p R _ (g.trans (.new z)) ⟨ab,λr G=>⟨Ge.new z _ _ (j r G).1,(j r G).2⟩⟩ eR
noncomputable def jk(s:Stmt)(fbl fby frb fsl:Nat)(P:N2)(pos:Pos)(q:Str):FD:=⟨"row_times",s,["scheme","n","one","other","wide","places","told","times"],4,
 (.cons (.ite (.cmp .eq (.blt .len (.cons (.var 2) .nil)) (.int 1)) (.cons (.ret (.tup (.cons (.lst (.cons (.bin .mul (.ix (.var 2) (.int 0)) (.ix (.var 3) (.int 0))) .nil)) (.cons (.int 1) .nil))))
 .nil) .nil)
 (.cons (.asg (.name 4) (.call fbl (.cons (.blt .len (.cons (.var 2) .nil)) (.cons (.var 1) .nil))))
 (.cons (.asg (.name 5) (.comp [Y,(Z 4)] ["k","wide"] (.last (.rng1 (.bin .sub (.bin .mul (.int 2) (.var 1)) (.int 1))) (.name 0) .nil (.lrng2 (.bin .mul (.var 0) (.var 1)) (.bin .sub (.bin .mul (.bin .add (.var 0) (.int 2)) (.var 1)) (.int 1))))))
 (.cons (.asg (.tup (.cons (.name 6) (.cons (.name 7) .nil))) (.callL fby (.cons (.var 0) (.cons (.call frb (.cons (.var 2) (.cons (.var 1) (.cons (.var 4) .nil)))) (.cons (.call frb (.cons (.var 3) (.cons (.var 1) (.cons (.var 4) .nil)))) (.cons (.var 5) .nil)))) fsl [0,1] [0,1,2,3] P pos q))
 (.cons (.ret (.tup (.cons (.sl (.var 6) .none (.some (.bin .sub (.bin .mul (.int 2) (.blt .len (.cons (.var 2) .nil))) (.int 1)))) (.cons (.var 7) .nil))))
 .nil)))))⟩
theorem sY{L:List Int}(G:n*1000<=2^20)(h:Lim m L)(j:l.length=n)(hs:∀x∈l,x.natAbs<=1000):Lim (m+20) (ax (blk n w L) w (nz l)):=by
 refine Ek λq B=>?_;rw[eF (by rw[j,ci]) dh]at B
 rw[sU B (by rw[j,ci]) dh,j]
 have J:0<2^m:=Vi m;have g:=zI (n:=n) (C:=1000*(2^m-1)) (F:=λi=>gz l (i:Nat)*gz ((blk n w L).getD i []) (q:Nat)) λi hi=>by
  rw[Int.natAbs_mul];refine N4 ?_ ?_
  ·by_cases z:gz l (i:Nat)=0
   ·rw[z];decide
   ·exact hs _ (Lj (cV ∅))
  ·rw[i8 hi]
   split
   ·have:=h.gz ((i*w:Nat)+(q:Nat):Int);lia
   ·exact NF _
 refine U7 g ?_;rw[Nat.pow_add,<-RW,QY (2^m)];refine U7 (Np _ G) (Nat.mul_lt_mul_of_pos_left ∅ (by decide))
theorem zR(j:1<=n):(pln n w).getLast?=Z ((z4 (2*w-1)).map λx:Nat=>(((2*n-2)*w:Nat):Int)+(x:Nat)):=by rw[Px,fP];unfold pln;rw[L8,LC ∅,show 2*n-1-1=2*n-2 by lia];rfl
end
section
open L2.Srt
variable{T:List FD}
theorem Ce{a:Nat}(h:a<=ds.length):bX ds Y (Z (a:Int))=ds.take a:=by unfold bX;rw[HT.sIx_none,HT.sIx_nat,N7 h,Tb,Nat.sub_zero]
theorem xI{fbl fby frb fs:Nat}{sbl sby srb ss:Stmt}{qn:Str}(hf:T[f]?=Z (jk s fbl fby frb f P pos qn))(II:T[fbl]?=Z (kD sbl))(O:T[frb]?=Z (oB srb))(IJ:T[fby]?=Z (kB sby fs ff))(IK:T[fs]?=Z (i6 ss ff))(IM:T[ff]?=Z (dg sf))(h5:fs<5000/\ff<5000/\fby<1000)(h6:f<1000)(hn:2<=n/\n<=10){ps:List Pr}(IQ:ps.length<=1000)(hT:∀k i j,Tn ps k i j=cf (bh n n) (k,i,j))(G:∀p∈ps,uK n n (2*n-1) p){pp:N2}{a0 a1 a2:D}:
 ∀{d s k m:Nat} {A B:List Int} {pA pB:N2} {M:Mem} {Q:QD},1<=s->s<=2^d->s<=64->3*d+6<=k->m+20*d<=1000->A.length=s->B.length=s->Lim m A->Lim m B->M P=Z (.tab pos qn)->M pp=Z (.lst (ps.map prD))->M pA=Z (.lst (A.map .int))->M pB=Z (.lst (B.map .int))->
  (∀p M',Ge M M'->M p=Y->M' p=Z (.lst ((cv s A B).map .int))->Q (.tup [.ref p,.int (tms ps.length n d s:Nat)]) M')->phi T k f [.tup [a0,a1,a2,.ref pp],.int n,.ref pA,.ref pB] M Q:=by
 intro d;have base:∀{d k m:Nat} {A B:List Int} {pA pB:N2} {M:Mem} {Q:QD},1<=k->m<=1000->A.length=1->B.length=1->Lim m A->Lim m B->M pA=Z (.lst (A.map .int))->M pB=Z (.lst (B.map .int))->
  (∀p M',Ge M M'->M p=Y->M' p=Z (.lst ((cv 1 A B).map .int))->Q (.tup [.ref p,.int (tms ps.length n d 1:Nat)]) M')->phi T k f [.tup [a0,a1,a2,.ref pp],.int n,.ref pA,.ref pB] M Q:=by
  intro d k m A B pA pB M Q hk hm lA lB bA bB eA eB q;refine aB ∅ hf rfl (ρ:=[Z _,Z _,Z _,Z _,Y,Y,Y,Y]) rfl ?_
  unfold jk;obtain⟨x,rfl⟩:=Qm.mp lA;obtain⟨y,rfl⟩:=Qm.mp lB;nofun;refine b7 eA ?_;ac_nf;rw[if_pos (by rfl)]
  nofun;refine aS eA (d:=.int x) rfl ?_;refine aS eB (d:=.int y) rfl ?_;refine wMul_i.mpr ⟨.inr (.inr ⟨sW hm (bA x (by simp)),sW hm (bB y (by simp))⟩),?_⟩
  refine⟨by rw[D2];decide,λp F=>⟨by rw[D2];decide,?_⟩⟩
  have e1:cv 1 [x] [y]=[x*y]:=by show[ak 1 _]=_;simp[ak,gz]
  have e2:tms ps.length n d 1=1:=by cases d<;>rfl
  rw[e1,e2]at q;exact q p _ (.new F) F ab
 induction d with
 |zero=>
  intro s k m A B pA pB M Q h1 h2 IN hk hm lA lB bA bB eP ep eA eB q;obtain rfl:s=1:=by simp at h2;lia
  exact base ∅ ∅ lA lB bA bB eA eB q
 |succ d ih=>
  intro s k m A B pA pB M Q h1 h2 IN hk hm lA lB bA bB eP ep eA eB q
  by_cases U:s=1
  ·subst U;exact base ∅ ∅ lA lB bA bB eA eB q
  refine aB ∅ hf rfl (ρ:=[Z _,Z _,Z _,Z _,Y,Y,Y,Y]) rfl ?_
  unfold jk;nofun;refine b7 eA ?_;ac_nf;rw[if_neg (by rw[r0,lA];simp;lia)]
  nofun;refine b7 eA ?_;rw[r0,lA];refine Cc II ∅ ∅ ∅ ?_
  have L:(s+n-1) / n<=2^d/\1<=(s+n-1) / n/\s<=n*((s+n-1) / n)/\(s+n-1) / n<=s/\n*((s+n-1) / n)<=s+n:=sX hn.1 ∅ h2
  have etm:tms ps.length n (d+1) s=ps.length*tms ps.length n d ((s+n-1) / n):=by show(if s=1 then 1 else _)=_;rw[if_neg U]
  generalize (s+n-1) / n=w at L etm⊢;obtain⟨L,IO,IP,IR,IS⟩:=L;refine As ?_;refine xH (n:=n) (w:=w) rfl rfl ∅ ∅ λpP RP M1 g1 hP eRP=>?_
  refine⟨_,rfl,?_⟩;refine As ?_;refine⟨[.tup [a0,a1,a2,.ref pp],.int n],rfl,?_⟩;dsimp only[wA,av,aZ];refine⟨_,rfl,?_⟩;dsimp only;have Fn:RP.length=2*n-1:=by
   have:=congrArg Nb eRP
   rwa[r0,fP]at this
  ac_nf;refine kE O ∅ ∅ ∅ ∅ (g1 _ _ eA) λpBL RL M4 g4 nL hL eRL=>?_
  ac_nf;refine kE O ∅ ∅ ∅ ∅ (g4 _ _ (g1 _ _ eB)) λpBR RR M5 g5 nR hR eRR=>?_
  have fv:=g4.trans g5;have J:=g1.trans fv;have lRL:RL.length=n:=by have:=congrArg Nb eRL;rwa[r0,ci]at this
  have lRR:RR.length=n:=by have:=congrArg Nb eRR;rwa[r0,ci]at this
  ac_nf;refine⟨J _ _ eP,λa ha=>?_⟩;have IG:∀r∈RP,r.2∈pln n w:=λr hr=>by rw[<-eRP];exact Lm hr
  refine Ee (n:=k-1) (f:=fby) (js:=[0,1,2,3]) (gs:=[.tup [a0,a1,a2,.ref pp],.int n]) (W:=w) (V:=2*w-1) (N:=2*n*w-1) (mul:=cv w) (tm:=tms ps.length n d w) IJ IK IM h5 ∅ h6 (J _ _ ep) (hL.ge g5) hR (hP.ge fv) ⟨∅,∅,∅,∅,∅,∅⟩ ∅ ⟨∅,∅⟩ ?_ ?_ ?_ ?_ ?_ ?_ ?_ ?_
  ·exact Mu (Nat.sub_le _ _) (Mu (N4 (by lia:2*n<=20) (by lia:w<=100)) (by decide))
  ·exactλp F=>⟨by rw[lRL];exact(G p F).l0,by rw[lRR];exact(G p F).l1,by rw[Fn];exact(G p F).l2⟩
  ·exactλp F=>⟨λx hx=>by have:=(G p F).s0 x hx;lia,λx hx=>by have:=(G p F).s1 x hx;lia,λx hx=>by have:=(G p F).s2 x hx;lia⟩
  ·exactλr hr z hz=>xF r.2 (IG r hr) z hz
  ·have h1:(RP.map (·.2)).getLast?=_:=(congrArg List.getLast? eRP).trans (zR ∅)
   rw[RF]at h1
   cases h2:RP.getLast? with
   |none=>rw[h2]at h1;cases h1
   |some r=>
    rw[h2]at h1;have h3:r.2=_:=MW.inj h1;refine⟨r,rfl,?_⟩;rw[h3,Px,r0,LJ,L8,LC ∅,Oj]
    congr 1;have e1:(2*n-2)*w+2*w=2*n*w:=by rw[<-Q8];congr 1;lia
    have e2:1*w<=2*n*w:=Np w ∅
    lia
  ·exactλp F=>dv
  ·intro p x y M6 Q6 F g6 ex ey q6;refine⟨rfl,BI ∅ ∅ ?_⟩
   have bnd:n*1000<=2^20:=∅
   rw[eRL]at ex q6;rw[eRR]at ey q6;refine ih (s:=w) (m:=m+20) IO L ∅ ∅ ∅ (eF (by rw[ci];exact(G p F).l0) dh) (eF (by rw[ci];exact(G p F).l1) dh) (sY bnd bA (G p F).l0 λx hx=>by have:=(G p F).s0 x hx;lia) (sY bnd bB (G p F).l1 λx hx=>by have:=(G p F).s1 x hx;lia) (g6 _ _ (J _ _ eP)) (g6 _ _ (J _ _ ep)) ex ey q6
  ·intro p M6 g6 n6 e6;refine⟨_,rfl,?_⟩;rw[eRL,eRR,eRP]at e6;nofun;refine b7 (g6 _ _ (J _ _ eA)) ?_;ac_nf;rw[r0,lA];refine⟨bT ⟨∅,∅⟩,?_⟩
   rw[show 2*(s:Int)-1=((2*s-1:Nat):Int) by lia]
   have hle:2*s-1<=2*n*w-1:=by rw[RW];lia
   refine⟨_,e6,λp7 IH=>⟨by rw[D2];decide,?_⟩⟩
   rw[Ce (by rw[r0,eY];exact hle),<-TL,Cb ∅ lA lB IP hT λp F=>⟨(G p F).l0,(G p F).l1,(G p F).l2⟩,<-etm]
   have gE:=(J.trans g6);exact q p7 _ (gE.trans (.new IH)) (i7 gE IH) ab
end
section
open L2.Srt
variable{T:List FD}
noncomputable def qO(s:Stmt)(fbp fpl flt fta fpa:Nat):FD:=⟨"_law_line_scheme",s,["_law_box_here","_law_n","_law_scheme","_law_products","_law_l","_law_r","_law_o","_law_at"],2,
 (.cons (.asg (.name 2) (.ix (.lst (.cons (.call fbp (.cons (.var 1) .nil)) (.cons (.call fpl (.cons (.call flt (.cons (.var 1) (.cons (.var 1) .nil))) .nil)) .nil))) (.call fta (.cons (.var 0) (.cons (.int 2) .nil)))))
 (.cons (.asg (.name 3) (.blt .list (.cons (.ix (.var 2) (.int 3)) .nil)))
 (.cons (.ite (.cmp .eq (.call fta (.cons (.var 0) (.cons (.int 3) .nil))) (.int 0)) (.cons (.asgL (.cons (.name 4) (.cons (.name 5) (.cons (.name 6) .nil))) (.comp [Y,(Z 0)] ["_law_length","_law_box_here"] (.last (.seq (.tup (.cons (.var 1) (.cons (.var 1) (.cons (.bin .sub (.bin .mul (.int 2) (.var 1)) (.int 1)) .nil))))) (.name 0) .nil (.call fpa (.cons (.var 1) (.cons (.var 0) .nil))))))
 (.cons (.drop (.ins (.var 3) (.call fta (.cons (.var 0) (.cons (.bin .add (.blt .len (.cons (.var 3) .nil)) (.int 1)) .nil))) (.tup (.cons (.var 4) (.cons (.var 5) (.cons (.var 6) .nil))))))
 (.cons (.drop (.meth .append (.var 3) (.tup (.cons (.var 4) (.cons (.var 5) (.cons (.blt .tuple (.cons (.comp [Y] ["_law_c"] (.last (.seq (.var 6)) (.name 0) .nil (.bin .sub (.int 0) (.var 0)))) .nil)) .nil))))))
 .nil))) .nil)
 (.cons (.asg (.name 7) (.call fta (.cons (.var 0) (.cons (.blt .len (.cons (.var 3) .nil)) .nil))))
 (.cons (.ret (.tup (.cons (.var 1) (.cons (.var 1) (.cons (.bin .sub (.bin .mul (.int 2) (.var 1)) (.int 1)) (.cons (.bin .add (.sl (.var 3) (.some (.var 7)) .none) (.sl (.var 3) .none (.some (.var 7)))) .nil))))))
 .nil)))))⟩
structure LS(n c:Nat)(ps:List Pr):Prop where
 ne:ps≠[]
 len:ps.length<=c
 pr:∀p∈ps,uK n n (2*n-1) p
 tn:∀k i j,Tn ps k i j=cf (bh n n) (k,i,j)
theorem lJ(h:Within 1 l):cU l:=λx hx=>by have:=h x hx;lia
theorem FL(h1:1<=n)(F:n<=5):LS n 27 (bp n):=by
 have B:=xu (n:=n);have h:n*(n+1)<=5*6:=N4 F ∅
 have h':1*2<=n*(n+1):=N4 h1 ∅
 refine⟨λz=>by rw[z]at B;simp at B;lia,∅,λp G=>?_,λk i j=>(sP bp_pp).trans FB⟩
 have:=iI p (bp_pp.mem_iff.mp G);exact⟨this.l0,this.l1,this.l2,lJ this.e0,lJ this.e1,lJ this.e2⟩
theorem Cf{fbp fpl flt fta fpa fp:Nat}{s2 s3 s4 s5 s6 s7:Stmt}(hf:T[f]?=Z (qO s fbp fpl flt fta fpa))(IX:T[fpl]?=Z (iJ s1 f1))(IR:T[f1]?=Z (dI s2))(Fn:T[flt]?=Z (ko s3 ft))(ht:T[ft]?=Z (i3 s4))(IY:T[fbp]?=Z (uR s5 fo fp))(IZ:T[fo]?=Z (kw s6 f1))(J0:T[fp]?=Z (kx s7 f1)){k:Nat}(hk:6<=k)(fv:km T (k-1) fta)(IM:xg T (k-1) fpa)(IN:2<=n/\n<=5)(hb:Box b M)(q:∀ps p M',LS n 29 ps->Bx b M M'->M p=Y->M' p=Z (.lst (ps.map prD))->Q (.tup [.int n,.int n,.int (2*n-1:Nat),.ref p]) M'):phi T k f [.ref b,.int n] M Q:=by
 refine aB ∅ hf rfl (ρ:=[Z _,Z _,Y,Y,Y,Y,Y,Y]) rfl ?_
 unfold qO;have J8:n*n<=25:=N4 IN.2 IN.2;refine eh (λρ M'=>∃ps p,ρ=[Z (.ref b),Z (.int n),Z (.tup [.int n,.int n,.int (2*n-1:Nat),.ref p]),Y,Y,Y,Y,Y]/\Bx b M M'/\M' p=Z (.lst (ps.map prD))/\LS n 27 ps) (λR hR=>?_) ?_
 ·ac_nf;refine FE IY IZ J0 IR ∅ ∅ ∅ λpa Ma ga na ea=>?_
  ac_nf;refine BX Fn ht ∅ ∅ ∅ λrs a M1 hT g1 n1 e1=>?_
  rw[show(n:Int)+n-1=((2*n-1:Nat):Int) by lia]
  have hlen:rs.length<=25:=by have:=hT.len;rw[qI]at this;lia
  have hI:InB rs n n (2*n-1):=by
   have:=BY hT ∅
   rwa[show n+n-1=2*n-1 by lia]at this
  have IO:∀k,-25<=cf rs k/\cf rs k<=25:=λk=>by
   rw[hT.cf];have:=zC (ts:=bh n n) (B:=1) ∅ (λt ht=>by have:=(zJ ht).2;lia) (k:=k)
   rw[qI]at this;lia
  refine zL IX IR ∅ ∅ ∅ ∅ e1 hT.nodup hI ∅ λp M2 g2 n2 e2=>?_
  ac_nf;refine⟨by rw[D2];decide,λpz J1=>?_⟩
  have gz':=Ge.new (o:=.lst [.tup [.int n,.int n,.int (2*n-1:Nat),.ref pa],.tup [.int n,.int n,.int (2*n-1:Nat),.ref p]]) J1;have g3:=((ga.trans g1).trans g2).trans gz';have x3:=Bx.of hb g3;have e3:=ab (M:=M2) (a:=pz) (o:=.lst [.tup [.int n,.int n,.int (2*n-1:Nat),.ref pa],.tup [.int n,.int n,.int (2*n-1:Nat),.ref p]]);have ea:=gz' _ _ (g2 _ _ (g1 _ _ ea));have e2:=gz' _ _ e2;generalize af M2 pz (.lst [.tup [.int n,.int n,.int (2*n-1:Nat),.ref pa],.tup [.int n,.int n,.int (2*n-1:Nat),.ref p]])=M3 at x3 e3 ea e2⊢;refine fv x3.box (by decide) (by decide) λv M4 v0 v1 J=>?_
  have nb:∀{a:N2} {o:O},M3 a=Z o->(∀x y z:Int,o≠.lst [.int x,.int y,.int z])->a≠b:=λ{a o} h1 h2 z=>by obtain⟨x,y,z',e⟩:=x3.box;rw[<-z,h1]at e;exact h2 _ _ _ (MW.inj e)
  have nbp:∀{a:N2} {ps:List Pr},M3 a=Z (.lst (ps.map prD))->LS n 27 ps->a≠b:=λh1 G=>nb h1 λx y z=>by
   intro e
   cases h:(_:List Pr)with
   |nil=>exact G.ne h
   |cons u r=>rw[h]at e;cases e
  have IS:=FL (n:=n) ∅ IN.2
  have IT:LS n 27 (pl n n (2*n-1) rs (z4 n)):=by
   refine⟨?_,?_,?_,?_⟩
   ·intro z;have h:cf (bh n n) (0,0,0)=0:=by
     rw[<-hT.cf,<-Aq hI,z];rfl
    rw[lu,if_pos ∅]at h
    cases h
   ·have:=FG hI;lia
   ·exact FH λk=>by have:=IO k;lia
   ·exactλk i j=>by rw[Aq hI,hT.cf]
  have IU:=J.keep _ _ (nb e3 λx y z e=>by cases e) e3
  have IV:=x3.trans J;have L:v=0∨v=1:=∅
  rcases L with rfl|rfl
  ·exact aS IU (d:=.tup [.int n,.int n,.int (2*n-1:Nat),.ref pa]) rfl (hR _ _ ⟨_,_,rfl,IV,J.keep _ _ (nbp ea IS) ea,IS⟩)
  ·exact aS IU (d:=.tup [.int n,.int n,.int (2*n-1:Nat),.ref p]) rfl (hR _ _ ⟨_,_,rfl,IV,J.keep _ _ (nbp e2 IT) e2,IT⟩)
 rintro ρ M1 ⟨ps,p,rfl,x1,e1,G⟩;nofun;refine⟨_,rfl,_,_,rfl,ah e1,λp3 IG=>?_⟩;have F:p3≠b:=λz=>by obtain⟨_,_,_,e⟩:=x1.box;rw[<-z,IG]at e;cases e
 have n3:=x1.none IG F;have x3:=x1.ge (Ge.new (o:=.lst (ps.map prD)) IG);have e3:=ab (M:=M1) (a:=p3) (o:=.lst (ps.map prD));generalize af M1 p3 (.lst (ps.map prD))=M3 at x3 e3⊢;generalize D.tup [.int n,.int n,.int (2*n-1:Nat),.ref p]=sch;refine eh (λρ M'=>∃ps o4 o5 o6,ρ=[Z (.ref b),Z (.int n),Z sch,Z (.ref p3),o4,o5,o6,Y]/\Bx b M M'/\M' p3=Z (.lst (ps.map prD))/\LS n 29 ps) (λR hR=>?_) ?_
 ·ac_nf;refine fv x3.box (by decide) (by decide) λv M4 v0 v1 J=>?_
  have e4:=J.keep _ _ F e3;have J:=x3.trans J;ac_nf
  by_cases L:v=0
  ·rw[if_pos (by simp[L])]
   nofun;refine⟨bT ⟨by decide,by decide⟩,by rw[D2];decide,?_⟩
   rw[show 2*(n:Int)-1=((2*n-1:Nat):Int) by lia]
   refine aP (f:=λi:Nat=>.int (i:Nat)) (ys:=[n,n,2*n-1]) (I:=λl ρ M' acc=>(∃o0,ρ=[o0,Z (.ref b)])/\Bx b M M'/\M' p3=Z (.lst (ps.map prD))/\∃vs:List (List Int),acc=vs.map (λv=>.tup (v.map .int))/\vs.map Nb=l/\∀v∈vs,cU v) rfl ⟨⟨_,rfl⟩,J,e4,[],rfl,rfl,by simp⟩ (λ_ _ _ _ _=>trivial) ?_ ?_
   ·rintro l i r ρ M5 acc e ⟨⟨o0,rfl⟩,U,e5,vs,rfl,hl,L⟩;refine⟨_,rfl,fun N' IP=>?_⟩;have Fn:=aI e;have hi:i=n∨i=2*n-1:=by
     have:i∈[n,n,2*n-1]:=by rw[e];simp
     simp only[KZ,LK,or_false]at this
     rcases this with h|h|h
     ·exact .inl h
     ·exact .inl h
     ·exact .inr h
    have J9:vs.length=l.length:=by rw[<-hl,r0]
    ac_nf;refine IM ∅ U.box λns M6 J2 J3 x6=>?_
    refine⟨by rw[r0,D2];simp at Fn;lia,IP _ _ _ ⟨⟨_,rfl⟩,U.trans x6,x6.keep _ _ F e5,vs++[ns],by simp,by simp[hl,J2],λv J6=>?_⟩⟩
    rcases Ld.mp J6 with h|h
    ·exact L v h
    ·rw[PZ]at h;subst h;exact J3
   ·rintro ρ M5 acc ⟨⟨o0,rfl⟩,U,e5,vs,rfl,hl,L⟩ pv hpv;obtain⟨l,r,o,rfl⟩:∃l r o,vs=[l,r,o]:=by
     have h3:vs.length=3:=by have:=congrArg Nb hl;simpa using this
     match vs,h3 with
     |[l,r,o],_=>exact⟨l,r,o,rfl⟩
    simp only[Lc,OR,P4,and_true]at hl;refine⟨_,ab,_,rfl,?_⟩;have gv:=Ge.new (o:=.lst ([l,r,o].map λv=>.tup (v.map .int))) hpv;have e6:=gv _ _ e5;have x6:=U.ge gv;have IH:=Pa hl.1 (L l (by simp))
    have II:=Pa hl.2.1 (L r (by simp))
    have IJ:=Pa hl.2.2 (L o (by simp))
    generalize af M5 pv (.lst ([l,r,o].map λv=>.tup (v.map .int)))=M6 at gv e6 x6⊢;clear L e5 U gv hpv J e4;nofun;refine⟨⟨_,e6⟩,b7 e6 ?_⟩;ac_nf;rw[r0];refine fv x6.box ∅ (by have:=G.len;lia) λw M7 w0 w1 x7=>?_
    have e7:=x7.keep _ _ F e6;have x7:=x6.trans x7;refine⟨by rw[D2];lia,?_⟩
    refine⟨_,_,_,_,rfl,rfl,e7,w0,by rw[r0];lia,by rw[r0,D2];have:=G.len;lia,?_⟩
    have eq:(ps.map prD).take w.toNat++D.tup [D.tup (l.map D.int),D.tup (r.map D.int),D.tup (o.map D.int)]::(ps.map prD).drop w.toNat=(ps.take w.toNat++(l,r,o)::ps.drop w.toNat).map prD:=by rw[LA,Lc,TL,List.map_drop];rfl
    rw[eq];have IW:∀p∈ps.take w.toNat++(l,r,o)::ps.drop w.toNat,uK n n (2*n-1) p:=λy hy=>by
     rcases Ld.mp hy with h|h
     ·exact G.pr y (Ou h)
     ·rcases KZ.mp h with rfl|h
      ·exact⟨IH.1,II.1,IJ.1,IH.2,II.2,IJ.2⟩
      ·exact G.pr y (Ot h)
    have hT:∀k i j,Tn (ps.take w.toNat++(l,r,o)::ps.drop w.toNat) k i j=Tn ps k i j+tm (l,r,o) k i j:=λk i j=>E8;have hlen:(ps.take w.toNat++(l,r,o)::ps.drop w.toNat).length<=28:=by have:=G.len;rw[I7,Mf,Lu,Nl];lia
    generalize ps.take w.toNat++(l,r,o)::ps.drop w.toNat=qs at IW hT hlen⊢;have e8:=ab (M:=M7) (a:=p3) (o:=.lst (qs.map prD));have x8:=x7.upd (o:=.lst (qs.map prD)) n3 F;generalize af M7 p3 (.lst (qs.map prD))=M8 at e8 x8⊢;clear e7 x7 e6 x6;nofun;refine⟨⟨_,e8⟩,?_⟩;refine aP (f:=.int) (ys:=o) (I:=λl ρ M' acc=>(∃o0,ρ=[o0])/\M'=M8/\acc=(ngL l).map .int) rfl ⟨⟨_,rfl⟩,rfl,rfl⟩ (λ_ _ _ _ _=>trivial) ?_ ?_
    ·rintro l2 y r2 ρ M9 acc e ⟨⟨o0,rfl⟩,rfl,rfl⟩;refine⟨_,rfl,λN' IP=>?_⟩;have Fn:=aI e;ac_nf;exact⟨by rw[r0,xz,D2];lia,IP _ _ _ ⟨⟨_,rfl⟩,rfl,by simp[ngL]⟩⟩
    ·rintro ρ M9 acc ⟨_,rfl,rfl⟩ p9 hp9;refine⟨_,_,rfl,ah ab,?_⟩;have g9:=Ge.new (o:=.lst ((ngL o).map .int)) hp9;have e9:=g9 _ _ e8;have x9:=x8.ge g9;generalize af M9 p9 (.lst ((ngL o).map .int))=M10 at g9 e9 x9⊢;refine⟨by rw[D2];decide,p3,_,_,rfl,rfl,e9,by rw[r0,D2];lia,?_⟩
     refine hR _ _ ⟨qs++[(l,r,ngL o)],_,_,_,rfl,x9.upd n3 F,by rw[ab,LA];rfl,by simp,by rw[I7,Mp];lia,λy hy=>?_,λk i j=>?_⟩
     ·rcases Ld.mp hy with h|h
      ·exact IW y h
      ·rw[PZ]at h;subst h;exact⟨IH.1,II.1,by rw[xz];exact IJ.1,IH.2,II.2,zM IJ.2⟩
     ·have:=FJ (l:=l) (r:=r) (o:=o) (k:=k) (i:=i) (j:=j);rw[eV,uP,hT,G.tn,show Tn [] k i j=0 from rfl];lia
  ·rw[if_neg (by simp[L])]
   exact hR _ _ ⟨_,_,_,_,rfl,J,e4,G.ne,by have:=G.len;lia,G.pr,G.tn⟩
 clear G e3 e1 IG x3 ps x1;rintro ρ M4 ⟨ps,o4,o5,o6,rfl,J,e4,G⟩;nofun;refine b7 e4 ?_;rw[r0];have J7:=Mk.mpr G.ne;have hlen:=G.len;refine fv J.box ∅ ∅ λv M5 v0 v1 U=>?_
 have e5:=U.keep _ _ F e4;have U:=J.trans U;obtain⟨a,rfl⟩:=LX v0;have IK:a<=ps.length:=∅
 nofun;refine⟨bT ⟨by decide,by decide⟩,?_⟩
 refine⟨_,e5,λpa IM=>?_⟩;have ga:=Ge.new (o:=.lst (bX (ps.map prD) (Z (a:Int)) Y)) IM;refine⟨_,ga _ _ e5,λpb F=>?_⟩;have gb:=ga.trans (Ge.new (o:=.lst (bX (ps.map prD) Y (Z (a:Int)))) F);refine⟨_,_,Ge.new F _ _ ab,ab,?_,λpc IQ=>⟨by rw[D2];decide,?_⟩⟩
 ·rw[xB (by simpa using IK),xA (by simpa using IK),D2,Lu,Nl,r0];lia
 have Ja:=U.box;have xb:=U.ge gb;have IO:pc≠b:=λz=>by obtain⟨_,_,_,e⟩:=xb.box;rw[<-z,IQ]at e;cases e
 rw[show 2*(n:Int)-1=((2*n-1:Nat):Int) by lia]
 refine q (ps.drop a++ps.take a) pc _ ⟨?_,?_,λy hy=>?_,λk i j=>?_⟩ (xb.ge (.new IQ)) (xb.none IQ IO) ?_
 ·intro z;have:=congrArg Nb z;rw[I7,Lu,Nl,ND]at this;lia
 ·rw[I7,Lu,Nl];lia
 ·rcases Ld.mp hy with h|h
  ·exact G.pr y (Ot h)
  ·exact G.pr y (Ou h)
 ·rw[Ed,G.tn]
 ·rw[ab,xB (by simpa using IK),xA (by simpa using IK),<-TL,<-List.map_drop,<-LA]
end
section
variable{T:List FD}
theorem sZ:∀n:Nat,aA u9 (D1 n (D.bl F2))=Z (D1 n F2)
 |0=>rfl
 |n+1=>by rw[Mr];unfold aA;rw[sZ n];rfl
theorem Em(e:M p=Z (.lst (D1 n (.bl F2))))(q:Q (.bl F2) M):pU [.ref p] M Q:=by
 refine⟨_,_,_,rfl,ah e,sZ n,?_⟩;rw[show(D1 n F2).all id=F2 by simp]
 exact q
theorem Cg{a b c d:D}(q:Q (.tup [a,b,c]) M):fE (.tup [a,b,c,d]) Y (Z 3) M Q:=q
end
section
open L2.Srt
variable{T:List FD}
noncomputable def lK(s:Stmt):FD:=⟨"_law_same_row",s,["_law_found","_law_due"],2,
 (.cons (.ite (.or (.cons (.not (.tru (.isin (.var 0) "list"))) (.cons (.cmp .ne (.blt .len (.cons (.var 0) .nil)) (.blt .len (.cons (.var 1) .nil))) .nil))) (.cons (.ret (.bl Md))
 .nil) .nil)
 (.cons (.ret (.blt .all (.cons (.comp [Y,Y] ["_law_a","_law_b"] (.last (.zip (.var 0) (.var 1)) (.tup (.cons (.name 0) (.cons (.name 1) .nil))) .nil (.and (.cons (.isin (.var 0) "int") (.cons (.not (.isin (.var 0) "bool")) (.cons (.cmp .eq (.var 0) (.var 1)) .nil)))))) .nil)))
 .nil))⟩
theorem Ch{α:Type}{l:List α}:D1 l.length (D.bl F2)=l.map λ_=>D.bl F2:=by
 induction l with
 |nil=>rfl
 |cons a l ih=>rw[Mf,Mr,ih];rfl
theorem qP:∀A:List Int,Qg ik (A.map D.int) (A.map D.int)=A.map λx=>D.tup [.int x,.int x]
 |[]=>rfl
 |a::A=>by rw[Lc,Sy,qP A,Lc];rfl
theorem zS(hf:T[f]?=Z (lK s)){k:Nat}(F:1<=k){p':N2}(ep:M p=Z (.lst (A.map .int)))(ep':M p'=Z (.lst (A.map .int)))(G:A.length<=1000)(q:∀M',Ge M M'->Q (.bl F2) M'):phi T k f [.ref p,.ref p'] M Q:=by
 refine aB ∅ hf rfl (ρ:=[Z _,Z _]) rfl ?_
 unfold lK;nofun;refine⟨"list",by simp[tyN,ep],F2,rfl,?_⟩
 rw[if_neg (by decide)]
 refine b7 ep (b7 ep' ?_);ac_nf;rw[if_neg (by simp)]
 nofun;refine⟨_,ah ep,_,ah ep',?_⟩;refine aP (f:=λx:Int=>D.tup [.int x,.int x]) (ys:=A) (I:=λl ρ M' acc=>(∃o0 z,ρ=[o0,z])/\M'=M/\acc=l.map λ_=>D.bl F2) (qP A) ⟨⟨_,_,rfl⟩,rfl,rfl⟩ (λ_ _ _ _ h=>by rw[h.2.1];exact⟨ah ep,ah ep'⟩) ?_ ?_
 ·rintro l x r ρ M1 acc e ⟨⟨o0,z,rfl⟩,rfl,rfl⟩;refine⟨_,rfl,λN' j=>?_⟩;have B:=aI e;ac_nf;refine⟨"int",rfl,?_⟩;rw[if_pos (by rfl)]
  refine⟨"int",rfl,?_⟩;rw[if_pos (by rfl)]
  exact⟨by rw[r0,D2];lia,j _ _ _ ⟨⟨_,_,rfl⟩,rfl,by simp⟩⟩
 ·rintro ρ M1 acc ⟨_,rfl,rfl⟩ pa hpa;exact Em (n:=A.length) (by rw[ab,Ch]) (q _ (.new hpa))
theorem eZ{n:Nat}{M:Mem}(ih:∀d p,rb n M d=Z p->Mm p p=F2):∀{ds:List D} {ps:List MP},aA (rb n M) ds=Z ps->QE ps ps=F2
 |[],ps,h=>by simp[aA]at h;subst h;rfl
 |d::ds,ps,h=>by
  simp only[aA]at h
  cases e1:rb n M d with
  |none=>rw[e1]at h;cases h
  |some p=>
   cases e2:aA (rb n M) ds with
   |none=>rw[e1,e2]at h;cases h
   |some r=>rw[e1,e2]at h;cases h;simp[QE,ih d p e1,eZ ih e2]
theorem Ci:∀(n:Nat) (d:D) (p:MP),rb n M d=Z p->Mm p p=F2:=by
 intro n
 induction n with
 |zero=>
  intro d p h
  cases d<;>simp[rb]at h<;>first
   |(subst h;simp[Mm])
   |(obtain⟨_,rfl⟩:=h;simp[Mm])
 |succ n ih=>
  intro d p h
  cases d<;>simp only[rb]at h<;>first
   |(cases h;simp[Mm];done)
   |skip
  case fn=>cases h
  case str x=>split at h<;>cases h;simp[Mm]
  case tup ds=>
   cases e:aA (rb n M) ds with
   |none=>rw[e]at h;cases h
   |some r=>rw[e]at h;cases h;simp[Mm,eZ ih e]
  case con ds=>
   cases e:aA (rb n M) ds with
   |none=>rw[e]at h;cases h
   |some r=>rw[e]at h;cases h;simp[Mm,eZ ih e]
  case ref a=>
   split at h
   ·next ds _=>
    cases e:aA (rb n M) ds with
    |none=>rw[e]at h;cases h
    |some r=>rw[e]at h;cases h;simp[Mm,eZ ih e]
   ·cases h
theorem Eo{k:Nat}{x:Int}{ps:List Pr}(h:M a=Z (.lst (ps.map prD))):rb (k+4) M (.tup [.int x,.int y,.int z,.ref a])=Z (.tuple [.int x,.int y,.int z,.list (ps.map ll)]):=by
 have e:rb (k+3) M (.ref a)=Z (.list (ps.map ll)):=by rw[xf h,wZ];rfl
 show(aA (rb (k+3) M) [.int x,.int y,.int z,.ref a]).map Um=_;simp only[aA,e];simp[rb]
end
section
open L2.Srt
variable{T:List FD}
noncomputable def qQ(s:Stmt):FD:=⟨"_law_over",s,["_law_one","_law_other","_law_row_here","_law_i","_law_a","_law_j","_law_b"],2,
 (.cons (.asg (.name 2) (.bin .mul (.lst (.cons (.int 0) .nil)) (.bin .sub (.bin .add (.blt .len (.cons (.var 0) .nil)) (.blt .len (.cons (.var 1) .nil))) (.int 1))))
 (.cons (.for (.tup (.cons (.name 3) (.cons (.name 4) .nil))) (.enum (.var 0)) (.cons (.for (.tup (.cons (.name 5) (.cons (.name 6) .nil))) (.enum (.var 1)) (.cons (.put (.var 2) (.bin .add (.var 3) (.var 5)) (.bin .add (.ix (.var 2) (.bin .add (.var 3) (.var 5))) (.bin .mul (.var 4) (.var 6))))
 .nil))
 .nil))
 (.cons (.ret (.var 2))
 .nil)))⟩
theorem xJ{l r:List (Int×Int)}{y:Int×Int}(e:idx A=l++y::r):y=(((l.length:Nat):Int),gz A (l.length:Nat))/\l.length<A.length:=by have h:=nh e;have j:=aI e;rw[iH]at j;unfold idx at h;rw[QJ,cV j]at h;exact⟨(MW.inj h).symm,j⟩
theorem Cj{s:Nat}(z:B.length=s){u:Int}:(ak s λj=>if u=(j:Nat)then gz B (j:Nat)else 0)=gz B u:=by
 by_cases h:0<=u/\u<s
 ·obtain⟨k,rfl⟩:=LX h.1;rw[<-du (n:=s) (k:=k) (F:=λj=>gz B (j:Nat)) ∅]
  exact aq λj _=>by
   by_cases e:k=j
   ·rw[if_pos ∅,if_pos e]
   ·rw[if_neg ∅,if_neg e]
 ·rw[dJ (by rw[z];exact h)]
  exact aW λj G=>if_neg ∅
theorem Ck(hf:T[f]?=Z (qQ s)){k:Nat}(hk:1<=k){pA pB:N2}{sz:Nat}(h1:1<=sz)(h2:sz<=100)(lA:A.length=sz)(lB:B.length=sz)(bA:∀x∈A,-(2^64)<x/\x<2^64)(eA:M pA=Z (.lst (A.map .int)))(eB:M pB=Z (.lst (B.map .int)))(q:∀p M',Ge M M'->M p=Y->M' p=Z (.lst ((cv sz A B).map .int))->Q (.ref p) M'):phi T k f [.ref pA,.ref pB] M Q:=by
 refine aB ∅ hf rfl (ρ:=[Z _,Z _,Y,Y,Y,Y,Y]) rfl ?_
 unfold qQ;nofun;refine⟨by rw[D2];decide,λp1 U=>?_⟩
 have g1:=Ge.new (o:=.lst [.int 0]) U;refine b7 (g1 _ _ eA) (b7 (g1 _ _ eB) ?_);ac_nf;rw[r0,r0,lA,lB,show(sz:Int)+sz-1=((2*sz-1:Nat):Int) by lia]
 refine⟨_,ab,∅,∅,by rw[D2];simp;lia,λpf O=>?_⟩
 rw[L6,zB];have g2:=g1.trans (Ge.new (o:=.lst ((D1 (2*sz-1) (0:Int)).map D.int)) O);have e2:af (af M p1 (.lst [.int 0])) pf (.lst ((D1 (2*sz-1) (0:Int)).map D.int)) pf=_:=ab;have nf:=i7 g1 O;generalize af (af M p1 (.lst [.int 0])) pf (.lst ((D1 (2*sz-1) (0:Int)).map D.int))=M2 at g2 e2⊢;nofun;refine⟨_,ah (g2 _ _ eA),?_⟩;rw[jg];refine bw (f:=pD) (ys:=idx A) (I:=λl ρ M'=>(∃Fn fv J L,ρ=[Z (.ref pA),Z (.ref pB),Z (.ref pf),Fn,fv,J,L])/\Ge M M'/\∃t:List Int,M' pf=Z (.lst (t.map .int))/\t.length=2*sz-1/\∀z,gz t z=ak l.length λi=>gz A (i:Nat)*gz B (z-(i:Nat))) rfl ⟨⟨_,_,_,_,rfl⟩,g2,_,e2,by simp,λz=>by rw[i5];rfl⟩ ?_ ?_ ?_
 ·rintro l ρ M' ⟨_,g,_⟩;exact ah (g _ _ eA)
 ·rintro l y r ρ M3 e ⟨⟨Fn,fv,J,L,rfl⟩,g3,t,et,lt,ht⟩;refine⟨_,rfl,λF hF=>?_⟩;obtain⟨ey,hy⟩:=xJ e;subst ey;have bAy:=bA _ (Lj (cV hy));nofun;refine⟨_,ah (g3 _ _ eB),?_⟩;rw[jg];refine bw (f:=pD) (ys:=idx B) (I:=λl2 ρ M'=>(∃J L,ρ=[Z (.ref pA),Z (.ref pB),Z (.ref pf),Z (.int (l.length:Nat)),Z (.int (gz A (l.length:Nat))),J,L])/\Ge M M'/\∃t':List Int,M' pf=Z (.lst (t'.map .int))/\t'.length=2*sz-1/\∀z,gz t' z=gz t z+gz A (l.length:Nat)*ak l2.length λj=>if z-(l.length:Nat)=(j:Nat)then gz B (j:Nat)else 0) rfl ⟨⟨_,_,rfl⟩,g3,t,et,lt,λz=>by simp[ak]⟩ ?_ ?_ ?_
  ·rintro l2 ρ M' ⟨_,g,_⟩;exact ah (g _ _ eB)
  ·rintro l2 y2 r2 ρ M4 e4 ⟨⟨J,L,rfl⟩,g4,t',et',lt',G⟩;refine⟨_,rfl,λFn IG=>?_⟩;obtain⟨ey,IH⟩:=xJ e4;subst ey;rw[bQ];ac_nf;rw[show((l.length:Nat):Int)+(l2.length:Nat)=((l.length+l2.length:Nat):Int) by simp]
   refine aS et' (d:=.int (gz t' ((l.length+l2.length:Nat):Int))) (kz (by rw[L8,cV ∅];rfl)) ?_
   refine⟨bT bAy,?_⟩;refine cb et' (j:=l.length+l2.length) (sM (by rw[r0];lia)) ?_
   rw[<-R7];refine IG _ _ ⟨⟨_,_,rfl⟩,kC g4 nf,_,ab,by rw[QM];exact lt',λz=>?_⟩
   rw[qJ ∅,I7,Mp,rsum_succ]
   by_cases hz:z=((l.length+l2.length:Nat):Int)
   ·subst hz;rw[if_pos rfl,if_pos ∅,G,Int.mul_add];lia
   ·rw[if_neg hz,if_neg ∅,G,Int.add_zero]
  ·rintro ρ M4 ⟨⟨J,L,rfl⟩,g4,t',et',lt',G⟩;dsimp only;rw[sB];refine hF _ _ ⟨⟨_,_,_,_,rfl⟩,g4,t',et',lt',λz=>?_⟩;rw[G,ht,I7,Mp,rsum_succ,iH,lB,Cj lB]
 ·rintro ρ M' ⟨⟨Fn,fv,J,L,rfl⟩,g,t,et,lt,ht⟩;nofun;refine q _ _ g nf ?_;rw[et];congr 3;refine E9 (by rw[lt,dv]) λz _=>?_
  rw[ht,iH,lA,uS ∅];rfl
end
section
namespace K47
noncomputable def aj(i:Nat):Stmt:=PySem.Challenge.pw_fewtimes_k47_long_rows.main.body.getD i (.Pass ⟨0,0,0,0⟩)
noncomputable def d0:FD:=i3 (aj 1)
noncomputable def d1:FD:=ko (aj 2) 0
noncomputable def d2:FD:=dg (aj 4)
noncomputable def d3:FD:=dI (aj 5)
noncomputable def d4:FD:=kD (aj 7)
noncomputable def d5:FD:=i6 (aj 8) 2
noncomputable def d6:FD:=kB (aj 9) 5 2
noncomputable def d7:FD:=oB (aj 10)
noncomputable def b8:MSs:=
 (.cons (.ite (.cmp .eq (.blt .len (.cons (.var 2) .nil)) (.int 1)) (.cons (.ret (.tup (.cons (.lst (.cons (.bin .mul (.ix (.var 2) (.int 0)) (.ix (.var 3) (.int 0))) .nil)) (.cons (.int 1) .nil))))
 .nil) .nil)
 (.cons (.asg (.name 4) (.call 4 (.cons (.blt .len (.cons (.var 2) .nil)) (.cons (.var 1) .nil))))
 (.cons (.asg (.name 5) (.comp [Y,(Z 4)] ["k","wide"] (.last (.rng1 (.bin .sub (.bin .mul (.int 2) (.var 1)) (.int 1))) (.name 0) .nil (.lrng2 (.bin .mul (.var 0) (.var 1)) (.bin .sub (.bin .mul (.bin .add (.var 0) (.int 2)) (.var 1)) (.int 1))))))
 (.cons (.asg (.tup (.cons (.name 6) (.cons (.name 7) .nil))) (.callL 6 (.cons (.var 0) (.cons (.call 7 (.cons (.var 2) (.cons (.var 1) (.cons (.var 4) .nil)))) (.cons (.call 7 (.cons (.var 3) (.cons (.var 1) (.cons (.var 4) .nil)))) (.cons (.var 5) .nil)))) 8 [0,1] [0,1,2,3] 62 ⟨42,98,42,137⟩ (Lw "row_times.<locals>.<lambda>")))
 (.cons (.ret (.tup (.cons (.sl (.var 6) .none (.some (.bin .sub (.bin .mul (.int 2) (.blt .len (.cons (.var 2) .nil))) (.int 1)))) (.cons (.var 7) .nil))))
 .nil)))))
noncomputable def d8:FD:=⟨"row_times",aj 11,["scheme","n","one","other","wide","places","told","times"],4,b8⟩
noncomputable def d9:FD:=iJ (aj 13) 3
noncomputable def d10:FD:=kw (aj 14) 3
noncomputable def d11:FD:=kx (aj 15) 3
noncomputable def d12:FD:=uR (aj 16) 10 11
noncomputable def d13:FD:=kl (aj 18)
noncomputable def d14:FD:=lj (aj 19)
noncomputable def d15:FD:=uI (aj 20) 13 14
noncomputable def d16:FD:=qz (aj 21) 14
noncomputable def d17:FD:=jf (aj 22) 16
noncomputable def d18:FD:=qB (aj 23) 17
noncomputable def d19:FD:=uL (aj 24) 16
noncomputable def d20:FD:=qO (aj 25) 12 9 1 16 18
noncomputable def d21:FD:=jj (aj 26)
noncomputable def d22:FD:=qQ (aj 27)
noncomputable def d23:FD:=lK (aj 28)
noncomputable def b24:MSs:=
 (.cons (.for (.name 1) (.rng1 (.blt .max2 (.cons (.int 4) (.cons (.blt .min2 (.cons (.blt .len (.cons (.var 0) .nil)) (.cons (.int 8) .nil))) .nil)))) (.cons (.asg (.name 2) (.call 15 (.cons (.var 0) (.cons (.var 1) .nil))))
 (.cons (.asg (.name 3) (.bin .add (.int 2) (.call 16 (.cons (.var 2) (.cons (.int 4) .nil)))))
 (.cons (.asg (.name 4) (.call 20 (.cons (.var 2) (.cons (.var 3) .nil))))
 (.cons (.asg (.name 5) (.ix (.lst (.cons (.bin .add (.int 1) (.call 16 (.cons (.var 2) (.cons (.int 60) .nil)))) (.cons (.var 3) (.cons (.bin .add (.var 3) (.int 1)) (.cons (.int 1) .nil))))) (.blt .min2 (.cons (.int 3) (.cons (.bin .fdiv (.call 16 (.cons (.var 2) (.cons (.int 8) .nil))) (.int 2)) .nil)))))
 (.cons (.while (.cmp .gt (.call 21 (.cons (.blt .len (.cons (.ix (.var 4) (.int 3)) .nil)) (.cons (.var 3) (.cons (.var 5) .nil)))) (.int 700)) (.cons (.asg (.name 5) (.bin .fdiv (.var 5) (.int 2)))
 .nil))
 (.cons (.par 6 7 (.call 19 (.cons (.var 2) (.cons (.var 5) .nil))) (.call 19 (.cons (.var 2) (.cons (.var 5) .nil))))
 (.cons (.asg (.name 8) (.tup (.cons (.bin .add (.sl (.var 4) .none (.some (.int 3))) (.tup (.cons (.blt .list (.cons (.ix (.var 4) (.int 3)) .nil)) .nil))) (.cons (.blt .list (.cons (.var 6) .nil)) (.cons (.blt .list (.cons (.var 7) .nil)) .nil)))))
 (.cons (.for (.name 9) (.rng1 (.int 2)) (.cons (.asg (.name 10) (.call 8 (.cons (.ix (.var 8) (.int 0)) (.cons (.var 3) (.cons (.ix (.var 8) (.int 1)) (.cons (.ix (.var 8) (.int 2)) .nil))))))
 (.cons (.ite (.or (.cons (.not (.tru (.isin (.var 10) "tuple"))) (.cons (.cmp .ne (.blt .len (.cons (.var 10) .nil)) (.int 2)) (.cons (.cmp .ne (.var 8) (.tup (.cons (.var 4) (.cons (.var 6) (.cons (.var 7) .nil))))) .nil)))) (.cons (.ret (.bl Md))
 .nil) .nil)
 (.cons (.ite (.not (.tru (.call 23 (.cons (.ix (.var 10) (.int 0)) (.cons (.call 22 (.cons (.var 6) (.cons (.var 7) .nil))) .nil))))) (.cons (.ret (.bl Md))
 .nil) .nil)
 (.cons (.ite (.not (.tru (.call 23 (.cons (.lst (.cons (.ix (.var 10) (.int 1)) .nil)) (.cons (.lst (.cons (.call 21 (.cons (.blt .len (.cons (.ix (.var 4) (.int 3)) .nil)) (.cons (.var 3) (.cons (.var 5) .nil)))) .nil)) .nil))))) (.cons (.ret (.bl Md))
 .nil) .nil)
 (.cons (.drop (.meth .append (.ix (.var 10) (.int 0)) (.int 7)))
 .nil))))))
 .nil)))))))))
 (.cons (.ret (.bl F2))
 .nil))
noncomputable def d24:FD:=⟨"law",aj 29,["_law_script","_law_k","_law_box_here","_law_n","_law_scheme","_law_length","_law_one","_law_other","_law_handed","_law_turn","_law_found"],1,b24⟩
noncomputable def tab:List FD:=[d0,d1,d2,d3,d4,d5,d6,d7,d8,d9,d10,d11,d12,d13,d14,d15,d16,d17,d18,d19,d20,d21,d22,d23,d24]
noncomputable def qR:List (Str×D):=[]
noncomputable def lms:List (Str×N2):=[("row_times",62)]
noncomputable def lmM:List (N2×Pos×Str):=[(62,⟨42,98,42,137⟩,Lw "row_times.<locals>.<lambda>")]
theorem FM(us:List gV)(h:us.length=5):∃a b c d e,us=[a,b,c,d,e]:=by
 cases us with
 |nil=>cases h
 |cons a us=>obtain⟨b,c,d,e,rfl⟩:=uH us (VF.inj h);exact⟨a,b,c,d,e,rfl⟩
end K47
end
section
namespace K47
theorem Ep:∀d∈tab,uE (tab.map (·.name)) qR lms d=F2:=by decide +kernel
noncomputable abbrev PA(K:Frag)(x:Str)(f:N2):Prop:=R3 K MB x=Z (Z (.ref f))
noncomputable abbrev PL(K:Frag)(f:N2)(x:Str)(s:Stmt)(oc:gV)(od:Option N2)(kV dc pm:gV)(an:Option N2)(cd ct:gV)(sl:Array (Option gV)):Prop:=K.lookup f=Z ⟨oc,od,.func (NL x x (cW s) (bu s) (ao s) .none kV dc pm an cd ct),sl⟩
noncomputable abbrev PC(K:Frag)(c:gV)(x:Str):Prop:=Pk K c x=F2
noncomputable abbrev PK(K:Frag)(f:N2):Prop:=Oa K (.ref f)=F2
theorem all_mk{l:SF}{w:LL}{K:Frag}{h:Heap}{mg:Str->Option gV}{fa:N2}(X:K.In h)(G:h.Ns MB mg)(hfa:mg "law"=Z (.ref fa))(z:∀x∈bltNames,R3 K MB x=Z Y)(a0:PA K "task_of" f0)(l0:PL K f0 "task_of" (aj 1) oc0 od0 kV0 dc0 pm0 an0 cd0 ct0 sl0)(c0:PC K cd0 "task_of")(k0:PK K f0)(a1:PA K "line_task" f1)(l1:PL K f1 "line_task" (aj 2) oc1 od1 kV1 dc1 pm1 an1 cd1 ct1 sl1)(c1:PC K cd1 "line_task")(k1:PK K f1)(a2:PA K "filled" f2)(l2:PL K f2 "filled" (aj 4) oc2 od2 kV2 dc2 pm2 an2 cd2 ct2 sl2)(c2:PC K cd2 "filled")(k2:PK K f2)(a3:PA K "single_one" f3)(l3:PL K f3 "single_one" (aj 5) oc3 od3 kV3 dc3 pm3 an3 cd3 ct3 sl3)(c3:PC K cd3 "single_one")(k3:PK K f3)(a4:PA K "block_length" f4)(l4:PL K f4 "block_length" (aj 7) oc4 od4 kV4 dc4 pm4 an4 cd4 ct4 sl4)(c4:PC K cd4 "block_length")(k4:PK K f4)(a5:PA K "block_sum" f5)(l5:PL K f5 "block_sum" (aj 8) oc5 od5 kV5 dc5 pm5 an5 cd5 ct5 sl5)(c5:PC K cd5 "block_sum")(k5:PK K f5)(a6:PA K "by_blocks" f6)(l6:PL K f6 "by_blocks" (aj 9) oc6 od6 kV6 dc6 pm6 an6 cd6 ct6 sl6)(c6:PC K cd6 "by_blocks")(k6:PK K f6)(a7:PA K "row_blocks" f7)(l7:PL K f7 "row_blocks" (aj 10) oc7 od7 kV7 dc7 pm7 an7 cd7 ct7 sl7)(c7:PC K cd7 "row_blocks")(k7:PK K f7)(a8:PA K "row_times" f8)(l8:PL K f8 "row_times" (aj 11) oc8 od8 kV8 dc8 pm8 an8 (.ref cl8) ct8 sl8)(c8:PC K (.ref cl8) "row_times")(k8:PK K f8)(a9:PA K "plain" f9)(l9:PL K f9 "plain" (aj 13) oc9 od9 kV9 dc9 pm9 an9 cd9 ct9 sl9)(c9:PC K cd9 "plain")(k9:PK K f9)(a10:PA K "own_product" f10)(l10:PL K f10 "own_product" (aj 14) oc10 od10 kV10 dc10 pm10 an10 cd10 ct10 sl10)(c10:PC K cd10 "own_product")(k10:PK K f10)(a11:PA K "pair_product" f11)(l11:PL K f11 "pair_product" (aj 15) oc11 od11 kV11 dc11 pm11 an11 cd11 ct11 sl11)(c11:PC K cd11 "pair_product")(k11:PK K f11)(a12:PA K "by_pairs" f12)(l12:PL K f12 "by_pairs" (aj 16) oc12 od12 kV12 dc12 pm12 an12 cd12 ct12 sl12)(c12:PC K cd12 "by_pairs")(k12:PK K f12)(a13:PA K "_law_cell_at" f13)(l13:PL K f13 "_law_cell_at" (aj 18) oc13 od13 kV13 dc13 pm13 an13 cd13 ct13 sl13)(c13:PC K cd13 "_law_cell_at")(k13:PK K f13)(a14:PA K "_law_mixed" f14)(l14:PL K f14 "_law_mixed" (aj 19) oc14 od14 kV14 dc14 pm14 an14 cd14 ct14 sl14)(c14:PC K cd14 "_law_mixed")(k14:PK K f14)(a15:PA K "_law_box" f15)(l15:PL K f15 "_law_box" (aj 20) oc15 od15 kV15 dc15 pm15 an15 cd15 ct15 sl15)(c15:PC K cd15 "_law_box")(k15:PK K f15)(a16:PA K "_law_take" f16)(l16:PL K f16 "_law_take" (aj 21) oc16 od16 kV16 dc16 pm16 an16 cd16 ct16 sl16)(c16:PC K cd16 "_law_take")(k16:PK K f16)(a17:PA K "_law_number" f17)(l17:PL K f17 "_law_number" (aj 22) oc17 od17 kV17 dc17 pm17 an17 cd17 ct17 sl17)(c17:PC K cd17 "_law_number")(k17:PK K f17)(a18:PA K "_law_part" f18)(l18:PL K f18 "_law_part" (aj 23) oc18 od18 kV18 dc18 pm18 an18 cd18 ct18 sl18)(c18:PC K cd18 "_law_part")(k18:PK K f18)(a19:PA K "_law_row" f19)(l19:PL K f19 "_law_row" (aj 24) oc19 od19 kV19 dc19 pm19 an19 cd19 ct19 sl19)(c19:PC K cd19 "_law_row")(k19:PK K f19)(a20:PA K "_law_line_scheme" f20)(l20:PL K f20 "_law_line_scheme" (aj 25) oc20 od20 kV20 dc20 pm20 an20 cd20 ct20 sl20)(c20:PC K cd20 "_law_line_scheme")(k20:PK K f20)(a21:PA K "_law_times" f21)(l21:PL K f21 "_law_times" (aj 26) oc21 od21 kV21 dc21 pm21 an21 cd21 ct21 sl21)(c21:PC K cd21 "_law_times")(k21:PK K f21)(a22:PA K "_law_over" f22)(l22:PL K f22 "_law_over" (aj 27) oc22 od22 kV22 dc22 pm22 an22 cd22 ct22 sl22)(c22:PC K cd22 "_law_over")(k22:PK K f22)(a23:PA K "_law_same_row" f23)(l23:PL K f23 "_law_same_row" (aj 28) oc23 od23 kV23 dc23 pm23 an23 cd23 ct23 sl23)(c23:PC K cd23 "_law_same_row")(k23:PK K f23)(a24:PA K "law" f24)(l24:PL K f24 "law" (aj 29) oc24 od24 kV24 dc24 pm24 an24 cd24 ct24 sl24)(c24:PC K cd24 "law")(k24:PK K f24)(hd8:N8 K cl8 62=F2)
 : ∃fd:Nk,(∀(s:q7) (v:gV),Ti s fd ⟨[v],[]⟩ [("_law_script",v)])/\∀base:Heap,K.In base->base.Ns MB mg->fb mg base->FnOk l.prog w K mg base CX0 40 fa fd ["_law_script"] (lSp K (phi tab 40 24)):=by
 have e:=hfa.symm.trans (Lx X G a24)
 cases e
 have O:uF K mg tab qR lms:=by
  refine⟨λx hx=>PySem.W.mg_none_of X G (z x hx),?_,Ep,?_,by decide,?_⟩
  ·intro i d hd
   match i,hd with
   |0,hd=>cases hd;exact⟨_,_,ai l0 c0 k0,Lx X G a0,a0,(ai l0 c0 k0).binds λ_ _ _ _ _ _ us hl=>by obtain⟨u0,u1,u2,u3,rfl⟩:=uH us hl;rfl⟩
   |1,hd=>cases hd;exact⟨_,_,ai l1 c1 k1,Lx X G a1,a1,(ai l1 c1 k1).binds λ_ _ _ _ _ _ us hl=>by obtain⟨u0,u1,rfl⟩:=bP us hl;rfl⟩
   |2,hd=>cases hd;exact⟨_,_,ai l2 c2 k2,Lx X G a2,a2,(ai l2 c2 k2).binds λ_ _ _ _ _ _ us hl=>by obtain⟨u0,rfl⟩:=iF us hl;rfl⟩
   |3,hd=>cases hd;exact⟨_,_,ai l3 c3 k3,Lx X G a3,a3,(ai l3 c3 k3).binds λ_ _ _ _ _ _ us hl=>by obtain⟨u0,u1,rfl⟩:=bP us hl;rfl⟩
   |4,hd=>cases hd;exact⟨_,_,ai l4 c4 k4,Lx X G a4,a4,(ai l4 c4 k4).binds λ_ _ _ _ _ _ us hl=>by obtain⟨u0,u1,rfl⟩:=bP us hl;rfl⟩
   |5,hd=>cases hd;exact⟨_,_,ai l5 c5 k5,Lx X G a5,a5,(ai l5 c5 k5).binds λ_ _ _ _ _ _ us hl=>by obtain⟨u0,u1,rfl⟩:=bP us hl;rfl⟩
   |6,hd=>cases hd;exact⟨_,_,ai l6 c6 k6,Lx X G a6,a6,(ai l6 c6 k6).binds λ_ _ _ _ _ _ us hl=>by obtain⟨u0,u1,u2,u3,u4,rfl⟩:=FM us hl;rfl⟩
   |7,hd=>cases hd;exact⟨_,_,ai l7 c7 k7,Lx X G a7,a7,(ai l7 c7 k7).binds λ_ _ _ _ _ _ us hl=>by obtain⟨u0,u1,u2,rfl⟩:=oA us hl;rfl⟩
   |8,hd=>cases hd;exact⟨_,_,ai l8 c8 k8,Lx X G a8,a8,(ai l8 c8 k8).binds λ_ _ _ _ _ _ us hl=>by obtain⟨u0,u1,u2,u3,rfl⟩:=uH us hl;rfl⟩
   |9,hd=>cases hd;exact⟨_,_,ai l9 c9 k9,Lx X G a9,a9,(ai l9 c9 k9).binds λ_ _ _ _ _ _ us hl=>by obtain⟨u0,rfl⟩:=iF us hl;rfl⟩
   |10,hd=>cases hd;exact⟨_,_,ai l10 c10 k10,Lx X G a10,a10,(ai l10 c10 k10).binds λ_ _ _ _ _ _ us hl=>by obtain⟨u0,u1,rfl⟩:=bP us hl;rfl⟩
   |11,hd=>cases hd;exact⟨_,_,ai l11 c11 k11,Lx X G a11,a11,(ai l11 c11 k11).binds λ_ _ _ _ _ _ us hl=>by obtain⟨u0,u1,u2,rfl⟩:=oA us hl;rfl⟩
   |12,hd=>cases hd;exact⟨_,_,ai l12 c12 k12,Lx X G a12,a12,(ai l12 c12 k12).binds λ_ _ _ _ _ _ us hl=>by obtain⟨u0,rfl⟩:=iF us hl;rfl⟩
   |13,hd=>cases hd;exact⟨_,_,ai l13 c13 k13,Lx X G a13,a13,(ai l13 c13 k13).binds λ_ _ _ _ _ _ us hl=>by obtain⟨u0,u1,rfl⟩:=bP us hl;rfl⟩
   |14,hd=>cases hd;exact⟨_,_,ai l14 c14 k14,Lx X G a14,a14,(ai l14 c14 k14).binds λ_ _ _ _ _ _ us hl=>by obtain⟨u0,u1,rfl⟩:=bP us hl;rfl⟩
   |15,hd=>cases hd;exact⟨_,_,ai l15 c15 k15,Lx X G a15,a15,(ai l15 c15 k15).binds λ_ _ _ _ _ _ us hl=>by obtain⟨u0,u1,rfl⟩:=bP us hl;rfl⟩
   |16,hd=>cases hd;exact⟨_,_,ai l16 c16 k16,Lx X G a16,a16,(ai l16 c16 k16).binds λ_ _ _ _ _ _ us hl=>by obtain⟨u0,u1,rfl⟩:=bP us hl;rfl⟩
   |17,hd=>cases hd;exact⟨_,_,ai l17 c17 k17,Lx X G a17,a17,(ai l17 c17 k17).binds λ_ _ _ _ _ _ us hl=>by obtain⟨u0,rfl⟩:=iF us hl;rfl⟩
   |18,hd=>cases hd;exact⟨_,_,ai l18 c18 k18,Lx X G a18,a18,(ai l18 c18 k18).binds λ_ _ _ _ _ _ us hl=>by obtain⟨u0,u1,rfl⟩:=bP us hl;rfl⟩
   |19,hd=>cases hd;exact⟨_,_,ai l19 c19 k19,Lx X G a19,a19,(ai l19 c19 k19).binds λ_ _ _ _ _ _ us hl=>by obtain⟨u0,u1,rfl⟩:=bP us hl;rfl⟩
   |20,hd=>cases hd;exact⟨_,_,ai l20 c20 k20,Lx X G a20,a20,(ai l20 c20 k20).binds λ_ _ _ _ _ _ us hl=>by obtain⟨u0,u1,rfl⟩:=bP us hl;rfl⟩
   |21,hd=>cases hd;exact⟨_,_,ai l21 c21 k21,Lx X G a21,a21,(ai l21 c21 k21).binds λ_ _ _ _ _ _ us hl=>by obtain⟨u0,u1,u2,rfl⟩:=oA us hl;rfl⟩
   |22,hd=>cases hd;exact⟨_,_,ai l22 c22 k22,Lx X G a22,a22,(ai l22 c22 k22).binds λ_ _ _ _ _ _ us hl=>by obtain⟨u0,u1,rfl⟩:=bP us hl;rfl⟩
   |23,hd=>cases hd;exact⟨_,_,ai l23 c23 k23,Lx X G a23,a23,(ai l23 c23 k23).binds λ_ _ _ _ _ _ us hl=>by obtain⟨u0,u1,rfl⟩:=bP us hl;rfl⟩
   |24,hd=>cases hd;exact⟨_,_,ai l24 c24 k24,Lx X G a24,a24,(ai l24 c24 k24).binds λ_ _ _ _ _ _ us hl=>by obtain⟨u0,rfl⟩:=iF us hl;rfl⟩
   |i+25,hd=>simp[tab]at hd
  ·intro x i hx;simp only[qR,KZ,LK,or_false,QF]at hx
  ·intro i d T0 hd hl f hm;have hi:=DY (Ls:=[8]) (by decide +kernel) hd hl
   simp only[KZ,LK,or_false]at hi
   rcases hi with rfl
   ·cases hd;cases hm.symm.trans (Lx X G a8);obtain rfl:62=T0:=by(have z9:lms.lookup d8.name=Z 62:=by decide +kernel);rw[z9]at hl;cases hl;rfl
    exact⟨_,⟨_,_,_,_,_,_,_,_,_,rfl,l8,c8,hd8⟩⟩
 refine⟨NL "law" "law" (cW (aj 29)) (bu (aj 29)) (ao (aj 29)) .none kV24 dc24 pm24 an24 cd24 ct24,λs v=>.of_eq rfl,λbase hI _ hB=>?_⟩;exact(DX O hI hB 40).fn 24 d24 _ _ rfl (ai l24 c24 k24) (Lx X G a24)
noncomputable def lmT:List (N2×N2):=[(64,62)]
theorem walk {l:SF}{q:Ln}{loose:List Str}{XP:(Str->Option gV)->Heap->Prop}{YP:LL->Heap->Prop}{d:DefRec}{K:Params->Frag}(hn:l.most=Z 63)(hdf:d.params.defaults=[])(hlaw:∀ns:List Int,ns.length<=63->phi tab 40 24 [.con (ns.map D.int)] (ef lmM) fun d _=>d=.bl F2)(hY:∀(w:LL) (h:Heap),YP w h->(K w.params).In h/\∀p∈lmT.map (·.2),h.get? p=Z (PySem.W.tabObj #[]))(hts:∀(w:LL),∀q∈lmT,N8 (K w.params) q.1 q.2=F2/\(K w.params).lookup q.2=Y)(F:∀(w:LL) (mg:Str->Option gV) (fa:N2) (h:Heap),(K w.params).In h->h.Ns MB mg->mg d.name=Z (.ref fa)->
   ∃fd:Nk,(∀(s:q7) (u:gV),Ti s fd ⟨[u],[]⟩ [("_law_script",u)])/\∀base:Heap,(K w.params).In base->base.Ns MB mg->fb mg base->FnOk l.prog w (K w.params) mg base CX0 40 fa fd ["_law_script"] (lSp (K w.params) (phi tab 40 24))):
 PySem.W.WalkO q loose XP YP l.row.toRowW d [] (λf vs=>Vu f vs):=
 L2.walk_ofT (n:=63) (k:=40) (x:="_law_script") (ts:=lmT) (sp:=λw=>lSp (K w.params) (phi tab 40 24)) hn (by decide) hdf ⟨rfl,by decide,by decide⟩ hY hts F (λw H a ns hl hO hS=>BE lmM (by decide) hO hS (hlaw ns hl))
end K47
end
section
namespace K47
open L2.Srt
variable{n:Nat}
theorem t5(j:1<=n):uJ tab n 14:=xh (x:="_law_number_here") (s:=aj 19) rfl j
theorem di(j:2<=n):km tab n 16:=λz h1 h2 q=>BK (s:=aj 21) (fm:=14) rfl (t5 ∅) j z h1 h2 q
theorem uT(z:3<=n):qA tab n 17:=λj q=>wY (s:=aj 22) (ft:=16) rfl (di ∅) ∅ j q
theorem zT(B:4<=n):xg tab n 18:=λj z q=>BM (s:=aj 23) (fn:=17) rfl (uT ∅) ∅ j z q
theorem t6(j:3<=n):An tab n 19:=E5 (s:=aj 24) (ft:=16) rfl (di ∅) ∅
variable{M:Mem}{Q:QD}
theorem zU{k:Nat}(j:6<=k)(z:2<=n/\n<=5){b:N2}(B:Box b M)(q:∀ps p M',LS n 29 ps->Bx b M M'->M p=Y->M' p=Z (.lst (ps.map prD))->Q (.tup [.int n,.int n,.int (2*n-1:Nat),.ref p]) M'):phi tab k 20 [.ref b,.int n] M Q:=Cf (s:=aj 25) (fbp:=12) (fpl:=9) (flt:=1) (fta:=16) (fpa:=18) (ft:=0) (f1:=3) (fo:=10) (fp:=11) (s1:=aj 13) (s2:=aj 5) (s3:=aj 2) (s4:=aj 1) (s5:=aj 16) (s6:=aj 14) (s7:=aj 15) rfl rfl rfl rfl rfl rfl rfl rfl j (di ∅) (zT ∅) z B q
theorem i9{k:Nat}(z:1<=k){many sz:Nat}(hm:many<=1000)(j:2<=n/\n<=1000)(h1:1<=sz)(h2:sz<=64)(q:Q (.int (tms many n 6 sz:Nat)) M):phi tab k 21 [.int many,.int n,.int sz] M Q:=xG (s:=aj 26) (d:=6) rfl z hm j.1 j.2 h1 h2 q
variable{A:List Int}
theorem qS{k:Nat}(j:1<=k){p p':N2}(ep:M p=Z (.lst (A.map .int)))(ep':M p'=Z (.lst (A.map .int)))(z:A.length<=1000)(q:∀M',Ge M M'->Q (.bl F2) M'):phi tab k 23 [.ref p,.ref p'] M Q:=zS (s:=aj 28) rfl j ep ep' z q
variable{B:List Int}
theorem zV{k:Nat}(j:1<=k){pA pB:N2}{sz:Nat}(h1:1<=sz)(h2:sz<=100)(lA:A.length=sz)(lB:B.length=sz)(bA:Big A)(eA:M pA=Z (.lst (A.map .int)))(eB:M pB=Z (.lst (B.map .int)))(q:∀p M',Ge M M'->M p=Y->M' p=Z (.lst ((cv sz A B).map .int))->Q (.ref p) M'):phi tab k 22 [.ref pA,.ref pB] M Q:=Ck (s:=aj 27) rfl j h1 h2 lA lB (λx hx=>by have:=bA x hx;lia) eA eB q
theorem t7(h:Big A):Lim 41 A:=λx hx=>by have:=h x hx;have e:(2:Nat)^41=2199023255552:=rfl;lia
variable{ps:List Pr}
theorem Er{k:Nat}(G:26<=k){sz:Nat}(J:2<=n/\n<=5)(h1:1<=sz)(h2:sz<=64)(j:LS n 29 ps){pA pB pp:N2}{z a1 a2:D}(F:M 62=Z (.tab ⟨42,98,42,137⟩ (Lw "row_times.<locals>.<lambda>")))(ep:M pp=Z (.lst (ps.map prD)))(lA:A.length=sz)(lB:B.length=sz)(bA:Big A)(bB:Big B)(eA:M pA=Z (.lst (A.map .int)))(eB:M pB=Z (.lst (B.map .int)))(q:∀p M',Ge M M'->M p=Y->M' p=Z (.lst ((cv sz A B).map .int))->Q (.tup [.ref p,.int (tms ps.length n 6 sz:Nat)]) M'):
 phi tab k 8 [.tup [z,a1,a2,.ref pp],.int n,.ref pA,.ref pB] M Q:=
 xI (f:=8) (fbl:=4) (fby:=6) (frb:=7) (fs:=5) (ff:=2) (sbl:=aj 7) (sby:=aj 9) (srb:=aj 10) (ss:=aj 8) (sf:=aj 4) (s:=aj 11) (P:=62) rfl rfl rfl rfl rfl rfl (by decide) (by decide) ∅ (by have:=j.len;lia) j.tn j.pr (d:=6) (m:=41) h1 h2 h2 ∅ (by decide) lA lB (t7 bA) (t7 bB) F ep eA eB q
theorem qT{b p:N2}(j:Box b M)(h:M p=Y):p≠b:=λz=>by obtain⟨_,_,_,e⟩:=j;rw[<-z,h]at e;cases e
theorem FN{x y z:Int}{a a' t1 j J p2:N2}(ea:M a=Z (.lst (ps.map prD)))(ea':M a'=Z (.lst (ps.map prD)))(F:M t1=Z (.lst (A.map .int)))(G:M j=Z (.lst (B.map .int)))(L:M J=Z (.lst (A.map .int)))(O:M p2=Z (.lst (B.map .int)))(q:Q (.bl Md) M):
 wNe (.tup [.tup [.int x,.int y,.int z,.ref a],.ref t1,.ref j]) (.tup [.tup [.int x,.int y,.int z,.ref a'],.ref J,.ref p2]) M Q:=by
 have h:∀{a t1 j:N2},M a=Z (.lst (ps.map prD))->M t1=Z (.lst (A.map .int))->M j=Z (.lst (B.map .int))->rb 16 M (.tup [.tup [.int x,.int y,.int z,.ref a],.ref t1,.ref j])=Z (.tuple [.tuple [.int x,.int y,.int z,.list (ps.map ll)],.list (A.map .int),.list (B.map .int)]):=λea F G=>by show(aA (rb 15 M) [.tup [.int x,.int y,.int z,.ref _],.ref _,.ref _]).map Um=_;simp only[aA,Eo (k:=11) ea,sF (k:=14) F,sF (k:=14) G];simp
 have h2:=h ea' L O;refine⟨_,_,h ea F G,h2,?_⟩;rw[Ci _ _ _ h2];exact q
theorem Es{k:Nat}(G:1<=k){E:bU}{o0 J L O U Fn fv j:Option D}{a0 a1 a2:D}{pp:N2}(ep:M pp=Z (.lst (ps.map prD)))(B:ps.length<=1000)(hn:2<=n/\n<=1000)(q:∀sz:Nat,1<=sz->sz<=64->E.nx [o0,J,L,Z (.int n),Z (.tup [a0,a1,a2,.ref pp]),Z (.int sz),O,U,Fn,fv,j] M):∀d s:Nat,1<=s->s<=2^d->d<=6->
 aR (gK (wOp wGt (wAr (phi tab k 21) (av (wAr fq (av (wOp wIx (fh 4) (wC (.int 3))) aZ)) (av (fh 3) (av (fh 5) aZ)))) (wC (.int 700)))) (wSs (phi tab k) (.cons (.asg (.name 5) (.bin .fdiv (.var 5) (.int 2))) .nil)) E (d+1) [o0,J,L,Z (.int n),Z (.tup [a0,a1,a2,.ref pp]),Z (.int s),O,U,Fn,fv,j] M:=by
 intro d
 induction d with
 |zero=>
  intro s h1 h2 h3;obtain rfl:s=1:=by simp at h2;lia
  rw[aR];ac_nf;refine⟨_,rfl,b7 ep ?_⟩;rw[r0];refine i9 G B hn ∅ ∅ ?_
  ac_nf;rw[if_neg (by rw[show tms ps.length n 6 1=1 from rfl];simp)]
  exact q 1 ∅ ∅
 |succ d ih=>
  intro s h1 h2 h3;have F:s<=64:=Mu h2 (Mu (Nat.pow_le_pow_right (by decide) h3) (by decide))
  rw[aR];ac_nf;refine⟨_,rfl,b7 ep ?_⟩;rw[r0];refine i9 G B hn h1 F ?_;ac_nf
  by_cases h:(700:Int)<(tms ps.length n 6 s:Nat)
  ·rw[if_pos (by simpa using h)]
   have IG:2<=s:=by
    rcases Nat.lt_or_ge s 2 with z|z
    ·obtain rfl:s=1:=by lia
     rw[show tms ps.length n 6 1=1 from rfl]at h;exact absurd h (by decide)
    ·exact z
   nofun;refine⟨by decide,by decide,?_⟩
   rw[show(s:Int) / 2=((s / 2:Nat):Int) by simp]
   exact ih (s / 2) ∅ (by rw[Nat.pow_succ]at h2;lia) ∅
  ·rw[if_neg (by simpa using h)]
   exact q s h1 F
theorem law_holds(ns:List Int)(hl:ns.length<=63):phi tab 40 24 [.con (ns.map D.int)] (ef lmM) λd _=>d=.bl F2:=by
 refine aB ∅ rfl rfl (ρ:=[Z _,Y,Y,Y,Y,Y,Y,Y,Y,Y,Y]) rfl ?_
 unfold d24 L2.Mi.K47.b24;nofun;rw[r0];refine⟨by split<;>lia,by split<;>lia,?_⟩
 have IV:ef lmM 62=Z (.tab ⟨42,98,42,137⟩ (Lw "row_times.<locals>.<lambda>")):=rfl;refine bw (I:=λl ρ M'=>(∃o1 o2 o3 o4 o5 o6 o7 o8 o9 L,ρ=[Z (.con (ns.map D.int)),o1,o2,o3,o4,o5,o6,o7,o8,o9,L])/\M' 62=Z (.tab ⟨42,98,42,137⟩ (Lw "row_times.<locals>.<lambda>"))) be ⟨⟨_,_,_,_,_,_,_,_,_,_,rfl⟩,IV⟩ (λ_ _ _ hI=>trivial) ?_ ?_
 ·rintro l k r ρ M0 e ⟨⟨o1,o2,o3,o4,o5,o6,o7,o8,o9,L,rfl⟩,G⟩;refine⟨_,rfl,λF hF=>?_⟩;nofun;refine E4 (s:=aj 20) (fc:=13) (fm:=14) (sc:=aj 18) rfl rfl (t5 ∅) ∅ ∅ λb x y IN=>?_
  have U:(62:N2)≠b:=λz=>by rw[z,IN]at G;cases G
  have G:=(Ge.new (o:=.lst [.int x,.int y,.int 0]) IN) _ _ G;have hb:Box b (af M0 b (.lst [.int x,.int y,.int 0])):=⟨_,_,_,ab⟩;generalize af M0 b (.lst [.int x,.int y,.int 0])=M1 at G hb⊢;nofun;refine di ∅ hb (by decide) (by decide) λv M2 v0 v1 x2=>?_
  have G:=x2.keep _ _ U G;obtain⟨n,hn,en⟩:∃n:Nat,(2<=n/\n<=5)/\(2:Int)+v=n:=⟨(2+v).toNat,∅,∅⟩
  ac_nf;rw[en];nofun;refine zU ∅ hn x2.box λps pp M3 hS x3 n3 e3=>?_
  have G:=x3.keep _ _ U G;have IG:=qT x2.box n3;have J2:=hS.len;have IW:=x3.box;clear x2 x3 hb n3;refine eh (λρ M'=>∃sz:Nat,ρ=[Z (.con (ns.map D.int)),Z (.int (k:Nat)),Z (.ref b),Z (.int n),Z (.tup [.int n,.int n,.int (2*n-1:Nat),.ref pp]),Z (.int sz),o6,o7,o8,o9,L]/\1<=sz/\sz<=64/\Bx b M3 M') (λR hR=>?_) ?_
  ·have key:∀(z:Int) (M':Mem),1<=z->z<=64->Bx b M3 M'->R [Z (.con (ns.map D.int)),Z (.int (k:Nat)),Z (.ref b),Z (.int n),Z (.tup [.int n,.int n,.int (2*n-1:Nat),.ref pp]),Z (.int z),o6,o7,o8,o9,L] M':=fun z M' h1 h2 x=>by
    obtain⟨m,rfl⟩:=LX (show 0<=z by lia)
    exact hR _ _ ⟨m,rfl,∅,∅,x⟩
   ac_nf;refine di ∅ IW (by decide) (by decide) λu Ma u0 u1 xa=>?_
   ac_nf;refine⟨by rw[D2];decide,λp hp=>?_⟩
   have IO:=qT xa.box hp;have xa':=xa.ge (.new (o:=.lst [.int (1+u),.int n,.int (n+1),.int 1]) hp);have ea:=ab (M:=Ma) (a:=p) (o:=.lst [.int (1+u),.int n,.int (n+1),.int 1]);generalize af Ma p (.lst [.int (1+u),.int n,.int (n+1),.int 1])=Mb at xa' ea⊢;refine di ∅ xa'.box (by decide) (by decide) λw Mc w0 w1 xc=>?_
   have ec:=xc.keep _ _ IO ea;have xc:=xa'.trans xc;ac_nf;refine⟨by decide,by decide,?_⟩
   have hj:(if w / 2<3 then w / 2 else 3)=0∨(if w / 2<3 then w / 2 else 3)=1∨(if w / 2<3 then w / 2 else 3)=2∨(if w / 2<3 then w / 2 else 3)=3:=by split<;>lia
   generalize (if w / 2<3 then w / 2 else 3)=j at hj⊢
   rcases hj with rfl|rfl|rfl|rfl
   ·exact aS ec (d:=.int (1+u)) rfl (key _ _ ∅ ∅ xc)
   ·exact aS ec (d:=.int n) rfl (key _ _ ∅ ∅ xc)
   ·exact aS ec (d:=.int (n+1)) rfl (key _ _ ∅ ∅ xc)
   ·exact aS ec (d:=.int 1) rfl (key _ _ ∅ ∅ xc)
  rintro ρ M4 ⟨sz,rfl,O,Fn,x4⟩;have e4:=x4.keep _ _ IG e3;have G:=x4.keep _ _ U G;have IH:=x4.box;clear x4;refine eh (λρ M'=>∃sz:Nat,ρ=[Z (.con (ns.map D.int)),Z (.int (k:Nat)),Z (.ref b),Z (.int n),Z (.tup [.int n,.int n,.int (2*n-1:Nat),.ref pp]),Z (.int sz),o6,o7,o8,o9,L]/\1<=sz/\sz<=64/\M'=M4) (λR hR=>?_) ?_
  ·ac_nf;exact⟨_,Es ∅ e4 ∅ ∅ (λs h1 h2=>hR _ _ ⟨s,rfl,h1,h2,rfl⟩) 6 sz O Fn ∅⟩
  clear O Fn sz;rintro ρ M5 ⟨sz,rfl,O,Fn,rfl⟩;nofun;refine t6 ∅ ∅ IH λA p1 M6 lA bA x6 n6 e6=>?_
  ac_nf;refine t6 ∅ ∅ x6.box λB p2 M7 lB bB x7 n7 e7=>?_
  have IX:=qT IH n6;have G:=x7.keep _ _ U (x6.keep _ _ U G);have II:=x7.keep _ _ IG (x6.keep _ _ IG e4);have e6:=x7.keep _ _ IX e6;clear x6 x7 e4 IH n6 n7;nofun;refine Cg ⟨_,rfl,_,_,rfl,ah II,λph IP=>⟨by rw[D2];decide,.inr trivial,by rw[D2];simp,?_⟩⟩
  have gh:=Ge.new (o:=.lst (ps.map prD)) IP;refine⟨_,_,rfl,ah (gh _ _ e6),λt1 IJ=>?_⟩;have g1:=gh.trans (Ge.new (o:=.lst (A.map .int)) IJ);refine⟨_,_,rfl,ah (g1 _ _ e7),λt2 IQ=>⟨by rw[D2];decide,?_⟩⟩
  have fv:=Ge.new (o:=.lst (B.map .int)) IQ;have g2:=g1.trans fv;have G:=g2 _ _ G;have IK:=g2 _ _ II;have IM:=fv _ _ (Ge.new (o:=.lst (A.map .int)) IJ _ _ (ab (M:=M7) (a:=ph) (o:=.lst (ps.map prD))));have e6:=g2 _ _ e6;have e7:=g2 _ _ e7;have c1:=fv _ _ (ab (M:=af M7 ph (.lst (ps.map prD))) (a:=t1) (o:=.lst (A.map .int)));have c2:=ab (M:=af (af M7 ph (.lst (ps.map prD))) t1 (.lst (A.map .int))) (a:=t2) (o:=.lst (B.map .int));generalize af (af (af M7 ph (.lst (ps.map prD))) t1 (.lst (A.map .int))) t2 (.lst (B.map .int))=M9 at G IK IM e6 e7 c1 c2⊢;clear gh g1 fv g2 IP IJ IQ II;nofun;refine⟨by decide,by decide,?_⟩
  refine bw (f:=λi:Nat=>.int (i:Nat)) (ys:=z4 (Int.toNat 2)) (I:=λl ρ M'=>∃o9 L,ρ=[Z (.con (ns.map D.int)),Z (.int (k:Nat)),Z (.ref b),Z (.int n),Z (.tup [.int n,.int n,.int (2*n-1:Nat),.ref pp]),Z (.int sz),Z (.ref p1),Z (.ref p2),Z (.tup [.tup [.int n,.int n,.int (2*n-1:Nat),.ref ph],.ref t1,.ref t2]),o9,L]/\Ge M9 M') be ⟨_,_,rfl,.refl⟩ (λ_ _ _ _=>trivial) ?_ ?_
  ·rintro lq i2 rq ρ M' eq ⟨IY,IR,rfl,g9⟩;refine⟨_,rfl,λFnx IS=>?_⟩;nofun;refine⟨_,rfl,_,rfl,_,rfl,?_⟩;refine Er ∅ hn O Fn hS (g9 _ _ G) (g9 _ _ IM) lA lB bA bB (g9 _ _ c1) (g9 _ _ c2) λpt Ma ga nt et=>?_
   have J:=g9.trans ga;nofun;refine⟨"tuple",rfl,F2,rfl,?_⟩;rw[if_neg (by decide),if_neg (by decide)]
   refine⟨by rw[D2];decide,FN (J _ _ IM) (J _ _ IK) (J _ _ c1) (J _ _ c2) (J _ _ e6) (J _ _ e7) ⟨_,rfl,?_⟩⟩
   rw[if_neg (by decide)]
   nofun;refine⟨_,rfl,?_⟩;refine zV ∅ O ∅ lA lB bA (J _ _ e6) (J _ _ e7) λpo Mb gb nb eb=>?_
   refine qS ∅ (gb _ _ et) eb (by rw[dv];lia) λMc gc=>?_
   have IT:=(J.trans gb).trans gc;have et':=gc _ _ (gb _ _ et);refine⟨F2,rfl,?_⟩;rw[if_neg (by decide)]
   nofun;refine⟨_,rfl,by rw[D2];decide,λq1 IZ=>⟨_,rfl,?_⟩⟩
   have gd:=Ge.new (o:=.lst ([((tms ps.length n 6 sz:Nat):Int)].map .int)) IZ;refine b7 (gd _ _ (IT _ _ IK)) ?_;rw[r0];refine i9 ∅ (by have:=hS.len;lia) ∅ O Fn ⟨by rw[D2];decide,λq2 J0=>?_⟩
   have ge:=Ge.new (o:=.lst ([((tms ps.length n 6 sz:Nat):Int)].map .int)) J0;refine qS ∅ (A:=[((tms ps.length n 6 sz:Nat):Int)]) (ge _ _ ab) ab (by simp) λMd gm=>?_
   have J1:=((IT.trans gd).trans ge).trans gm;have IU:=gm _ _ (ge _ _ (gd _ _ et'));refine⟨F2,rfl,?_⟩;rw[if_neg (by decide)]
   nofun;refine⟨_,rfl,⟨pt,rfl,_,IU⟩,⟨pt,_,_,rfl,rfl,IU,by rw[r0,dv,D2];lia,?_⟩⟩
   exact IS _ _ ⟨_,_,rfl,kC J1 (i7 g9 nt)⟩
  ·rintro ρ M' ⟨IY,IR,rfl,g9⟩;dsimp only;rw[sB];exact hF _ _ ⟨⟨_,_,_,_,_,_,_,_,_,_,rfl⟩,g9 _ _ G⟩
 ·rintro ρ M8 ⟨⟨o1,o2,o3,o4,o5,o6,o7,o8,o9,L,rfl⟩,G⟩;dsimp only;nofun
end K47
end
end
end Mi
end L2
end
namespace PySem.W.Fast
theorem tw6397761599074106916:True:=trivial
theorem tw13293964687658683576:True:=trivial
theorem tw3671818759859396895:True:=trivial
theorem tw16448731995643500346:True:=trivial
theorem tw7886775397313603389:True:=trivial
theorem tw7858809906213713108:True:=trivial
theorem tw6996002016732913259:True:=trivial
theorem tw6200072797212857908:True:=trivial
theorem tw2443134420248443966:True:=trivial
theorem tw10743545218347301772:True:=trivial
theorem tw18272347290144234850:True:=trivial
theorem tw9227789002653677309:True:=trivial
theorem tw10011636649374569484:True:=trivial
theorem tw14112200952930689336:True:=trivial
theorem tw16621372773666855857:True:=trivial
theorem tw316469590490014598:True:=trivial
theorem tw9648615110516298735:True:=trivial
theorem tw9216849474397448656:True:=trivial
theorem tw9809617531736344262:True:=trivial
theorem tw14809866180623977633:True:=trivial
theorem tw10923253662541604662:True:=trivial
theorem tw14166396353674437796:True:=trivial
theorem tw1541539877177011601:True:=trivial
theorem tw2772375402097848474:True:=trivial
theorem tw8326149681492193417:True:=trivial
theorem tw396442822308354303:True:=trivial
theorem tw7454732756181276232:True:=trivial
theorem tw10988852142725653738:True:=trivial
theorem tw6750024687427146820:True:=trivial
theorem tw12621908620209200508:True:=trivial
theorem tw16024436131591343845:True:=trivial
theorem tw7446956991474051687:True:=trivial
theorem tw6807055931662879881:True:=trivial
theorem tw8296454880786670534:True:=trivial
theorem tw7930112786834272319:True:=trivial
theorem tw3323074230164818469:True:=trivial
theorem tw5990210027877697320:True:=trivial
theorem tw16750932762936929947:True:=trivial
theorem tw17772636620268902314:True:=trivial
theorem tw8830487572895550369:True:=trivial
theorem tw12197383936209500716:True:=trivial
theorem tw1239029075170237548:True:=trivial
theorem tw8470254134184372251:True:=trivial
theorem tw3700396139162482772:True:=trivial
theorem tw2389446867163735120:True:=trivial
theorem tw8661680353450934512:True:=trivial
theorem tw10794570804005358689:True:=trivial
theorem tw12892477056669057052:True:=trivial
theorem tw12127019314746366733:True:=trivial
theorem tw3863978416616919158:True:=trivial
theorem tw15649693805006113103:True:=trivial
theorem tw7644011791351290966:True:=trivial
theorem tw4283170845491778689:True:=trivial
theorem tw5513959788597837804:True:=trivial
theorem tw6686804457681325670:True:=trivial
theorem tw16877596804955800250:True:=trivial
theorem tw1936988706553433241:True:=trivial
theorem tw8653648788720745135:True:=trivial
theorem tw15696810636528740126:True:=trivial
theorem tw848735784130365836:True:=trivial
theorem tw6049951799478780975:True:=trivial
theorem tw8096244658439757440:True:=trivial
end PySem.W.Fast
open PySem.W in
set_option maxRecDepth 100000 in
set_option maxHeartbeats 0 in
theorem PySem.Challenge.cw_fewtimes_k47_long_rows_holds : PySem.Challenge.rw_fewtimes_k47_long_rows.Holds := by
 w_on;o_law;k_head;(case hw=>w_witness2)
 k_fill
 refine L2.Mi.K47.walk (l:=PySem.Challenge.rw_fewtimes_k47_long_rows) rfl rfl L2.Mi.K47.law_holds (fun w h Y=>⟨PySem.W.km_in_of Y,PySem.W.km_tabs_of Y⟩) ?T ?F
 case T =>
  intro w q hq;simp only [L2.Mi.K47.lmT,List.mem_cons,List.not_mem_nil,or_false] at hq
  rcases hq with rfl <;> (refine ⟨L2.Mi.hd_in (by (show _=_;k_is)) rfl,?_⟩;rfl)
 case F =>
  intro w mg fa h KX G hmg;refine' L2.Mi.K47.all_mk KX G hmg ?z ?_ ?_ ?_ ?_ ?_ ?_ ?_ ?_ ?_ ?_ ?_ ?_ ?_ ?_ ?_ ?_ ?_ ?_ ?_ ?_ ?_ ?_ ?_ ?_ ?_ ?_ ?_ ?_ ?_ ?_ ?_ ?_ ?_ ?_ ?_ ?_ ?_ ?_ ?_ ?_ ?_ ?_ ?_ ?_ ?_ ?_ ?_ ?_ ?_ ?_ ?_ ?_ ?_ ?_ ?_ ?_ ?_ ?_ ?_ ?_ ?_ ?_ ?_ ?_ ?_ ?_ ?_ ?_ ?_ ?_ ?_ ?_ ?_ ?_ ?_ ?_ ?_ ?_ ?_ ?_ ?_ ?_ ?_ ?_ ?_ ?_ ?_ ?_ ?_ ?_ ?_ ?_ ?_ ?_ ?_ ?_ ?_ ?_ ?_ ?_ ?_
  case z =>
   intro x hx;simp only [L2.Mi.bltNames,List.mem_cons,List.not_mem_nil,or_false] at hx
   rcases hx with rfl | rfl | rfl | rfl | rfl | rfl | rfl | rfl | rfl | rfl | rfl | rfl | rfl | rfl | rfl | rfl | rfl | rfl | rfl | rfl <;> k_is
  all_goals try (show _=_;first | k_is | exact L2.Mi.hd_in (by (show _=_;k_is)) rfl)
