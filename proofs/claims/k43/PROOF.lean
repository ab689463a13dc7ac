import PyProof.Rows.All
import Wide.All
import OpenK.AllK
import Wide.FinOn
import Lean
import PyProof.EqAt
import PyProof.EqKinds
import PyProof.TupleCall
import PyProof.ZipIter
import PyProof.EnumMake
import PyProof.EnumFor
import PyProof.CollectIter
import PyProof.TupleKey
import PyProof.DictRoadsH
import PyProof.P3Eq
import PyProof.Rows.SeqMore
import PyProof.ConsumeWalk
import PyProof.Rows.SortShellK
import PyProof.DictItems
import PyProof.DictWalks
import PyProof.AttrMissHeap
import PyProof.DictIter
import PyProof.MaxThree
import PyProof.SeqI3
import PyProof.DictTruth
import PyProof.Rows.TupDisplay
import PyProof.ListCopy
import PyProof.NeKinds
import PyProof.RaisesDict
import KE.KDictOf
import PyProof.Rows.CallKwBuiltin
import PyProof.DelItemList
import PySem.Challenge.RW_fewtimes_k43_least_or_open
set_option Elab.async false
set_option linter.all false
set_option compiler.extract_closed false
set_option genSizeOf false
set_option bootstrap.genMatcherCode false
set_option maxRecDepth 100000
set_option maxHeartbeats 4000000
open PySem.W (Frag)
open PySem renaming wpAny_bind->gV,Value->hH,sizeLine_eq->r4,wpAny_pure->D2,Shared->I7,sizeLine->J9,wpAny->Jm,model->Ju,Program->JB,starEach->JJ,Paired->JX,wpAny_callSpecial?_slot->JY,World->K1,wpAny_setField_rec->K5,wpAny_call_entry->K7,wpAny_field->Kg,Around->Kh,wpAny_holding->Kj,Comprehension->Kk,sysModules->Ks,PyData->KH,compareOp->KN,mainGlobals->KQ,mem_of_lookup->L8,wpAny_newObj_type->L9,binaryOp->Lb,wpAny_pyIter_tuple->Le,wpAny_rule->Ll,wpAny_mono->LA,assignEach->LB,tupleKind_room_in1->LC,cLine->LF,wpAny_seqItems->LJ,foldedSetIterable->LO,cellsFrom->LP,DictEntry->LQ,Builtin->LR,wpAny_pyIter_list->LS,wpAny_isInstance->Mf,wpAny_passesOwn->Mn,wpAny_truthy_bool->Mu,wpAny_typeOf->Mv,swappedStores->My,IsPair->MD,wpAny_attempt->MJ,NameKind->MN,wpAny_of_eq->MU,wpAny_loadPart'->N8,wpAny_standAt->Nc,wpAny_dictEntries->Nk,FuncData->Nm,tupleKind->Nq,swapsWithSole->Ny,behindInMarks->Nz,wpAny_Call_Name_kw->NI,swapsWith->NL,inplaceOp->NM,sliceBounds->NO,backTo->NP,Operator->NQ,pyNext->NR,codeAny_mono->NS,Reads->NY,isSubtype_type->O6,codeAny->Ow,Model->Oy,wpAny_updateSeq_pair->OA,letOwnedTupleGo->OG,codeAny_builtin->OM,bootBuiltins->OR,wpAny_richCompare_same_room->OU,call_meets->P9,firstArgMember->Pb,wpAny_binaryOp_repeat_ref->Ph,standAt->Pt,IsZip->Pw,wpAny_letGo->Px,rawInt->Pz,wpAny_newList->PF,wpAny_comprehension_free->PH,wpAny_onRaise->PJ,noFill_tuple_add->PR,wpAny_pyNext_list_item->Q8,IsPart->Q9,getItem->Qa,typeIs_int->Qe,Keyword->Qf,call_meetsIn->Qh,IsEnum->Qj,wpAny_execs_nil->Qo,pushCells_keeps->Qq,wpAny_ite_false->Qr,wpAny_pyNext_list_end->Qt,builtinLookup_eq_fast->Qx,wpAny_loadName_local->QB,atKey->QF,newFunctionEnv->QG,ZipApart->QH,wpAny_newTuple->QJ,isSubtype_stop->QK,ReadsAll->QO,wpAny_ite_true->QT,wpAny_pyIter_keyiter->QU,callerA->R3,valueAt->R4,wpAny_loadName_cell->R6,assignInOrder->Rc,seq_tuple_add->Rf,attributeBase->Rg,plainId_quiet->Rh,mroOf_keyiter->Ri,foldedForSure->Rm,pyIter->Rt,wpAny_dictSet_heap->RC,BindsTo->RL,concat_meets->RN,wpAny_sequenceKey->RP,seqIndex_neg->RQ,wpAny_pyIter_enum->RY,wpAny_Dict_empty->Sf,pushCells->Sg,wpAny_pyIter_zip->Sk,IsEnumOut->Sl,entryFor_of_tree->Sr,seqIndex_of->SF,keywordEach->SG,wpAny_throw->SI,richCompare->SK,builtinsNs->Ta,wpAny_Name->Tb,bindName->Tc,bindL->Td,bindC->Te,call->Tg
open List renaming length_map->h7,length_append->q7,getElem?_eq_getElem->z4,getElem?_append_right->IX,replicate->IY,pairwise_append->IZ,getElem?_eq_some_iff->J0,getElem?_append_left->J1,range->J2,mem_cons_of_mem->J3,mem_map->J8,mem_append->Ja,length_range->Jb,map_append->Jc,mem_cons_self->Je,mem_of_getElem?->Jh,size_toArray->Ji,getElem?_map->Jj,getD_eq_getElem?_getD->Jo,mem_cons->Jp,append_assoc->Jq,map_cons->Jr,length_filter_le->Jv,length_cons->Jw,mem_append_right->Jx,filter_cons_of_pos->Jz,mem_map_of_mem->JA,length_singleton->JC,mem_singleton->JE,filter_append->JF,length_take->JG,filter_cons_of_neg->JH,nodup_iff_pairwise_ne->JI,length_eq_zero_iff->JL,toList_toArray->JM,getElem?_replicate->JR,flatMap_append->JV,mem_range->K2,eq_of_mem_replicate->K6,not_mem_nil->K8,append_nil->K9,flatMap_cons->Ka,map_map->Kf,length_pos_iff->Kl,flatten_cons->Ko,eq_nil_or_concat->Kv,concat_eq_append->Kw,map_nil->Kx,map_congr_left->Kz,nodup_cons->KA,mem_flatMap->KD,drop_eq_getElem_cons->KG,take_of_length_le->KI,mem_filter->KJ,getElem_mem->KO,replicate_succ->KR,pairwise_map->KU,mem_append_left->L4,foldl_cons->L5,getElem?_set_self->L6,pairwise_cons->Lf,length_drop->Lg,getElem?_zipIdx->Lh,take_add_one->Ln,ext_getElem?->Lo,map->Lq,getElem?_range->Lr,find?_cons->Lv,length_replicate->Ly,take_append_drop->Lz,getElem?_set_ne->LI,mem_iff_getElem->LK,getElem?_of_mem->LN,getElem?_cons_succ->LU,dropLast_concat_getLast->LX,flatten_append->LZ,drop_eq_nil_of_le->Mc,lookup_cons->Me,Perm->Mg,all_eq_true->Mh,length_zipIdx->Mk,getElem?_eq_none->Ml,length_nil->Mp,forIn_cons->Mq,getElem?_mapIdx->Mw,nodup_append->Mx,all_cons->MK,any_eq_true->MP,length->MR,zipWith->MZ,getElem?_drop->N3,find?_cons_of_neg->N4,length_set->N5,mem_zipIdx_iff_getElem?->Na,range_succ->Nb,any_cons->Nf,perm_append_comm->Nh,foldl_append->Nj,mem_reverse->Nt,filter_sublist->Nx,getElem?_take_of_lt->NA,of_mem_zip->NF,extract->NZ,reverse_perm->O0,find?_cons_of_pos->O9,filter_eq_nil_iff->Oa,eraseIdx_eq_take_drop_succ->Oc,pairwise_flatMap->Of,foldl->Og,nodup_range->Ot,mem_of_mem_drop->OB,mem_of_mem_take->OC,take_append_of_le_length->OD,nil_append->OH,filterMap_cons->OP,length_zipWith->OQ,drop_drop->Pe,pairwise_iff_getElem->Pk,mem_of_find?_eq_some->Pn,mem_or_eq_of_mem_set->Po,length_erase_of_mem->PQ,zipIdx_cons->PV,drop_length->Q0,cons_append->Q1,take_length->Q2,getElem?_cons_zero->Q4,getElem?_zipWith->Qv,pairwise_reverse->Qw,eq_replicate_iff->Qy,eraseIdx_sublist->QA,forIn_nil->QI,take_left->QP,reverse_reverse->QR,mem_erase_of_ne->QZ,foldl_nil->R0,length_reverse->Ra,zip_eq_zipWith->Rb,sum_cons->Rq,map_take->Rr,mem_filterMap->Ru,set_cons_zero->RF,set_cons_succ->RG,map_snd_zip->So,range'_succ->Su,flatMap_nil->Sz,map_zipWith->SA,zipIdx_nil->SW,length_zip->T3
open PySem.Heap renaming get?_push_of_some->D0,get?_push_size->Jf,lt_size->Jl,SameBut->Lc,size_push->Lm,get?_update_ne->Lu,IsTuple->OT,get?_update_other->Qc,get?_update_self->Qu,IsList->QL,get?_push_cases->QM,ExtBut->SH
open Bool renaming and_eq_true->D1,false_ne_true->Jg,not_eq_true'->KW,false_eq_true->Ld,not_eq_true->Oj,false_and->P2,false_or->PD,or_eq_true->Qs,and_eq_true_iff->QN
open PyProof.Rows renaming wpS_bind->J4,Keyed->J7,pendingOf->Jt,arrOf->JZ,wpS_forRange->Ke,SortSt->Ki,kindOf->L7,callWith_type1->Li,slot_tuple_getitem->Lw,wpS_modify->LD,failedOf->LY,SortKind->ND,wpS_get->NG,get?_update_seq->NH,setPending->NJ,listUpdate_at->Ox,mem_zip_self->OV,assignInOrder_cons->P1,AllBare->Pq,seqSlot_of->PY,subscriptTail_builtinR->Qb,envOfC->QC,entry_tuple_getitem->R7,args_tuple_getitem->Rw,assignInOrder_nil->RI,listItems_at->S2,seqObj->Sn,keyKind'_eq->SM,seqEpoch_at->SN,IntsAre->T8,mergeAt'->Ti
open Nat renaming le_refl->J6,mul_le_mul->JK,lt_of_lt_of_le->JP,ne_of_lt->JU,le_trans->K0,succ_mul->Kq,zero_le->Ku,lt_irrefl->La,mul_le_mul_right->LM,ne_of_gt->Ma,min_eq_left->Ms,le_of_lt->Nr,sub_self->Nu,mul_comm->NV,zero_add->O1,pow_le_pow_right->OF,le_antisymm->ON,lt_or_ge->OX,add_assoc->PM,succ_le_succ->PZ,pow_succ->Qn,div_lt_iff_lt_mul->Qz,add_sub_cancel->RA,add_comm->RT,le_of_eq->RV,div_eq_of_lt->SE,div_add_mod->T5,mul_add_div->T7,not_lt->Th
open Int renaming toNat_natCast->Jd,eq_ofNat_of_zero_le->JS,emod_lt_of_pos->Kb,emod_nonneg->KL,dvd_mul_of_dvd_right->KP,dvd_mul_of_dvd_left->KZ,dvd_zero->LH,dvd_sub->Md,natCast_mul->Mr,dvd_add->MW,toNat_of_nonneg->Nw,ofNat->Ou,mul_le_mul_of_nonneg_left->OE,natCast_add->OO,add_zero->OY,dvd_neg->Py,mul_assoc->Ro,lt_or_gt_of_ne->RH,zero_add->Sa,sub_zero->Sb,natCast_ediv->SD,mul_add->SS,add_mul->SU,natCast_sub->T6
open PySem.W renaming mg_of->Jk,fnOf->MX,keepIn->Np,cellsFrom_some->NT,nsIn->NX,codeIn->P5,methodObj->Pp,OpenLaw->Qp
open Array renaming toList_append->Jn,toList_push->Js,length_toList->Jy,getElem?_toList->JD,getElem?_eq_getElem->JQ,toList_reverse->JW,toList_extract->LL,size_append->Ni,getElem?_eq_none->O8,toList_inj->Oo,map->Oq,size_push->OL,toList_setIfInBounds->Pf,toList->Q7,all_eq_true->S4,filterMap->T1
open PySem.Str renaming ofString->JN
open Option renaming some->JO,map_eq_some_iff->Mb,isSome_iff_exists->Mz,getD_some->MQ,map_some->N7,isSome_map->NW,bind_some->Ol,isSome_some->Rx,getD_none->Sd,join_some->Sv,bind_none->Sw,join_none->Sy
open PySem.NameKind renaming free->JT,cell->LG
open List.Perm renaming append_left->Kc,append_right->Kr,of_eq->N9,refl->QS
open PySem.PyData renaming eqv->Km,canLayAll0->KS,eqvAll->Lk,depthAll->LW,depth->N1,canLay0->O7,strOk->Ql,list->SJ
open PySem.Value renaming ref->KY,type->L3,none->Nl,bool->T9,int->Tu,str->Tv
open PySem.Paired renaming length->Lj
open PySem.SeqAt renaming readOf->Lp,readOf_eq->Mt,eqAt_reads->Sm
open Classical renaming byContradiction->Lx,propDecidable->LV
open PySem.F renaming slot_tuple_iterator_next->Mj,slot_enumerate_next->Ng,args_tuple_add_2->NB,entry_tuple_add->NN,slot_tuple_add->NU,slot_dict_get->Oe,slot_int_rmul->OI,args_tuple_iterator_next_1->OJ,slot_zip_next->OK,entry_tuple_iterator_next->OS,args_dict_get_3->PU,args_enumerate_next_1->PX,plainAttrs_list->Q3,entry_dict_get->Qi,entry_enumerate_next->Qk,slot_dict_eq->QV,args_int_rmul_2->RU,args_zip_next_1->RW,entry_int_rmul->Se,entry_zip_next->Si,slot_dict_iter->Ss,fills_int_mul->SV,slot_tuple_lt->SY,slot_dict_len->T2
open PySem.Builtin.Slice renaming slicePlaces->Mm,sliceAdjust->Nv,sliceApplied->P6
open LawfulBEq renaming eq_of_beq->Mo
open PySem.Builtin.Tuple renaming tupleExact->MA,tupleCompareSizes->Ob,tupleItemsOf->P7,tupleIsExact->Pa,tupleTooMany->Pc,tupleHashOf->Pj
open PySem.Builtin.List renaming listTooLong->MB,listLengthHint->OW
open List.Pairwise renaming imp_of_mem->MM,nil->Pu
open PySem.Shared renaming heap->MV
open PySem.Obj renaming mapSeq->MY,data_mapFields->Ry
open ForInStep renaming yield->N6
open True renaming intro->Oh
open And renaming intro->Oi
open PyProof.Rows.SortSt renaming mk'->Om
open List.Sublist renaming map->Ov
open PySem.Data renaming seq->Oz
open PyProof.Rows.IsTup renaming new->OZ
open PySem.Calls renaming Name_function_global->P0,spliced_cons->P4,callWith_builtin->Qg,evalArgs_plain->QE,spliced_nil->RJ
open PySem.Builtin.Dict_items renaming isOneOf->Pg
open PySem.Builtin.Dict renaming dictSlotArgs->Pm,samePairs->Qm
open PySem.Env renaming blockKind->PN,kindOf->RE
open Sum renaming inl->Q5,inr->Q6
open PySem.Expr renaming Subscript->QW,Attribute->QX,Constant->Rj,ListComp->Rk,UnaryOp->S8,Compare->S9,BoolOp->SO,BinOp->Tj,IfExp->To,Tuple->Tp,Slice->Tq,Name->Tw,List->Tx,Call->Tz,Dict->TB
open PySem.Stmt renaming AugAssign->QY,Continue->Rl,Assign->SQ,Return->SR,While->Tr,Break->Tt,Expr->TF,Pass->TH
open Iff renaming rfl->R5
open PySem.Heap.SameBut renaming update->R8
open PySem.Builtin.Int renaming intBits->R9
open Function renaming comp->Rp
open PySem.Around renaming in1_handled->Rz,under_plain->RB
open PySem.Heap.IsTuple renaming push->RX
open Option.some renaming injEq->RZ
open Exists renaming intro->S0
open PySem.Heap.IsList renaming push->Sj
open List.cons renaming injEq->SX
open Prod renaming ext->Tf
open Option renaming some->Z,none->Y
open Bool renaming true->N2,false->Ua
open PySem renaming Addr->Ub
section
theorem Uc{a b c:Nat}(h:b<=c)(k:a<=b):a<=c:=Nat.le_trans k h
theorem Ud{a b c:Nat}(h:b<=c)(k:a+1<=b):a<=c-1:=Nat.le_sub_of_add_le (Nat.le_trans k h)
theorem Ue{a b:Nat}(h:Nat.ble (a+1) b=true):a<b:=Nat.le_of_ble_eq_true h
local macro_rules|`(∅)=>`(by first|with_reducible assumption|with_reducible exact Nat.le_of_ble_eq_true rfl|with_reducible exact Ue rfl|exact Uc (by with_reducible assumption) (by with_reducible exact Nat.le_of_ble_eq_true rfl)|exact Ud (by with_reducible assumption) (by with_reducible exact Nat.le_of_ble_eq_true rfl)|lia)
namespace L2
open PySem PySem.Spec PyProof.Rows
section
noncomputable abbrev Key:=Sum Int Str
noncomputable def gF:Key->hH->Bool
 |.inl k,v=>Value.isInt k v
 |.inr x,v=>Value.isStrOf x v
noncomputable def E1(w:K1):Key->Int
 |.inl k=>hashInt k
 |.inr x=>hashStr w x
theorem aU:∀{k:Key} {v:hH},gF k v=N2->(∃i t,k=Q5 i/\v=Tu i t)∨(∃x t,k=Q6 x/\v=Tv x t)
 |.inl i,v,h=>by obtain⟨t,e⟩:=Value.isInt_shape (k:=i) (v:=v) h;exact .inl ⟨i,t,rfl,e⟩
 |.inr x,v,h=>by obtain⟨t,e⟩:=Value.isStrOf_shape (x:=x) (v:=v) h;exact .inr ⟨x,t,rfl,e⟩
theorem tf(i:Int)(t:Tok):gF (.inl i) (.int i t)=N2:=by simp[gF,Value.isInt]
theorem tj(x:Str)(t:Tok):gF (.inr x) (.str x t)=N2:=by simp[gF,Value.isStrOf]
theorem AJ(a b:Int):decide ((Q5 a:Key)=Q5 b)=(a==b):=by
 by_cases e:a=b
 ·subst e;simp
 ·have h:¬(Q5 a:Key)=Q5 b:=λq=>e (Q5.inj q);rw[decide_eq_false h];exact(beq_eq_false_iff_ne.mpr e).symm
theorem AK(a b:Str):decide ((Q6 a:Key)=Q6 b)=decide (a=b):=by
 by_cases e:a=b
 ·subst e;simp
 ·have h:¬(Q6 a:Key)=Q6 b:=λq=>e (Q6.inj q);rw[decide_eq_false h,decide_eq_false e]
theorem AL(a:Int)(b:Str):decide ((Q5 a:Key)=Q6 b)=Ua:=decide_eq_false (λq=>nomatch q)
theorem AM(a:Str)(b:Int):decide ((Q6 a:Key)=Q5 b)=Ua:=decide_eq_false (λq=>nomatch q)
noncomputable def aE(prog:JB)(w:K1):PySem.KeyKind prog w Key where
 is:=gF
 hash:=E1 w
 inj:=λv a b ha hb=>by
  rcases aU ha with⟨i,t,rfl,rfl⟩|⟨x,t,rfl,rfl⟩
  ·rcases aU hb with⟨j,u,rfl,e⟩|⟨y,u,rfl,e⟩
   ·injection e with e1 _;rw[e1]
   ·exact nomatch e
  ·rcases aU hb with⟨j,u,rfl,e⟩|⟨y,u,rfl,e⟩
   ·exact nomatch e
   ·injection e with e1 _;rw[e1]
 byValue:=λk v h=>by rcases aU h with⟨i,t,rfl,rfl⟩|⟨x,t,rfl,rfl⟩<;>rfl
 pyHash:=λhv h=>by
  rcases aU hv with⟨i,t,rfl,rfl⟩|⟨x,t,rfl,rfl⟩
  ·exact wpAny_pyHash_int h
  ·exact wpAny_pyHash_str h
 eqBool:=λhu hv h=>by
  rcases aU hu with⟨i,t,rfl,rfl⟩|⟨x,t,rfl,rfl⟩
  ·rcases aU hv with⟨j,u,rfl,rfl⟩|⟨y,u,rfl,rfl⟩
   ·rw[AJ]at h;exact wpAny_eqBool_int h
   ·rw[AL]at h;exact SeqAt.EqAt.int_str i t y u _ _ _ _ h
  ·rcases aU hv with⟨j,u,rfl,rfl⟩|⟨y,u,rfl,rfl⟩
   ·rw[AM]at h;exact SeqAt.EqAt.str_int x t j u _ _ _ _ h
   ·rw[AK]at h;exact wpAny_eqBool_str h
 «strs»:=λk x t v h=>by
  rcases aU h with⟨i,u,rfl,e⟩|⟨y,u,rfl,e⟩
  ·exact nomatch e
  ·injection e with e1 _
   subst e1
   cases v<;>rfl
theorem pL(prog:JB)(w:K1)(i:Int)(t:Tok):(aE prog w).is (.inl i) (.int i t)=N2:=tf i t
theorem pM(prog:JB)(w:K1)(x:Str)(t:Tok):(aE prog w).is (.inr x) (.str x t)=N2:=tj x t
end
variable{us:List hH}{a b:Ub}{P:JB}{w:K1}{h:Heap}
section
inductive V where
 |non|bl (b:Bool)|int (i:Int)|str (x:Str)|byt (b:Array UInt8)|flt (b:UInt64)|ref (a:Ub)|ty (n:String)
 deriving DecidableEq
noncomputable def RelV:V->hH->Prop
 |.non,u=>u=Nl
 |.bl b,u=>u=T9 b
 |.int i,u=>∃t,u=Tu i t
 |.str x,u=>∃t,u=Tv x t
 |.byt b,u=>∃t,u=Value.bytes b t
 |.flt b,u=>∃t,u=Value.float b t
 |.ref a,u=>u=KY a
 |.ty n,u=>u=L3 n
noncomputable abbrev Vals:List V->List hH->Prop:=JX RelV
theorem Vals.length{xs:List V}(r:Vals xs us):xs.length=us.length:=Lj r
theorem Vals.get:∀{xs:List V} {us:List hH} {i:Nat} {x:V},Vals xs us->xs[i]?=Z x->∃u,us[i]?=Z u/\RelV x u
 |_,_,_,_,.nil,e=>by simp at e
 |_,_,0,_,.cons r _,e=>by simp at e;subst e;exact⟨_,rfl,r⟩
 |_,_,i+1,x,.cons _ t,e=>by
  obtain⟨u,h1,h2⟩:=Vals.get (i:=i) (x:=x) t (by simpa using e)
  exact⟨u,by simpa using h1,h2⟩
theorem Vals.set{x:V}{u:hH}(r:RelV x u):∀{xs:List V} {us:List hH} (i:Nat),Vals xs us->Vals (xs.set i x) (us.set i u)
 |_,_,_,.nil=>.nil
 |_,_,0,.cons _ t=>.cons r t
 |_,_,i+1,.cons q t=>.cons q (Vals.set r i t)
theorem Vals.append:∀{xs ys:List V} {us ws:List hH},Vals xs us->Vals ys ws->Vals (xs++ys) (us++ws)
 |_,_,_,_,.nil,s=>s
 |_,_,_,_,.cons r t,s=>.cons r (Vals.append t s)
theorem Vals.take:∀{xs:List V} {us:List hH} (n:Nat),Vals xs us->Vals (xs.take n) (us.take n)
 |_,_,0,_=>.nil
 |_,_,_+1,.nil=>.nil
 |_,_,n+1,.cons r t=>.cons r (Vals.take n t)
theorem Vals.drop:∀{xs:List V} {us:List hH} (n:Nat),Vals xs us->Vals (xs.drop n) (us.drop n)
 |_,_,0,r=>r
 |_,_,_+1,.nil=>.nil
 |_,_,n+1,.cons _ t=>Vals.drop n t
noncomputable def RelO:Option V->Option hH->Prop
 |some v,Z u=>RelV v u
 |none,Y=>True
 |_,_=>False
noncomputable def KV{κ:Type}:List (κ×V)->List (κ×hH)->Prop:=JX λ(p:κ×V) (q:κ×hH)=>p.1=q.1/\RelV p.2 q.2
noncomputable def kV:Key->V
 |.inl i=>.int i
 |.inr x=>.str x
inductive HO where
 |lst (xs:List V)
 |tup (xs:List V)
 |dK (kvs:List (Key×V))|dT (kvs:List (List Key×V))
 |set (S:Int->Bool) (n:Nat)
 |ins (C dx:Ub) (fs:List (Str×V))
 |own (x:Ub)
 |xd (fs:List (Str×V))
 |met (f x:Ub)
 |rng (lo hi:Int)
 |frz (o:Obj) (u:HO)
 |tbl (ps:Array hH)
 |ext (φ:Heap->Prop)
noncomputable abbrev Hp:=Ub->Option HO
noncomputable def upd(H:Hp)(a:Ub)(o:HO):Hp:=λb=>if b=a then Z o else H b
theorem ay{H:Hp}{o:HO}:upd H a o a=Z o:=by unfold upd;rw[if_pos rfl]
theorem am{H:Hp}{o:HO}(h:b≠a):upd H a o b=H b:=by unfold upd;rw[if_neg h]
theorem yT{H:Hp}{o u:HO}:upd (upd H a o) a u=upd H a u:=by funext b;unfold upd;split<;>rfl
theorem qY{H:Hp}{o u:HO}(h:H a=Z o)(h':H b=Z u)(d:o≠u):a≠b:=by intro e;subst e;rw[h]at h';exact d (JO.inj h')
theorem bb{H:Hp}{o:HO}(h:H a=Z o)(h':H b=Y):a≠b:=by intro e;subst e;rw[h]at h';cases h'
section
variable(P:JB)(w:K1)
noncomputable def ObjOk(H:Hp)(h:Heap)(a:Ub):HO->Prop
 |.lst xs=>xs.length<=J9/\∃(its:List hH) (n:Nat),Vals xs its/\h.get? a=Z {cls:=.type "list",data:=.seq its.toArray n}
 |.tup xs=>xs.length<=J9/\∃its:List hH,Vals xs its/\IsTup h a its.toArray
 |.dK kvs=>kvs.length<=J9/\(a==Ks)=Ua/\∃vs,KV kvs vs/\h.DictOf (aE P w) a vs
 |.dT kvs=>kvs.length<=J9/\(a==Ks)=Ua/\∃xs:List (List Key×Ub×hH),
  JX (λ(p:List Key×V) (q:List Key×Ub×hH)=>p.1=q.1/\H q.2.1=Z (.tup (p.1.map kV))/\RelV p.2 q.2.2) kvs xs /\
  ∃o es ep,h.get? a=Z o/\o.ExactDict/\o.data=.dict es ep/\es.toList=xs.map (entryOfKey (Nq (aE P w)))/\(xs.map (·.1)).Nodup
 |.set S n=>h.SetOf (intKind P w) a S n
 |.ins C dx fs=>H dx=Z (.own a)/\fs.length<=1000/\dx≠a/\h.get? a=Z (PySem.W.instObj C dx) /\
  ∃mA,h.Ns1 dx mA/\(∀f,RelO (fs.lookup f) (mA f))/\PySem.Within mA (fs.map (·.1))
 |.own _=>∃o,h.get? a=Z o
 |.xd fs=>∃mA,h.Ns1 a mA/\∀f,RelO (fs.lookup f) (mA f)
 |.rng lo hi=>∃t u v,h.get? a=Z {cls:=.type "range",data:=.fields #[.int lo t,.int hi u,.int 1 v]}
 |.frz o u=>h.get? a=Z o/\ObjOk H h a u
 |.tbl ps=>h.get? a=Z {cls:=.none,data:=.fields ps}
 |.met f x=>h.get? a=Z (Pp (.ref f) (.ref x))
 |.ext φ=>φ h/\(∃o,h.get? a=Z o)/\∀h1 h2:Heap,φ h1->(∀o,h1.get? a=Z o->h2.get? a=Z o)->φ h2
def HOk(H:Hp)(h:Heap):Prop:=∀a o,H a=Z o->ObjOk P w H h a o
end
section
variable{P:JB}{w:K1}{H H':Hp}{h h':Heap}{a:Ub}{o:HO}
theorem ObjOk.lt(x:ObjOk P w H h a o):a<h.objs.size:=by
 cases o with
 |lst xs=>obtain⟨_,_,_,_,e⟩:=x;exact Jl e
 |tup xs=>obtain⟨_,_,_,p⟩:=x;exact p.lt
 |dK kvs=>obtain⟨_,_,_,_,o,_,_,e,_⟩:=x;exact Jl e
 |dT kvs=>obtain⟨_,_,_,_,o,_,_,e,_⟩:=x;exact Jl e
 |set S n=>obtain⟨o,_,_,_,e,_⟩:=x;exact Jl e
 |ins C dx fs=>obtain⟨_,_,_,e,_⟩:=x;exact Jl e
 |own y=>obtain⟨_,e⟩:=x;exact Jl e
 |xd fs=>obtain⟨_,⟨_,_,_,e,_⟩,_⟩:=x;exact Jl e
 |rng lo hi=>obtain⟨_,_,_,e⟩:=x;exact Jl e
 |frz ob u=>obtain⟨e,_⟩:=x;exact Jl e
 |tbl ps=>exact Jl (show h.get? a=Z _ from x)
 |met f y=>exact Jl (show h.get? a=Z _ from x)
 |ext φ=>obtain⟨_,⟨_,e⟩,_⟩:=x;exact Jl e
theorem TN{α β:Type}{F G:α->β->Prop}:∀{l₁:List α} {l₂:List β},JX F l₁ l₂->(∀a b,F a b->G a b)->JX G l₁ l₂
 |_,_,.nil,_=>.nil
 |_,_,.cons r t,f=>.cons (f _ _ r) (TN t f)
theorem ObjOk.stay(x:ObjOk P w H h a o)(k:∀b u,(b=a∨H b=Z (.own a))->h.get? b=Z u->h'.get? b=Z u)(ho:∀b,H b=Z (.own a)->H' b=Z (.own a))(j:∀b xs,H b=Z (.tup xs)->H' b=Z (.tup xs)):ObjOk P w H' h' a o:=by
 induction o with
 |lst xs=>obtain⟨z,its,n,r,e⟩:=x;exact⟨z,its,n,r,k _ _ (.inl rfl) e⟩
 |tup xs=>obtain⟨z,its,r,ob,e,c⟩:=x;exact⟨z,its,r,ob,k _ _ (.inl rfl) e,c⟩
 |dK kvs=>obtain⟨z,y,vs,r,ob,es,ep,e,c⟩:=x;exact⟨z,y,vs,r,ob,es,ep,k _ _ (.inl rfl) e,c⟩
 |dT kvs=>obtain⟨z,y,xs,r,ob,es,ep,e,c⟩:=x;exact⟨z,y,xs,TN r λp q z=>⟨z.1,j _ _ z.2.1,z.2.2⟩,ob,es,ep,k _ _ (.inl rfl) e,c⟩
 |set S n=>obtain⟨ob,es,ep,t,e,c⟩:=x;exact⟨ob,es,ep,t,k _ _ (.inl rfl) e,c⟩
 |ins C dx fs=>obtain⟨d,z,ne,e,mA,⟨od,es,ep,B,c⟩,r⟩:=x;exact⟨ho _ d,z,ne,k _ _ (.inl rfl) e,mA,⟨od,es,ep,k _ _ (.inr d) B,c⟩,r⟩
 |own y=>obtain⟨ob,e⟩:=x;exact⟨ob,k _ _ (.inl rfl) e⟩
 |xd fs=>obtain⟨mA,⟨od,es,ep,e,c⟩,r⟩:=x;exact⟨mA,⟨od,es,ep,k _ _ (.inl rfl) e,c⟩,r⟩
 |rng lo hi=>obtain⟨t,u,v,e⟩:=x;exact⟨t,u,v,k _ _ (.inl rfl) e⟩
 |frz ob u ih=>obtain⟨e,q⟩:=x;exact⟨k _ _ (.inl rfl) e,ih q⟩
 |tbl ps=>have e:h.get? a=Z {cls:=.none,data:=.fields ps}:=x;show h'.get? a=Z {cls:=.none,data:=.fields ps};exact k a _ (.inl rfl) e
 |met f y=>have e:h.get? a=Z (Pp (.ref f) (.ref y)):=x;show h'.get? a=Z (Pp (.ref f) (.ref y));exact k a _ (.inl rfl) e
 |ext φ=>obtain⟨p,⟨o,e⟩,st⟩:=x;exact⟨st _ _ p λo q=>k _ _ (.inl rfl) q,⟨o,k _ _ (.inl rfl) e⟩,st⟩
theorem HOk.lt(x:HOk P w H h)(e:H a=Z o):a<h.objs.size:=(x a o e).lt
theorem HOk.fresh(x:HOk P w H h)(e:h.objs.size<=a):H a=Y:=by
 cases q:H a with
 |none=>rfl
 |some u=>exact absurd (JP (x.lt q) e) (La _)
theorem HOk.kept(x:HOk P w H h)(k:∀b u,h.get? b=Z u->h'.get? b=Z u):HOk P w H h':=λa o e=>(x a o e).stay (λb u _ q=>k b u q) (λ_ q=>q) λ_ _ q=>q
theorem HOk.laid(x:HOk P w H h)(k:∀b u,h.get? b=Z u->h'.get? b=Z u)(z:h.objs.size<=a)(new:ObjOk P w (upd H a o) h' a o):HOk P w (upd H a o) h':=λb u e=>by
 have j:=x.fresh z
 by_cases hb:b=a
 ·subst hb;rw[ay]at e;cases e;exact new
 ·rw[am hb]at e;exact(x b u e).stay (λc v _ q=>k c v q) (λc q=>by rw[am (bb q j)];exact q) λc xs q=>by rw[am (bb q j)];exact q
end
def Rd(H:Hp)(a:Ub)(u:HO):Prop:=H a=Z u∨∃o,H a=Z (.frz o u)
theorem Rd.of{H:Hp}{u:HO}(h:H a=Z u):Rd H a u:=.inl h
theorem Rd.ok{H:Hp}{u:HO}(r:Rd H a u)(x:HOk P w H h):ObjOk P w H h a u:=by
 rcases r with r|⟨o,r⟩
 ·exact x a u r
 ·obtain⟨_,q⟩:=x a _ r;exact q
noncomputable def Mut:Option HO->Prop
 |some (.lst _)=>True
 |some (.dK _)=>True
 |some (.dT _)=>True
 |some (.set _ _)=>True
 |some (.ins _ _ _)=>True
 |some (.ext _)=>True
 |_=>False
section
variable{P:JB}{w:K1}{H:Hp}{h h':Heap}{x e:Ub}{o':HO}
theorem HOk.write(ok:HOk P w H h)(mu:Mut (H x))(he:e=x∨H e=Z (.own x))(k:∀b u,b≠e->h.get? b=Z u->h'.get? b=Z u)(F:∃u,h'.get? e=Z u)(new:ObjOk P w (upd H x o') h' x o'):HOk P w (upd H x o') h':=λb u q=>by
 have nown:∀c y,H c=Z (.own y)->c≠x:=λc y r z=>by subst z;rw[r]at mu;exact mu
 have ntup:∀c xs,H c=Z (.tup xs)->c≠x:=λc xs r z=>by subst z;rw[r]at mu;exact mu
 by_cases hb:b=x
 ·subst hb;rw[ay]at q;cases q;exact new
 ·rw[am hb]at q
  by_cases j:b=e
  ·have q':H b=Z (.own x):=by
    rcases he with z|z
    ·exact absurd (j.trans z) hb
    ·rw[j];exact z
   rw[q]at q';cases q';obtain⟨v,G⟩:=F;exact⟨v,by rw[j];exact G⟩
  ·refine(ok b u q).stay (λc v B r=>k c v ?_ r) (λc r=>by rw[am (nown c b r)];exact r) λc xs r=>by rw[am (ntup c xs r)];exact r
   rcases B with rfl|B
   ·exact j
   ·rintro rfl
    rcases he with z|z
    ·exact nown c b B z
    ·rw[B]at z;cases z;exact hb rfl
end
structure Un(fs ex:List Ub)(H H':Hp)(h h':Heap):Prop where
 keep:∀b o,h.get? b=Z o->H b=Y->b∉fs->b∉ex->h'.get? b=Z o
 slot:∀b o,h.get? b=Z o->H b=Y->b∈fs->b∉ex->∃sl,h'.get? b=Z {o with slots:=sl}
 free:∀b o,h.get? b=Z o->H b=Y->b∉ex->H' b=Y
 there:∀b o,h.get? b=Z o->b∉ex->∃o',h'.get? b=Z o'
 tups:∀b xs,H b=Z (.tup xs)->H' b=Z (.tup xs)
 frzs:∀b o u,H b=Z (.frz o u)->H' b=Z (.frz o u)
 tbls:∀b ps,H b=Z (.tbl ps)->∃more,H' b=Z (.tbl (ps++more))
section
variable{fs fs' ex ex':List Ub}{H H1 H2:Hp}{h h1 h2 h':Heap}{a x e:Ub}{o:HO}
theorem Un.any(u:Un fs ex H H1 h h1){ob:Obj}(q:h.get? b=Z ob)(n:H b=Y)(hx:b∉ex):∃sl,h1.get? b=Z {ob with slots:=sl}:=by
 by_cases j:b∈fs
 ·exact u.slot b ob q n j hx
 ·exact⟨ob.slots,u.keep b ob q n j hx⟩
theorem Un.kept(k:∀b u,h.get? b=Z u->h'.get? b=Z u):Un fs ex H H h h':=⟨λb ob q _ _ _=>k b ob q,λb ob q _ _ _=>⟨ob.slots,k b ob q⟩,λ_ _ _ n _=>n,λb ob q _=>⟨ob,k b ob q⟩,λ_ _ q=>q,λ_ _ _ q=>q,λ_ ps q=>⟨#[],by rw[q];simp⟩⟩
theorem Un.refl:Un fs ex H H h h:=Un.kept λ_ _ q=>q
theorem Un.laid(k:∀b u,h.get? b=Z u->h'.get? b=Z u)(z:h.objs.size<=a)(j:H a=Y):Un fs ex H (upd H a o) h h' where
 keep:=λb u q _ _ _=>k b u q
 slot:=λb u q _ _ _=>⟨u.slots,k b u q⟩
 free:=λb u q n _=>by rw[am (JU (JP (Jl q) z))];exact n
 there:=λb u q _=>⟨u,k b u q⟩
 tups:=λb xs q=>by rw[am (bb q j)];exact q
 frzs:=λb u xs q=>by rw[am (bb q j)];exact q
 tbls:=λb ps q=>⟨#[],by rw[am (bb q j),q];simp⟩
theorem Un.write(mu:Mut (H x))(he:e=x∨H e=Z (.own x))(k:∀b u,b≠e->h.get? b=Z u->h'.get? b=Z u)(B:∃u,h'.get? e=Z u):Un fs ex H (upd H x o) h h':=by
 have hx:∀b,H b=Y->b≠x:=λb n z=>by subst z;rw[n]at mu;exact mu
 have F:∀b,H b=Y->b≠e:=λb n z=>by
  subst z
  rcases he with r|r
  ·exact hx b n r
  ·rw[n]at r;cases r
 have hm:∀b u,H b=Z u->¬Mut (Z u)->b≠x:=λb u q nm z=>by subst z;rw[q]at mu;exact nm mu
 refine⟨λb u q n _ _=>k b u (F b n) q,λb u q n _ _=>⟨u.slots,k b u (F b n) q⟩,λb u q n _=>by rw[am (hx b n)];exact n,λb u q _=>?_,
  λb xs q=>by rw[am (hm b _ q λz=>z)];exact q,λb u xs q=>by rw[am (hm b _ q λz=>z)];exact q,λb ps q=>⟨#[],by rw[am (hm b _ q λz=>z),q];simp⟩⟩
 by_cases j:b=e
 ·subst j;exact B
 ·exact⟨u,k b u j q⟩
end
noncomputable def trk(h:Heap)(H:Hp):List Ub:=(J2 h.objs.size).filter λa=>(H a).isSome
noncomputable def fw(h:Heap)(H:Hp):Heap:=PySem.W.hideAll h (trk h H)
theorem tm(h:Heap)(H:Hp):(fw h H).objs.size=h.objs.size:=PySem.W.hideAll_size _ _
theorem vT{H:Hp}{o:Obj}(e:h.get? b=Z o)(n:H b=Y):(fw h H).get? b=Z o:=
 PySem.W.hideAll_get _ e λhm=>by have q:(H b).isSome=N2:=(KJ.mp hm).2;rw[n]at q;simp at q
theorem yU{H:Hp}{o:Obj}(e:(fw h H).get? b=Z o):h.get? b=Z o/\H b=Y:=by
 have e':h.get? b=Z o:=PySem.W.of_hideAll (trk h H) e;refine⟨e',?_⟩
 cases q:H b with
 |none=>rfl
 |some x=>
  have hm:b∈trk h H:=KJ.mpr ⟨K2.mpr (Jl e'),by simp[q]⟩
  have z:(fw h H).get? b=Y:=PySem.W.hideAll_none (trk h H) hm;rw[z]at e;cases e
noncomputable def yV(g h:Heap)(L:Ub):List (Ub×Obj):=(J2 h.objs.size).filterMap λa=>if a=L∨(g.get? a).isSome=N2 then Y else(h.get? a).map λo=>(a,o)
noncomputable def rest(g h:Heap)(L d:Ub):List (Ub×Obj):=(yV g h L).filter λp=>decide (p.1≠d)
end
variable{H:Hp}{o:HO}{u:hH}{t' i:Nat}{x:Str}{e:Expr}{N:List Str}{M:Oy}{A:Kh}{v:V}{s:I7}
section
structure Mod(K:Frag)(mg:Str->Option hH)(base:Heap):Prop where
 kin:K.In base
 glob:base.Ns KQ mg
 blt:∃mb,base.Ns Ta mb/\∀x:Str,x≠"__name__"->mb x=OR x
 nolimit:base.NoLimit
structure Cx where
 prog:JB
 w:K1
 K:Frag
 mg:Str->Option hH
 base:Heap
 A:Kh
 N:List Str
 s₀:I7
 H₀:Hp
 env:Env
 outer:List Env
 stack:List Env
 ex:List Ub
 fn:Str->Bool
 calm:Bool
 pn:List (Ub×Obj)
 xe:hH->I7->Prop
noncomputable def frs(l:List Env):List Ub:=l.filterMap (·.frame)
noncomputable abbrev Cx.fs(X:Cx):List Ub:=frs X.outer
def Vis(sc:Scope)(x:Str):Prop:=sc.names.lookup x=Z .local∨sc.names.lookup x=Z .cell∨sc.names.lookup x=Z .free
def Loc(sc:Scope)(x:Str):Prop:=sc.names.lookup x=Z .local∨sc.names.lookup x=Z .cell
def E2(env:Env)(h:Heap)(m:Str->Option hH)(x:Str)(u:hH):Prop:=(env.kindOf x=Z .local/\m x=Z u)∨((env.kindOf x=Z .cell∨env.kindOf x=Z .free)/\∃c,env.cells.lookup x=Z c/\h.IsCell c (Z u))
structure Cx.Ok(X:Cx):Prop where
 mod:Mod X.K X.mg X.base
 kind:X.env.scope.kind=.function
 glob:X.env.globals=KQ
 blt:X.env.builtins=Ta
 above:X.s₀.heap.objs.size<=X.env.locals
 inj:∀x y c,X.env.cells.lookup x=Z c->X.env.cells.lookup y=Z c->x=y
 has:∀x,(X.env.kindOf x=Z .cell∨X.env.kindOf x=Z .free)->∃c,X.env.cells.lookup x=Z c
 cab:∀x c,X.fn x=N2->X.env.cells.lookup x=Z c->X.s₀.heap.objs.size<=c
 hd:X.calm=N2->X.A.handled=Y
 frames:X.A.frames=Z X.stack
 stk:X.stack=X.outer∨(X.stack=X.env::X.outer/\X.env.frame=Z X.env.locals)
 exf:∀b∈X.ex,b≠X.env.locals/\∀x c,X.env.cells.lookup x=Z c->c≠b
 bs:∀b o,X.base.get? b=Z o->X.s₀.heap.get? b=Z o/\X.H₀ b=Y
 bsz:X.base.objs.size<=X.s₀.heap.objs.size
 noex:∀b o,X.base.get? b=Z o->b∉X.ex
 exfs:∀b∈X.ex,b∉X.fs
 funs:X.s₀.heap.FunFrames X.base X.outer
 frf:∀b∈X.fs,X.H₀ b=Y
structure Inv(X:Cx)(pins:List (Ub×Obj))(σ:List (Option V))(H:Hp)(s:I7):Prop where
 ok:X.Ok
 os:s.os=X.s₀.os
 bare:Pq s.gens
 base:Un X.fs X.ex X.H₀ H X.s₀.heap s.heap
 loc:∃m,s.heap.Ns X.env.locals m/\∀(i:Nat) (x:Str) (v:V),X.N[i]?=Z x->σ[i]?=Z (Z v)->Vis X.env.scope x->∃u,RelV v u/\E2 X.env s.heap m x u
 cell:∀x c,X.env.cells.lookup x=Z c->∃v,s.heap.IsCell c v
 free:H X.env.locals=Y
 freeC:∀x c,X.env.cells.lookup x=Z c->H c=Y
 pin:∀p∈X.pn++pins,s.heap.get? p.1=Z p.2/\H p.1=Y/\p.1≠X.env.locals/\p.1∉X.fs/\∀v,p.2.data≠.cell v
 hok:HOk X.prog X.w H s.heap
 len:σ.length=X.N.length
section
variable{X:Cx}{pins:List (Ub×Obj)}{σ:List (Option V)}{H H':Hp}{s:I7}{h':Heap}
theorem Cx.Ok.nofr(ok:X.Ok){o:Obj}(e:X.base.get? b=Z o):b∉X.fs:=λj=>by have:=(ok.funs.mem j).1;rw[e]at this;cases this
theorem Inv.bs(I:Inv X pins σ H s):∀b o,X.base.get? b=Z o->s.heap.get? b=Z o/\H b=Y:=λb o e=>⟨I.base.keep b o (I.ok.bs b o e).1 (I.ok.bs b o e).2 (I.ok.nofr e) (I.ok.noex b o e),I.base.free b o (I.ok.bs b o e).1 (I.ok.bs b o e).2 (I.ok.noex b o e)⟩
theorem Inv.bk(I:Inv X pins σ H s):∀b o,X.base.get? b=Z o->s.heap.get? b=Z o:=λb o e=>(I.bs b o e).1
theorem Inv.mod(I:Inv X pins σ H s):Mod X.K X.mg X.base:=I.ok.mod
theorem Inv.kIn(I:Inv X pins σ H s):X.K.In s.heap:=I.ok.mod.kin.keeps I.bk
theorem Inv.lt(I:Inv X pins σ H s):X.env.locals<s.heap.objs.size:=let⟨_,j,_⟩:=I.loc;j.lt
theorem Inv.sz(I:Inv X pins σ H s):X.s₀.heap.objs.size<=s.heap.objs.size:=K0 I.ok.above (Nr I.lt)
theorem Inv.nofs(I:Inv X pins σ H s)(h:s.heap.objs.size<=a):a∉X.fs:=λj=>by obtain⟨_,o,ho,_⟩:=I.ok.funs.mem j;exact absurd (JP (Jl ho) (K0 I.sz h)) (La _)
theorem Inv.cne(I:Inv X pins σ H s):∀x c,X.env.cells.lookup x=Z c->c≠X.env.locals:=λx c e z=>by obtain⟨v,o,ho,hd⟩:=I.cell x c e;obtain⟨m,⟨o',es,ep,j,q,_⟩,_⟩:=I.loc;rw[z,j]at ho;cases ho;rw[q]at hd;cases hd
theorem Inv.funs(I:Inv X pins σ H s):s.heap.FunFrames X.base X.outer:=by
 have all:∀(l:List Env),(∀b∈frs l,b∈X.fs)->X.s₀.heap.FunFrames X.base l->s.heap.FunFrames X.base l:=by
  intro l
  induction l with
  |nil=>intro _ _;trivial
  |cons env r ih=>
   intro hs B;obtain⟨F,⟨L,o,hf,G,ho,hd⟩,J⟩:=B;have j:L∈X.fs:=hs L (by unfold frs;rw[OP,hf];exact Je)
   obtain⟨sl,e⟩:=I.base.slot L o ho (I.ok.frf L j) j λz=>I.ok.exfs L z j;exact⟨F,⟨L,_,hf,G,e,hd⟩,ih (λb q=>hs b (by unfold frs;rw[OP,hf];exact J3 _ q)) J⟩
 exact all X.outer (λ_ q=>q) I.ok.funs
theorem Inv.stack(I:Inv X pins σ H s):s.heap.FunFrames X.base X.stack:=by
 rcases I.ok.stk with e|⟨e,hf⟩
 ·rw[e];exact I.funs
 ·rw[e];obtain⟨m,j,_⟩:=I.loc;refine .cons (by rw[I.ok.kind];decide) hf j ?_ I.funs
  exact Heap.get?_none_of_le (K0 I.ok.bsz I.ok.above)
theorem Inv.stkSub(I:Inv X pins σ H s):∀b∈frs X.stack,b∈X.env.locals::X.fs:=λb j=>by
 rcases I.ok.stk with e|⟨e,hf⟩
 ·rw[e]at j;exact J3 _ j
 ·rw[e]at j;unfold frs at j;rw[OP,hf]at j;exact j
theorem Inv.stkFree(I:Inv X pins σ H s):∀b∈frs X.stack,H b=Y:=λb j=>by
 rcases Jp.mp (I.stkSub b j)with e|j
 ·rw[e];exact I.free
 ·obtain⟨_,o,ho,_⟩:=I.ok.funs.mem j;exact I.base.free b o ho (I.ok.frf b j) λz=>I.ok.exfs b z j
theorem Inv.step{g':Array GenState}{d':Drawn}{ch:List Ub}(I:Inv X pins σ H s)(j:∀b∈ch,(b∈X.ex∨X.s₀.heap.objs.size<=b)/\b≠X.env.locals/\(∀x c,X.env.cells.lookup x=Z c->c≠b)/\∀p∈X.pn++pins,p.1≠b)(keep:∀b o,b≠X.env.locals->b∉X.fs->b∉ch->s.heap.get? b=Z o->H b=Y->h'.get? b=Z o)(slot:∀b o,b≠X.env.locals->b∈X.fs->b∉ch->s.heap.get? b=Z o->H b=Y->∃sl,h'.get? b=Z {o with slots:=sl})(free:∀b o,b∉ch->s.heap.get? b=Z o->H b=Y->H' b=Y)(there:∀b o,b∉ch->s.heap.get? b=Z o->∃o',h'.get? b=Z o')(tups:∀b xs,H b=Z (.tup xs)->H' b=Z (.tup xs))(frzs:∀b o u,H b=Z (.frz o u)->H' b=Z (.frz o u))(tbls:∀b ps,H b=Z (.tbl ps)->∃more,H' b=Z (.tbl (ps++more)))(ns:∀m,s.heap.Ns X.env.locals m->h'.Ns X.env.locals m)(hok:HOk X.prog X.w H' h')(O:Pq g'):
 Inv X pins σ H' {s with heap:=h',gens:=g',drawn:=d',toks:=t'}:=by
 have neL:∀b o,X.s₀.heap.get? b=Z o->b≠X.env.locals:=λb o e=>JU (JP (Jl e) I.ok.above);have neC:∀b o,X.s₀.heap.get? b=Z o->b∉X.ex->b∉ch:=λb o e hx F=>by
  rcases(j b F).1 with z|z
  ·exact hx z
  ·exact absurd (JP (Jl e) z) (La _)
 have cellK:∀x c,X.env.cells.lookup x=Z c->∀v,s.heap.IsCell c v->h'.IsCell c v:=λx c e v ⟨o,ho,hd⟩=>by
  have nch:c∉ch:=λz=>(j c z).2.2.1 x c e rfl
  by_cases J:c∈X.fs
  ·obtain⟨sl,q⟩:=slot c o (I.cne x c e) J nch ho (I.freeC x c e);exact⟨_,q,hd⟩
  ·exact⟨o,keep c o (I.cne x c e) J nch ho (I.freeC x c e),hd⟩
 refine⟨I.ok,I.os,O,⟨λb o e n F hx=>?_,λb o e n F hx=>?_,λb o e n hx=>?_,λb o e hx=>?_,λb xs e=>tups b xs (I.base.tups b xs e),λb o xs e=>frzs b o xs (I.base.frzs b o xs e),λb ps e=>?_⟩,?_,λx c e=>?_,?_,λx c e=>?_,λp L=>?_,hok,I.len⟩
 ·exact keep b o (neL b o e) F (neC b o e hx) (I.base.keep b o e n F hx) (I.base.free b o e n hx)
 ·obtain⟨sl,B⟩:=I.base.slot b o e n F hx;obtain⟨sl',G⟩:=slot b _ (neL b o e) F (neC b o e hx) B (I.base.free b o e n hx);exact⟨sl',G⟩
 ·obtain⟨o',B⟩:=I.base.there b o e hx;exact free b o' (neC b o e hx) B (I.base.free b o e n hx)
 ·obtain⟨o',B⟩:=I.base.there b o e hx;exact there b o' (neC b o e hx) B
 ·obtain⟨U,B⟩:=I.base.tbls b ps e;obtain⟨F2,G⟩:=tbls b _ B;exact⟨U++F2,by rw[G,Array.append_assoc]⟩
 ·obtain⟨m,fv,hl⟩:=I.loc;refine⟨m,ns m fv,λi x v B G e3=>?_⟩;obtain⟨u,r,l⟩:=hl i x v B G e3;refine⟨u,r,?_⟩
  rcases l with l|⟨k,c,e,z⟩
  ·exact .inl l
  ·exact .inr ⟨k,c,e,cellK x c e _ z⟩
 ·obtain⟨v,z⟩:=I.cell x c e;exact⟨v,cellK x c e v z⟩
 ·obtain⟨m,⟨o,_,_,ho,_⟩,_⟩:=I.loc;exact free _ o (λz=>(j _ z).2.1 rfl) ho I.free
 ·obtain⟨v,o,ho,hd⟩:=I.cell x c e;exact free c o (λz=>(j c z).2.2.1 x c e rfl) ho (I.freeC x c e)
 ·obtain⟨e,n,ne,nf,d⟩:=I.pin p L;have nch:p.1∉ch:=λz=>(j p.1 z).2.2.2 p L rfl;exact⟨keep p.1 p.2 ne nf nch e n,free p.1 p.2 nch e n,ne,nf,d⟩
theorem Inv.un(I:Inv X pins σ H s)(u:Un X.fs [] H H' s.heap h')(hok:HOk X.prog X.w H' h'):Inv X pins σ H' {s with heap:=h',toks:=t'}:=by
 obtain⟨m,⟨o,es,ep,ho,r⟩,_⟩:=id I.loc;obtain⟨sl,B⟩:=u.any ho I.free (by simp)
 exact I.step (g':=s.gens) (d':=s.drawn) (ch:=[]) (λ_ z=>nomatch z) (λb o _ q _ e n=>u.keep b o e n q (by simp)) (λb o _ q _ e n=>u.slot b o e n q (by simp)) (λb o _ e n=>u.free b o e n (by simp)) (λb o _ e=>u.there b o e (by simp)) u.tups u.frzs u.tbls (λm' hm=>by obtain⟨o',es',ep',j,r'⟩:=hm;rw[ho]at j;cases j;exact⟨_,es',ep',B,r'⟩) hok I.bare
theorem Inv.call{g':Array GenState}{d':Drawn}{ch:List Ub}(I:Inv X pins σ H s)(u:Un (frs X.stack) ch H H' s.heap h')(hok:HOk X.prog X.w H' h')(G:Pq g')(q:∀b∈ch,(b∈X.ex∨X.s₀.heap.objs.size<=b)/\b≠X.env.locals/\(∀x c,X.env.cells.lookup x=Z c->c≠b)/\∀p∈X.pn++pins,p.1≠b):
 Inv X pins σ H' {s with heap:=h',gens:=g',drawn:=d',toks:=t'}:=by
 obtain⟨m,⟨o,es,ep,ho,r⟩,_⟩:=id I.loc;obtain⟨sl,F⟩:=u.any ho I.free λz=>(q _ z).2.1 rfl;exact I.step (ch:=ch) q (λb o F J j e n=>u.keep b o e n (λz=>(Jp.mp (I.stkSub b z)).elim F J) j) (λb o _ _ j e n=>u.any e n j) (λb o j e n=>u.free b o e n j) (λb o j e=>u.there b o e j) u.tups u.frzs u.tbls (λm' hm=>by obtain⟨o',es',ep',B,r'⟩:=hm;rw[ho]at B;cases B;exact⟨_,es',ep',F,r'⟩) hok G
theorem Inv.turned{it:Ub}(I:Inv X pins σ H s)(k:∀b o,b≠it->s.heap.get? b=Z o->h'.get? b=Z o)(F:H it=Y)(B:it≠X.env.locals)(h1:it∈X.ex∨X.s₀.heap.objs.size<=it)(h2:∀x c,X.env.cells.lookup x=Z c->c≠it)(G:∀p∈X.pn++pins,p.1≠it):Inv X pins σ H {s with heap:=h',toks:=t'}:=by
 have nit:∀b u,H b=Z u->b≠it:=λb u e z=>by rw[z,F]at e;cases e
 refine I.step (g':=s.gens) (d':=s.drawn) (ch:=[it]) (λb J=>?_) (λb o _ _ j e _=>k b o (λz=>j (by simp[z])) e) (λb o _ _ j e _=>⟨o.slots,k b o (λz=>j (by simp[z])) e⟩) (λ_ _ _ _ n=>n)
  (λb o j e=>⟨o,k b o (λz=>j (by simp[z])) e⟩) (λ_ _ e=>e) (λ_ _ _ e=>e) (λb ps e=>⟨#[],by rw[e];simp⟩) (λm hm=>?_) (λb u e=>?_) I.bare
 ·have e:b=it:=by simpa using J
  subst e;exact⟨h1,B,h2,G⟩
 ·obtain⟨o,es,ep,ho,r⟩:=hm;exact⟨o,es,ep,k _ o (Ne.symm B) ho,r⟩
 ·refine(I.hok b u e).stay (λc v j q=>k c v ?_ q) (λ_ q=>q) λ_ _ q=>q
  rcases j with z|z
  ·rw[z];exact nit b u e
  ·exact nit c _ z
theorem Inv.tok(I:Inv X pins σ H s)(t:Nat):Inv X pins σ H {s with toks:=t}:=I.un (h':=s.heap) (t':=t) Un.refl I.hok
theorem Inv.kept(I:Inv X pins σ H s)(k:∀b u,s.heap.get? b=Z u->h'.get? b=Z u):Inv X pins σ H {s with heap:=h',toks:=t'}:=I.un (Un.kept k) (I.hok.kept k)
theorem Inv.laid(I:Inv X pins σ H s)(k:∀b u,s.heap.get? b=Z u->h'.get? b=Z u)(j:s.heap.objs.size<=a)(new:ObjOk X.prog X.w (upd H a o) h' a o):Inv X pins σ (upd H a o) {s with heap:=h',toks:=t'}:=I.un (Un.laid k j (I.hok.fresh j)) (I.hok.laid k j new)
theorem Inv.write{x e:Ub}(I:Inv X pins σ H s)(mu:Mut (H x))(he:e=x∨H e=Z (.own x))(k:∀b u,b≠e->s.heap.get? b=Z u->h'.get? b=Z u)(j:∃u,h'.get? e=Z u)(new:ObjOk X.prog X.w (upd H x o) h' x o):Inv X pins σ (upd H x o) {s with heap:=h',toks:=t'}:=I.un (Un.write mu he k j) (I.hok.write mu he k j new)
theorem Inv.pins_of{pins':List (Ub×Obj)}(I:Inv X pins σ H s)(h:∀p∈pins',s.heap.get? p.1=Z p.2/\H p.1=Y/\p.1≠X.env.locals/\p.1∉X.fs/\∀v,p.2.data≠.cell v):Inv X pins' σ H s:=⟨I.ok,I.os,I.bare,I.base,I.loc,I.cell,I.free,I.freeC,λp j=>(Ja.mp j).elim (λz=>I.pin p (L4 _ z)) (h p),I.hok,I.len⟩
theorem mP(q:N.Nodup){j:Nat}(a:N[i]?=Z x)(b:N[j]?=Z x):i=j:=by obtain⟨h1,z⟩:=J0.mp a;obtain⟨h2,B⟩:=J0.mp b;exact(List.getElem_inj q).mp (z.trans B.symm)
theorem tq{E:hH->I7->Prop}{Q:Unit->I7->Prop}(I:Inv X pins σ H s)(hN:X.N.Nodup)(hi:X.N[i]?=Z x)(hx:Loc X.env.scope x)(r:RelV v u)(h:∀s',Inv X pins (σ.set i (Z v)) H s'->(∃a,Lc a s.heap s'.heap/\(a=X.env.locals∨X.env.cells.lookup x=Z a))->Q () s')(hf:X.fn x=N2∨X.env.scope.names.lookup x=Z .local:=by first|exact .inl rfl|exact .inr rfl|assumption):Jm M A (storeName X.env x u) Q E s:=by
 obtain⟨m,hn,hl⟩:=id I.loc;have fv:(X.env.scope.kind==.class || (X.env.scope.kind==.module&&X.env.locals != X.env.globals))=Ua:=by rw[I.ok.kind];rfl
 have GA:i<σ.length:=by rw[I.len];exact(J0.mp hi).1
 have cne:=I.cne;have tracked:∀{a:Ub} {h':Heap},(∃o,s.heap.get? a=Z o/\H a=Y)->Lc a s.heap h'->HOk X.prog X.w H h':=λ{a h'} ha hs b ob e=>by
  obtain⟨_,_,G⟩:=ha;refine(I.hok b ob e).stay (λc w' F q=>(hs.2 c ?_).trans q) (λ_ q=>q) λ_ _ q=>q;rintro rfl
  rcases F with rfl|F
  ·rw[G]at e;cases e
  ·rw[G]at F;cases F
 rcases hx with L|L
 ·refine wpAny_storeName_local L hn (λh' GF hs=>?_) fv;obtain⟨oL,_,_,GG,_⟩:=id hn;refine h _ ⟨I.ok,I.os,I.bare,⟨λb o e n O hx=>?_,λb o e n O hx=>?_,I.base.free,λb o e hx=>?_,I.base.tups,I.base.frzs,I.base.tbls⟩,⟨_,GF,λj y v' B J e3=>?_⟩,λy c e=>?_,I.free,I.freeC,λp hp=>?_,tracked ⟨oL,GG,I.free⟩ hs,by simpa using I.len⟩ ⟨_,hs,.inl rfl⟩
  ·exact(hs.2 b (JU (JP (Jl e) I.ok.above))).trans (I.base.keep b o e n O hx)
  ·obtain⟨sl,B⟩:=I.base.slot b o e n O hx;exact⟨sl,(hs.2 b (JU (JP (Jl e) I.ok.above))).trans B⟩
  ·obtain⟨o',B⟩:=I.base.there b o e hx;exact⟨o',(hs.2 b (JU (JP (Jl e) I.ok.above))).trans B⟩
  ·by_cases U:j=i
   ·subst U;rw[hi]at B;cases B;rw[L6 GA]at J
    cases J
    exact⟨u,r,.inl ⟨L,by simp⟩⟩
   ·rw[LI (Ne.symm U)]at J;obtain⟨u',r',q⟩:=hl j y v' B J e3;refine⟨u',r',?_⟩
    rcases q with⟨k,e⟩|⟨k,c,e,z⟩
    ·refine .inl ⟨k,?_⟩;have:y≠x:=λe=>U (mP hN B (e▸hi));simp[this,e]
    ·exact .inr ⟨k,c,e,z.sameBut hs (cne y c e)⟩
  ·obtain⟨w',z⟩:=I.cell y c e;exact⟨w',z.sameBut hs (cne y c e)⟩
  ·obtain⟨e,n,ne,nf,d⟩:=I.pin p hp;exact⟨(hs.2 p.1 ne).trans e,n,ne,nf,d⟩
 ·have F2:X.fn x=N2:=by
   rcases hf with z|z
   ·exact z
   ·rw[z]at L;cases L
  obtain⟨c,F⟩:=I.ok.has x (.inl L);obtain⟨w',z⟩:=I.cell x c F;refine wpAny_storeName_cell I.ok.kind L F z (λh' GB hs=>?_);obtain⟨oc,GC,GD⟩:=id z;refine h {s with heap:=h'} ⟨I.ok,I.os,I.bare,⟨λb o e n O hx=>?_,λb o e n O hx=>?_,I.base.free,λb o e hx=>?_,I.base.tups,I.base.frzs,I.base.tbls⟩,⟨m,hn.sameBut hs (Ne.symm (cne x c F)),λj y v' B J e3=>?_⟩,λy c' e=>?_,I.free,I.freeC,λp hp=>?_,tracked ⟨oc,GC,I.freeC x c F⟩ hs,by simpa using I.len⟩ ⟨c,hs,.inr F⟩
  ·exact(hs.2 b (JU (JP (Jl e) (I.ok.cab x c F2 F)))).trans (I.base.keep b o e n O hx)
  ·obtain⟨sl,B⟩:=I.base.slot b o e n O hx;exact⟨sl,(hs.2 b (JU (JP (Jl e) (I.ok.cab x c F2 F)))).trans B⟩
  ·obtain⟨o',B⟩:=I.base.there b o e hx;exact⟨o',(hs.2 b (JU (JP (Jl e) (I.ok.cab x c F2 F)))).trans B⟩
  ·by_cases U:j=i
   ·subst U;rw[hi]at B;cases B;rw[L6 GA]at J
    cases J
    exact⟨u,r,.inr ⟨.inl L,c,F,GB⟩⟩
   ·rw[LI (Ne.symm U)]at J;obtain⟨u',r',q⟩:=hl j y v' B J e3;refine⟨u',r',?_⟩
    rcases q with q|⟨k,c',e,z'⟩
    ·exact .inl q
    ·refine .inr ⟨k,c',e,z'.sameBut hs ?_⟩;rintro rfl;exact U (mP hN B (I.ok.inj _ _ _ e F▸hi))
  ·by_cases GE:c'=c
   ·subst GE;exact⟨_,GB⟩
   ·obtain⟨w2,z2⟩:=I.cell y c' e;exact⟨w2,z2.sameBut hs GE⟩
  ·obtain⟨e,n,ne,nf,d⟩:=I.pin p hp;refine⟨(hs.2 p.1 ?_).trans e,n,ne,nf,d⟩;intro q;rw[q,GC]at e;have q':oc=p.2:=JO.inj e;exact d w' (by rw[<-q'];exact GD)
theorem fy{E:hH->I7->Prop}{Q:Unit->I7->Prop}(I:Inv X pins σ H s)(j:X.N.Nodup)(hi:X.N[i]?=Z x)(hx:Loc X.env.scope x)(r:RelV v u)(h:∀s',Inv X pins (σ.set i (Z v)) H s'->Q () s')(hf:X.fn x=N2∨X.env.scope.names.lookup x=Z .local:=by first|exact .inl rfl|exact .inr rfl|assumption):Jm M A (storeName X.env x u) Q E s:=tq I j hi hx r (λs' I' _=>h s' I') hf
theorem Inv.call'{s':I7}{ch:List Ub}(I:Inv X pins σ H s)(ho:s'.os=s.os)(u:Un (frs X.stack) ch H H' s.heap s'.heap)(hok:HOk X.prog X.w H' s'.heap)(q:Pq s'.gens)(j:∀b∈ch,(b∈X.ex∨X.s₀.heap.objs.size<=b)/\b≠X.env.locals/\(∀x c,X.env.cells.lookup x=Z c->c≠b)/\∀p∈X.pn++pins,p.1≠b):Inv X pins σ H' s':=by obtain⟨h',g',d',t',o'⟩:=s';have e:o'=s.os:=ho;subst e;exact I.call (g':=g') (t':=t') (d':=d') u hok q j
end
noncomputable abbrev XK:=hH->Option Ub->Hp->Prop
noncomputable abbrev St:=List (Option V)
noncomputable abbrev VK:=V->Hp->Prop
noncomputable abbrev TE:=St->Hp->VK->Prop
noncomputable abbrev TT:=St->Hp->(Bool->Hp->Prop)->Prop
noncomputable abbrev TA:=St->Hp->(List V->Hp->Prop)->Prop
structure bN where
 nx:St->Hp->Prop
 rt:VK
 bk:St->Hp->Prop:=λ_ _=>False
 ct:St->Hp->Prop:=λ_ _=>False
noncomputable abbrev TS:=bN->St->Hp->Prop
def EP(X:Cx)(pins:List (Ub×Obj))(σ:St)(Q:VK)(u:hH)(s':I7):Prop:=∃v H',Inv X pins σ H' s'/\RelV v u/\Q v H'
def TP(X:Cx)(pins:List (Ub×Obj))(σ:St)(Q:Bool->Hp->Prop)(b:Bool)(s':I7):Prop:=∃H',Inv X pins σ H' s'/\Q b H'
def AP(X:Cx)(pins:List (Ub×Obj))(σ:St)(Q:List V->Hp->Prop)(us:List hH)(s':I7):Prop:=∃vs H',Inv X pins σ H' s'/\Vals vs us/\Q vs H'
def SP(X:Cx)(pins:List (Ub×Obj))(D:bN)(f:Flow)(s':I7):Prop:=
 match f with
 |.next=>∃σ' H',Inv X pins σ' H' s'/\D.nx σ' H'
 |.brk=>∃σ' H',Inv X pins σ' H' s'/\D.bk σ' H'
 |.cont=>∃σ' H',Inv X pins σ' H' s'/\D.ct σ' H'
 |.ret u=>∃v σ' H',Inv X pins σ' H' s'/\RelV v u/\D.rt v H'
def PE(X:Cx)(e:Expr)(t:TE):Prop:=∀(pins:List (Ub×Obj)) (s:I7) (σ:St) (H:Hp) (Q:VK),Inv X pins σ H s->t σ H Q->Jm (model X.prog X.w) X.A (eval e X.env) (EP X pins σ Q) X.xe s
def PT(X:Cx)(e:Expr)(t:TT):Prop:=∀(pins:List (Ub×Obj)) (s:I7) (σ:St) (H:Hp) (Q:Bool->Hp->Prop),Inv X pins σ H s->t σ H Q->Jm (model X.prog X.w) X.A (isTrue e X.env (eval e X.env)) (TP X pins σ Q) X.xe s
def PW(X:Cx)(e:Expr)(t:TT):Prop:=∀(whole:Sem hH) (pins:List (Ub×Obj)) (s:I7) (σ:St) (H:Hp) (Q:Bool->Hp->Prop),Inv X pins σ H s->t σ H Q->Jm (model X.prog X.w) X.A (isTrue e X.env whole) (TP X pins σ Q) X.xe s
theorem PW.pt{X:Cx}{t:TT}(h:PW X e t):PT X e t:=h _
def PA(X:Cx)(es:List Expr)(t:TA):Prop:=∀(pos:Pos) (pins:List (Ub×Obj)) (s:I7) (σ:St) (H:Hp) (Q:List V->Hp->Prop),Inv X pins σ H s->t σ H Q->Jm (model X.prog X.w) X.A (spliced (NP pos (JJ es X.env))) (AP X pins σ Q) X.xe s
def PS(X:Cx)(st:Stmt)(t:TS):Prop:=∀(pins:List (Ub×Obj)) (s:I7) (σ:St) (H:Hp) (D:bN),Inv X pins σ H s->t D σ H->Jm (model X.prog X.w) X.A (exec st X.env) (SP X pins D) X.xe s
def PSs(X:Cx)(st:List Stmt)(t:TS):Prop:=∀(pins:List (Ub×Obj)) (s:I7) (σ:St) (H:Hp) (D:bN),Inv X pins σ H s->t D σ H->Jm (model X.prog X.w) X.A (execs st X.env) (SP X pins D) X.xe s
theorem thn{α:Type}{t:Sem α}{Q Q':α->I7->Prop}{E:hH->I7->Prop}(h:Jm M A t Q E s)(j:∀a s,Q a s->Q' a s):Jm M A t Q' E s:=LA h j λ_ _ x=>x
end
variable{X:Cx}{pos:Pos}{pins:List (Ub×Obj)}{σ:St}{c:Expr}
section
section
variable{X:Cx}
noncomputable def E3(i:Nat):TE:=λσ H Q=>∃v,σ[i]?=Z (Z v)/\Q v H
noncomputable def tC(v:V):TE:=λ_ H Q=>Q v H
theorem AN(F:X.N[i]?=Z x)(G:Vis X.env.scope x)(hd:(x==("__debug__":Str))=Ua:=by decide)(z:(x==("__classdict__":Str))=Ua:=by decide):PE X (.Name x pos) (E3 i):=by
 intro pins s σ H Q I h;obtain⟨v,e,h⟩:=h;obtain⟨m,J,L⟩:=I.loc;obtain⟨u,r,l⟩:=L i x v F e G;have fin:EP X pins σ Q u s:=⟨v,H,I,r,h⟩
 rcases l with⟨q,hm⟩|⟨q,c,B,j⟩
 ·exact Tb (QB I.ok.kind q J hm fin) hd
 ·rcases q with q|q
  ·exact Tb (R6 I.ok.kind q B j fin) hd
  ·exact Tb (wpAny_loadName_free I.ok.kind q B j fin z) hd
theorem AO{i j pos}:PE X (.Constant (.int i) j pos) (tC (.int i)):=λ_ _ _ H _ I h=>wpAny_Constant_int ⟨.int i,H,I.tok _,⟨_,rfl⟩,h⟩
theorem CQ{b j pos}:PE X (.Constant (.bool b) j pos) (tC (.bl b)):=λ_ _ _ H _ I h=>Constant_bool ⟨.bl b,H,I,rfl,h⟩
theorem AQ{j pos}:PE X (.Constant .none j pos) (tC .non):=λ_ _ _ H _ I h=>Constant_none ⟨.non,H,I,rfl,h⟩
theorem AR{x j pos}:PE X (.Constant (.str x) j pos) (tC (.str x)):=λ_ _ _ H _ I h=>Calls.Constant_str ⟨.str x,H,I.tok _,⟨_,rfl⟩,h⟩
def Gl(X:Cx)(x:Str):Prop:=X.env.kindOf x=Z .globalImplicit
theorem jQ{E Q:hH->I7->Prop}(I:Inv X pins σ H s)(j:Gl X x)(hm:X.mg x=Z u)(h:Q u s)(hd:(x==("__debug__":Str))=Ua:=by decide):Jm (model X.prog X.w) X.A (eval (.Name x pos) X.env) Q E s:=P0 I.ok.kind j (Calls.loadGlobal_global (by rw[I.ok.glob];exact I.mod.glob.keeps I.bk) hm h) hd
theorem eQ{E Q:hH->I7->Prop}(I:Inv X pins σ H s)(j:Gl X x)(hm:X.mg x=Y)(q:OR x=Z u)(h:Q u s)(z:x≠"__name__":=by decide)(hd:(x==("__debug__":Str))=Ua:=by decide):Jm (model X.prog X.w) X.A (eval (.Name x pos) X.env) Q E s:=by obtain⟨mb,h1,h2⟩:=I.mod.blt;exact P0 I.ok.kind j (Calls.loadGlobal_builtin (by rw[I.ok.glob];exact I.mod.glob.keeps I.bk) hm (by rw[I.ok.blt];exact h1.keeps I.bk) ((h2 x z).trans q) h) hd
theorem yW(j:Gl X x)(hm:X.mg x=Z u)(r:RelV v u)(hd:(x==("__debug__":Str))=Ua:=by decide):PE X (.Name x pos) (tC v):=λ_ _ _ H _ I h=>jQ I j hm ⟨v,H,I,r,h⟩ hd
variable{a b:Expr}{ta tb:TE}{pos:Pos}
variable{tA tB':TT}{rest:List Expr}
noncomputable def E4(t u:TT):TT:=λσ H Q=>t σ H λc H1=>if c=N2 then u σ H1 Q else Q Ua H1
noncomputable def tOr(t u:TT):TT:=λσ H Q=>t σ H λc H1=>if c=N2 then Q N2 H1 else u σ H1 Q
noncomputable def E5(t:TT):TT:=λσ H Q=>t σ H λc H1=>Q (!c) H1
theorem yX(j:PT X a tA):PW X (.BoolOp .And [a] pos) tA:=by
 intro wh pins s σ H Q I h;refine isTrue_and (thn (j pins s σ H Q I h) λc s1 e=>?_)
 cases c with
 |true=>exact isTrue_and_nil e
 |false=>exact e
theorem AS(j:PT X a tA):PW X (.BoolOp .Or [a] pos) tA:=by
 intro wh pins s σ H Q I h;refine isTrue_or (thn (j pins s σ H Q I h) λc s1 e=>?_)
 cases c with
 |false=>exact isTrue_or_nil e
 |true=>exact e
theorem AT(z:PT X a tA)(B:PW X (.BoolOp .And (b::rest) pos) tB'):PW X (.BoolOp .And (a::b::rest) pos) (E4 tA tB'):=by
 intro wh pins s σ H Q I h;refine isTrue_and (thn (z pins s σ H _ I h) λc s1 F=>?_);obtain⟨H1,j,q⟩:=F
 cases c with
 |true=>exact B wh pins s1 σ H1 Q j q
 |false=>exact⟨H1,j,q⟩
theorem CS(z:PT X a tA)(B:PW X (.BoolOp .Or (b::rest) pos) tB'):PW X (.BoolOp .Or (a::b::rest) pos) (tOr tA tB'):=by
 intro wh pins s σ H Q I h;refine isTrue_or (thn (z pins s σ H _ I h) λc s1 F=>?_);obtain⟨H1,j,q⟩:=F
 cases c with
 |true=>exact⟨H1,j,q⟩
 |false=>exact B wh pins s1 σ H1 Q j q
theorem AU(j:PT X a tA):PT X (.UnaryOp .Not a pos) (E5 tA):=by intro pins s σ H Q I h;exact isTrue_not (j pins s σ H (λc H1=>Q (!c) H1) I h)
noncomputable def CT(ta tb:TE):TE:=λσ H Q=>ta σ H λx H1=>∃c,x=.bl c/\if c=N2 then tb σ H1 Q else Q (.bl Ua) H1
noncomputable def E6(ta tb:TE):TE:=λσ H Q=>ta σ H λx H1=>∃c,x=.bl c/\if c=N2 then Q (.bl N2) H1 else tb σ H1 Q
noncomputable def CU(ta:TE):TE:=λσ H Q=>ta σ H λx H1=>∃c,x=.bl c/\Q (.bl (!c)) H1
theorem AV{op}{t:TE}(h:PE X a t):PE X (.BoolOp op [a] pos) t:=λpins s σ H Q I hw=>BoolOp_one (h pins s σ H Q I hw)
theorem AW(z:PE X a ta)(B:PE X (.BoolOp .And (b::rest) pos) tb):PE X (.BoolOp .And (a::b::rest) pos) (CT ta tb):=by
 intro pins s σ H Q I h;refine BoolOp_and (thn (z pins s σ H _ I h) λv s1 F=>?_);obtain⟨x,H1,q,G,j⟩:=F;obtain⟨c,rfl,j⟩:=j
 cases G
 refine Mu ?_
 cases c with
 |true=>exact B pins s1 σ H1 Q q j
 |false=>exact⟨.bl Ua,H1,q,rfl,j⟩
theorem CV(z:PE X a ta)(B:PE X (.BoolOp .Or (b::rest) pos) tb):PE X (.BoolOp .Or (a::b::rest) pos) (E6 ta tb):=by
 intro pins s σ H Q I h;refine BoolOp_or (thn (z pins s σ H _ I h) λv s1 F=>?_);obtain⟨x,H1,q,G,j⟩:=F;obtain⟨c,rfl,j⟩:=j
 cases G
 refine Mu ?_
 cases c with
 |false=>exact B pins s1 σ H1 Q q j
 |true=>exact⟨.bl N2,H1,q,rfl,j⟩
theorem AX(q:PE X a ta):PE X (.UnaryOp .Not a pos) (CU ta):=by
 intro pins s σ H Q I h;refine UnaryOp_ (thn (q pins s σ H _ I h) λv s1 z=>?_);obtain⟨x,H1,B,F,j⟩:=z;obtain⟨c,rfl,j⟩:=j
 cases F
 exact not_of (Mu ⟨.bl (!c),H1,B,rfl,j⟩)
noncomputable def tIf(t:TT)(ta tb:TE):TE:=λσ H Q=>t σ H λc H1=>if c=N2 then ta σ H1 Q else tb σ H1 Q
theorem vU(z:PT X c tA)(B:PE X a ta)(F:PE X b tb):PE X (.IfExp c a b pos) (tIf tA ta tb):=by
 intro pins s σ H Q I h;refine wpAny_IfExp (thn (z pins s σ H _ I h) λd s1 G=>?_);obtain⟨H1,j,q⟩:=G
 cases d with
 |true=>exact B pins s1 σ H1 Q j q
 |false=>exact F pins s1 σ H1 Q j q
end
end
variable{K:Frag}{tg:Expr}{ta:TA}{body:List Stmt}
section
def SqL(K:Frag)(H:Hp)(a:Ub)(xs:List V):Prop:=
 Rd H a (.lst xs) ∨
  ∃(o:Obj) (its:Array hH) (n:Nat),K.lookup a=Z o/\o.cls=.type "list"/\o.dict=Y/\o.data=.seq its n/\its.size<=J9/\Vals xs its.toList
def SqT(K:Frag)(H:Hp)(a:Ub)(xs:List V):Prop:=
 Rd H a (.tup xs) ∨
  ∃(o:Obj) (its:Array hH) (n:Nat),K.lookup a=Z o/\o.cls=.type "tuple"/\o.data=.seq its n/\its.size<=J9/\Vals xs its.toList
noncomputable def E7:hH->Option V
 |.none=>Z .non
 |.bool b=>Z (.bl b)
 |.int i _=>Z (.int i)
 |.str x _=>Z (.str x)
 |.bytes b _=>Z (.byt b)
 |.float b _=>Z (.flt b)
 |.ref a=>Z (.ref a)
 |.type n=>Z (.ty n)
 |_=>Y
theorem RelV.abs{x:V}(r:RelV x u):E7 u=Z x:=by
 cases x with
 |non=>cases r;rfl
 |bl _=>cases r;rfl
 |int _=>obtain⟨t,rfl⟩:=r;rfl
 |str _=>obtain⟨t,rfl⟩:=r;rfl
 |byt _=>obtain⟨t,rfl⟩:=r;rfl
 |flt _=>obtain⟨t,rfl⟩:=r;rfl
 |ref _=>cases r;rfl
 |ty _=>cases r;rfl
theorem RelV.inj{x y:V}(r:RelV x u)(q:RelV y u):x=y:=JO.inj (r.abs.symm.trans q.abs)
theorem Vals.inj:∀{xs ys:List V} {us:List hH},Vals xs us->Vals ys us->xs=ys
 |_,_,_,.nil,.nil=>rfl
 |_,_,_,.cons r t,.cons r' t'=>by rw[r.inj r',Vals.inj t t']
section
variable{X:Cx}{pins:List (Ub×Obj)}{σ:St}{H:Hp}{s:I7}{a:Ub}{xs ys:List V}
theorem SqL.of(h:H a=Z (.lst xs)):SqL K H a xs:=.inl (.inl h)
theorem SqT.of(h:H a=Z (.tup xs)):SqT K H a xs:=.inl (.inl h)
theorem Inv.list(I:Inv X pins σ H s)(h:SqL X.K H a xs):∃its:List hH,Vals xs its/\PlainL s.heap a its.toArray/\xs.length<=J9:=by
 rcases h with h|⟨o,its,n,j,q,hd,hs,B,r⟩
 ·obtain⟨z,its,n,r,e⟩:=h.ok I.hok;exact⟨its,r,⟨_,n,e,rfl,rfl,rfl⟩,z⟩
 ·refine⟨its.toList,r,⟨o,n,I.kIn a o j,q,hd,by simpa using hs⟩,?_⟩
  have e:=r.length;simp only[Jy]at e;lia
theorem Inv.tuple(I:Inv X pins σ H s)(h:SqT X.K H a xs):∃its:List hH,Vals xs its/\IsTup s.heap a its.toArray/\xs.length<=J9:=by
 rcases h with h|⟨o,its,n,j,q,hs,B,r⟩
 ·obtain⟨z,its,r,p⟩:=h.ok I.hok;exact⟨its,r,p,z⟩
 ·refine⟨its.toList,r,⟨o,I.kIn a o j,q,n,by simpa using hs⟩,?_⟩
  have e:=r.length;simp only[Jy]at e;lia
theorem Inv.list_inj(I:Inv X pins σ H s)(h:SqL X.K H a xs)(h':SqL X.K H a ys):xs=ys:=by
 obtain⟨its,r,⟨o,n,e,_,_,d⟩,_⟩:=I.list h;obtain⟨its',r',⟨o',n',e',_,_,d'⟩,_⟩:=I.list h';rw[e]at e';cases e';rw[d]at d'
 injection d' with d1 _
 have:its=its':=by simpa using congrArg Q7 d1
 subst this;exact r.inj r'
theorem Inv.tuple_inj(I:Inv X pins σ H s)(h:SqT X.K H a xs)(h':SqT X.K H a ys):xs=ys:=by
 obtain⟨its,r,⟨o,e,_,n,d⟩,_⟩:=I.tuple h;obtain⟨its',r',⟨o',e',_,n',d'⟩,_⟩:=I.tuple h';rw[e]at e';cases e';rw[d]at d'
 injection d' with d1 _
 have:its=its':=by simpa using congrArg Q7 d1
 subst this;exact r.inj r'
end
noncomputable abbrev Cx.wish(X:Cx)(E:hH->I7->Prop):Cx:={X with xe:=E}
noncomputable abbrev Cx.nox(X:Cx):Cx:=X.wish λ_ _=>False
theorem Cx.Ok.wish(ok:X.Ok)(E:hH->I7->Prop):(X.wish E).Ok:=⟨ok.mod,ok.kind,ok.glob,ok.blt,ok.above,ok.inj,ok.has,ok.cab,ok.hd,ok.frames,ok.stk,ok.exf,ok.bs,ok.bsz,ok.noex,ok.exfs,ok.funs,ok.frf⟩
theorem Cx.Ok.unwish{E:hH->I7->Prop}(ok:(X.wish E).Ok):X.Ok:=⟨ok.mod,ok.kind,ok.glob,ok.blt,ok.above,ok.inj,ok.has,ok.cab,ok.hd,ok.frames,ok.stk,ok.exf,ok.bs,ok.bsz,ok.noex,ok.exfs,ok.funs,ok.frf⟩
section
variable{X:Cx}{pins:List (Ub×Obj)}{σ:St}{H:Hp}{s:I7}{E:hH->I7->Prop}
theorem Inv.wish(I:Inv X pins σ H s)(E:hH->I7->Prop):Inv (X.wish E) pins σ H s:=⟨I.ok.wish E,I.os,I.bare,I.base,I.loc,I.cell,I.free,I.freeC,I.pin,I.hok,I.len⟩
theorem Inv.unwish(I:Inv (X.wish E) pins σ H s):Inv X pins σ H s:=⟨I.ok.unwish,I.os,I.bare,I.base,I.loc,I.cell,I.free,I.freeC,I.pin,I.hok,I.len⟩
theorem SP.unwish{D:bN}{f:Flow}{s':I7}(h:SP (X.wish E) pins D f s'):SP X pins D f s':=by
 cases f with
 |next=>obtain⟨σ',H',I,q⟩:=h;exact⟨σ',H',I.unwish,q⟩
 |brk=>obtain⟨σ',H',I,q⟩:=h;exact⟨σ',H',I.unwish,q⟩
 |cont=>obtain⟨σ',H',I,q⟩:=h;exact⟨σ',H',I.unwish,q⟩
 |ret u=>obtain⟨v,σ',H',I,r,q⟩:=h;exact⟨v,σ',H',I.unwish,r,q⟩
theorem PSs.nox{st:List Stmt}{t:TS}(h:PSs X.nox st t):PSs X st t:=λpins s σ H D I hw=>LA (h pins s σ H D (I.wish _) hw) (λ_ _ q=>q.unwish) λ_ _ z=>False.elim z
end
section
variable{X:Cx}{st:Stmt}{rest:List Stmt}{t u:TS}{e:Expr}{te:TE}{pos:Pos}
noncomputable def qZ:TS:=λD σ H=>D.nx σ H
noncomputable def AY(t u:TS):TS:=λD σ H=>t {D with nx:=u D} σ H
theorem yY:PSs X [] qZ:=λ_ _ σ H _ I h=>Qo ⟨σ,H,I,h⟩
theorem vW(h1:PS X st t)(h2:PSs X rest u):PSs X (st::rest) (AY t u):=by
 intro pins s σ H D I h;refine wpAny_execs_cons (thn (h1 pins s σ H {D with nx:=u D} I h) λf s1 q=>?_)
 cases f with
 |next=>obtain⟨σ',H',I',q⟩:=q;exact h2 pins s1 σ' H' D I' q
 |ret v=>exact q
 |brk=>exact q
 |cont=>exact q
noncomputable def tu:TS:=λD σ H=>D.bk σ H
noncomputable def yg:TS:=λD σ H=>D.ct σ H
theorem yZ:PS X (.Pass pos) qZ:=λ_ _ σ H _ I h=>wpAny_Pass ⟨σ,H,I,h⟩
theorem vX:PS X (.Break pos) tu:=λ_ _ σ H _ I h=>wpAny_Break ⟨σ,H,I,h⟩
theorem pN:PS X (.Continue pos) yg:=λ_ _ σ H _ I h=>wpAny_Continue ⟨σ,H,I,h⟩
theorem Inv.quiet(I:Inv X pins σ H s):interactive X.env=Ua:=by simp[interactive,I.ok.kind]
noncomputable def yh(te:TE):TS:=λD σ H=>te σ H λ_ H1=>D.nx σ H1
theorem z9(he:PE X e te)(hs:NL e Y pos.line X.env=pure Ua:=by rfl):PS X (.Expr e pos) (yh te):=by intro pins s σ H D I h;exact wpAny_Expr_any (thn (he pins s σ H _ I h) λv s1 j=>(by obtain⟨x,H1,q,B,z⟩:=j;exact⟨σ,H1,q,z⟩)) I.quiet hs
noncomputable def AZ(te:TE):TS:=λD σ H=>te σ H D.rt
theorem B0(he:PE X e te):PS X (.Return (Z e) pos) (AZ te):=by intro pins s σ H D I h;exact wpAny_Return_some (thn (he pins s σ H _ I h) λv s1 j=>(by obtain⟨x,H1,q,z,B⟩:=j;exact⟨x,σ,H1,q,z,B⟩))
noncomputable def B1(c:TT)(t u:TS):TS:=λD σ H=>c σ H λb H1=>if b=N2 then t D σ H1 else u D σ H1
theorem CW{a b:List Stmt}{tc:TT}(z:PT X c tc)(B:PSs X a t)(F:PSs X b u):PS X (.If c a b pos) (B1 tc t u):=by
 intro pins s σ H D I h;refine wpAny_If (thn (z pins s σ H _ I h) λd s1 G=>?_);obtain⟨H1,j,q⟩:=G
 cases d with
 |true=>exact B pins s1 σ H1 D j q
 |false=>exact F pins s1 σ H1 D j q
end
noncomputable abbrev TG:=V->St->Hp->(St->Hp->Prop)->Prop
noncomputable abbrev TGs:=List V->St->Hp->(St->Hp->Prop)->Prop
def PG(X:Cx)(target:Expr)(t:TG):Prop:=
 ∀(pins:List (Ub×Obj)) (s:I7) (σ:St) (H:Hp) (v:V) (u:hH) (Q:St->Hp->Prop),Inv X pins σ H s->RelV v u->t v σ H Q->
  Jm (model X.prog X.w) X.A (assign target X.env u) (λ_ s'=>∃σ' H',Inv X pins σ' H' s'/\Q σ' H') X.xe s
def PGs(X:Cx)(ts:List Expr)(t:TGs):Prop:=
 ∀(pins:List (Ub×Obj)) (s:I7) (σ:St) (H:Hp) (vs:List V) (us:List hH) (Q:St->Hp->Prop),Inv X pins σ H s->Vals vs us->t vs σ H Q->
  Jm (model X.prog X.w) X.A (Rc ((LB ts X.env).map (·.2)) us) (λ_ s'=>∃σ' H',Inv X pins σ' H' s'/\Q σ' H') X.xe s
noncomputable abbrev r6:=V->V->V->Hp->(Hp->Prop)->Prop
def PSet(X:Cx)(t:r6):Prop:=
 ∀(pins:List (Ub×Obj)) (s:I7) (σ:St) (H:Hp) (o i v:V) (ov iv u:hH) (Q:Hp->Prop),Inv X pins σ H s->RelV o ov->RelV i iv->RelV v u->t o i v H Q->
  Jm (model X.prog X.w) X.A (setItem ov iv u) (λ_ s'=>∃H',Inv X pins σ H' s'/\Q H') X.xe s
noncomputable abbrev TIp:=V->V->Hp->VK->Prop
def PIp(X:Cx)(op:NQ)(t:TIp):Prop:=
 ∀(pins:List (Ub×Obj)) (s:I7) (σ:St) (H:Hp) (x y:V) (v u:hH) (Q:VK),Inv X pins σ H s->RelV x v->RelV y u->t x y H Q->
  Jm (model X.prog X.w) X.A (NM op v u) (EP X pins σ Q) X.xe s
section
variable{X:Cx}{pos:Pos}
noncomputable def j5(i:Nat):TG:=λv σ H Q=>Q (σ.set i (Z v)) H
theorem qa(j:X.N.Nodup)(hi:X.N[i]?=Z x)(hx:Loc X.env.scope x)(hf:X.fn x=N2∨X.env.scope.names.lookup x=Z .local:=by first|exact .inl rfl|exact .inr rfl|assumption):PG X (.Name x pos) (j5 i):=by intro pins s σ H v u Q I r h;exact wpAny_assign_Name (fy I j hi hx r (λs' I'=>⟨_,H,I',h⟩) hf)
noncomputable def E8:TGs:=λvs σ H Q=>vs=[]/\Q σ H
noncomputable def CY(t:TG)(u:TGs):TGs:=λvs σ H Q=>∃v r,vs=v::r/\t v σ H λσ' H'=>u r σ' H' Q
theorem zc:PGs X [] E8:=by
 intro pins s σ H vs us Q I r h;obtain⟨e,h⟩:=h;subst e
 cases r
 exact RI ⟨σ,H,I,h⟩
theorem vY{es:List Expr}{t:TG}{u:TGs}(h1:PG X e t)(h2:PGs X es u)(hs:(LB (e::es) X.env).map (·.2)=assign e X.env::(LB es X.env).map (·.2):=by rfl):PGs X (e::es) (CY t u):=by
 intro pins s σ H vs us Q I r h;obtain⟨v,vr,j,h⟩:=h;subst j
 cases r with
 |cons r rr=>rw[hs];refine P1 (thn (h1 pins s σ H _ _ _ I r h) λ_ s1 q=>?_);obtain⟨σ1,H1,z,B⟩:=q;exact h2 pins s1 σ1 H1 _ _ Q z rr B
noncomputable def E9(K:Frag)(n:Nat)(t:TGs):TG:=λv σ H Q=>∃a xs,v=.ref a/\SqT K H a xs/\xs.length=n/\t xs σ H Q
theorem B2{es:List Expr}{k:Nat}{t:TGs}{n:Nat}(q:X.calm=N2)(h:PGs X es t)(z:(LB es X.env).length=n:=by rfl)(j:(LB es X.env).findIdx? (·.1)=Y:=by rfl):PG X (.Tuple es k pos) (E9 X.K n t):=by
 intro pins s σ H v u Q I r hw;obtain⟨a,xs,B,F,G,hw⟩:=hw;subst B
 cases r
 obtain⟨its,rv,J,O⟩:=I.tuple F;refine assign_Tuple_tuple (I.ok.hd q) J (by simp[z,<-G,rv.length]) j λh' hx=>?_
 have L:Inv X pins σ H {s with heap:=h'}:=I.kept (t':=s.toks) λb o e=>hx b o (JU (Jl e)) e
 exact h pins _ σ H xs _ Q L (by simpa using rv) hw
noncomputable def Ea(to ti:TE)(t:r6):TG:=λv σ H Q=>to σ H λo H1=>ti σ H1 λi H2=>t o i v H2 λH3=>Q σ H3
theorem B3 {o i:Expr}{to ti:TE}{t:r6}(ho:PE X o to)(hi:PE X i ti)(hs:PSet X t)(q:∀v,assign (.Subscript o i pos) X.env v=(do
   let ov <-holding [v] (eval o X.env)
   let iv <-holding [v,ov] (eval i X.env)
   Pt pos
   holding [v,ov,iv] (setItem ov iv v)
   release [v,ov,iv] []):=by intro _;rfl):PG X (.Subscript o i pos) (Ea to ti t):=by
 intro pins s σ H v u Q I r h;rw[q];refine gV (Kj (thn (ho pins s σ H _ I h) λov s1 j=>?_));obtain⟨x,H1,z,B,F⟩:=j;refine gV (Kj (thn (hi pins s1 σ H1 _ z F) λiv s2 j=>?_));obtain⟨y,H2,G,J,L⟩:=j;refine gV (Nc (gV (Kj (thn (hs pins s2 σ H2 x y v ov iv u _ G B J r L) λ_ s3 j=>?_))));obtain⟨O,U,F2⟩:=j;exact wpAny_release ⟨σ,O,U,F2⟩
noncomputable def r8(te:TE)(g:TG):TS:=λD σ H=>te σ H λx H1=>g x σ H1 D.nx
theorem tw{te:TE}{g:TG}(he:PE X e te)(j:PG X tg g)(hs:Ny [tg] e pos.line X.env=pure Ua:=by rfl)(hw:My [tg] e X.env=pure Y:=by rfl)(h1:(LB [tg] X.env).map (·.2)=[assign tg X.env]:=by rfl):PS X (.Assign [tg] e pos) (r8 te g):=by intro pins s σ H D I h;refine wpAny_Assign_stores (thn (he pins s σ H _ I h) λv s1 g9=>?_) hs hw;obtain⟨x,H1,z,B,F⟩:=g9;rw[h1];exact thn (j pins s1 σ H1 x v _ z B F) λ_ s2 q=>q
noncomputable def B4(i j:Nat)(ta:TA):TS:=λD σ H=>ta σ H λvs H1=>∃v w,vs=[v,w]/\D.nx ((σ.set i (Z v)).set j (Z w)) H1
theorem B5{j:Nat}{y:Str}{a b:Expr}{px py pt:Pos}{kt G z}(hc:X.calm=N2)(U:X.N.Nodup)(hi:X.N[i]?=Z x)(hj:X.N[j]?=Z y)(J:i≠j)(hx:X.env.scope.names.lookup x=Z .local)(F2:X.env.scope.names.lookup y=Z .local)(ha:PA X [a,b] ta)(hw:My [.Tuple [.Name x px,.Name y py] kt pt] (.Tuple [a,b] G z) X.env=pure (Z [x,y]))(hs:Ny [.Tuple [.Name x px,.Name y py] kt pt] (.Tuple [a,b] G z) pos.line X.env=pure Ua:=by rfl):
 PS X (.Assign [.Tuple [.Name x px,.Name y py] kt pt] (.Tuple [a,b] G z) pos) (B4 i j ta):=by
 intro pins s σ H D I h;rw[exec_Assign_arm];refine gV (Nc ?_);rw[hs];refine gV (D2 ?_);rw[if_neg (by decide)]
 refine gV (Tuple_ (thn (ha _ pins s σ H _ I h) λus s1 g9=>?_));obtain⟨vs,H1,I1,r1,L⟩:=g9;obtain⟨v,w,e1,L⟩:=L;subst e1;obtain⟨B,F,rfl,rv,rw'⟩:∃B F,us=[B,F]/\RelV v B/\RelV w F:=by
  cases r1 with
  |cons p q=>
   cases q with
   |cons p' q'=>
    cases q'
    exact⟨_,_,rfl,p,p'⟩
 refine L9 ?_ (by show 2<=J9;decide)
 have I2:Inv X pins σ H1 {s1 with heap:=s1.heap.push {cls:=.type "tuple",data:=.seq [B,F].toArray}}:=I1.kept (t':=s1.toks) λb o e=>D0 _ e
 rw[hw];refine gV (D2 ?_);show Jm (model X.prog X.w) X.A (do rule "assign.swapped-stores";let items <-unpackItems (.ref s1.heap.objs.size) 2 Y;Rc [λv=>Tc X.env y v,λv=>Tc X.env x v] items.reverse;pure Flow.next) _ _ _
 refine gV (Ll (gV (unpackItems_tuple (items:=#[B,F]) (I.ok.hd hc) (OZ s1.heap _) λh' O=>?_)));have I3:=I2.kept (h':=h') (t':=s1.toks) λb o e=>O b o (JU (Jl e)) e;show Jm _ _ (Rc [λv=>Tc X.env y v,λv=>Tc X.env x v] [F,B]>>=λ_=>pure Flow.next) _ _ _;refine gV (P1 (wpAny_bindName (fy I3 U hj (.inl F2) rw' (λs2 I4=>?_) (.inr F2))));refine P1 (wpAny_bindName (fy I4 U hi (.inl hx) rv (λs3 fv=>RI (D2 ?_)) (.inr hx)));rw[List.set_comm _ _ (Ne.symm J)]at fv;exact⟨_,H1,fv,L⟩
noncomputable def Eb(i:Nat)(te:TE)(ti:TIp):TS:=λD σ H=>∃x,σ[i]?=Z (Z x)/\te σ H λy H1=>ti x y H1 λz H2=>D.nx (σ.set i (Z z)) H2
theorem B6{te:TE}{op:NQ}{ti:TIp}{pos':Pos}(F:X.N.Nodup)(hi:X.N[i]?=Z x)(hx:Loc X.env.scope x)(he:PE X e te)(ho:PIp X op ti)(hf:X.fn x=N2∨X.env.scope.names.lookup x=Z .local:=by first|exact .inl rfl|exact .inr rfl|assumption):
 PS X (.AugAssign (.Name x pos') op e pos) (Eb i te ti):=by
 intro pins s σ H D I h;obtain⟨v,G,h⟩:=h;obtain⟨m,J,L⟩:=I.loc;have vis:Vis X.env.scope x:=by rcases hx with k|k;exact .inl k;exact .inr (.inl k)
 obtain⟨u,r,l⟩:=L i x v hi G vis;refine wpAny_AugAssign_Name ?_;have go:Jm (model X.prog X.w) X.A (eval e X.env) (λw s₂=>Jm (model X.prog X.w) X.A (NM op u w) (λr s₃=>Jm (model X.prog X.w) X.A (storeName X.env x r) (λ_=>SP X pins D .next) X.xe s₃) X.xe s₂) X.xe s:=by refine thn (he pins s σ H _ I h) λw s1 B=>?_;obtain⟨y,H1,O,U,F2⟩:=B;refine thn (ho pins s1 σ H1 v y u w _ O r U F2) λz s2 B=>?_;obtain⟨zv,H2,fv,r2,q2⟩:=B;exact fy fv F hi hx r2 (λs3 I3=>⟨_,H2,I3,q2⟩) hf
 rcases l with⟨j,hm⟩|⟨j,c,hc,q⟩
 ·exact QB I.ok.kind j J hm go
 ·rcases j with j|j
  ·exact R6 I.ok.kind j hc q go
  ·rcases hx with k|k
   ·have:X.env.scope.names.lookup x=Z .free:=j;rw[k]at this;cases this
   ·have:X.env.scope.names.lookup x=Z .free:=j;rw[k]at this;cases this
end
section
variable{X:Cx}{pos:Pos}
noncomputable def tz(c:TT)(tb:TS):TS:=λD σ H=>∃W:Nat->St->Hp->Prop,(∃m,W m σ H)/\∀m σ H,W m σ H->
 c σ H λb H1=>if b=N2 then ∃N:St->Hp->Prop,(∀σ' H',N σ' H'->∃m',m'<m/\W m' σ' H')/\tb {D with nx:=N,ct:=N,bk:=D.nx} σ H1 else D.nx σ H1
theorem vZ{tc:TT}{tb:TS}(J:PassesOwn (model X.prog X.w) X.A X.env X.xe)(U:PT X c tc)(F2:PSs X body tb):PS X (.While c body [] pos) (tz tc tb):=by
 intro pins s σ H D I h;obtain⟨W,⟨m0,fv⟩,turn⟩:=h;refine wpAny_While (codeAny_whileLoop (λn s'=>∃σ' H',Inv X pins σ' H' s'/\W n σ' H') ?_ m0 ⟨σ,H,I,fv⟩);rintro n s1 ⟨σ1,H1,I1,w1⟩;refine Mn J (thn (U pins s1 σ1 H1 _ I1 (turn n σ1 H1 w1)) λb s2 g9=>?_);obtain⟨H2,L,q⟩:=g9
 cases b with
 |true=>
  obtain⟨N,O,q⟩:=q;rw[if_pos rfl];refine Mn J (thn (F2 pins s2 σ1 H2 _ L q) λf s3 z=>?_)
  cases f with
  |next=>obtain⟨σ3,j,B,F⟩:=z;obtain⟨m',hm,G⟩:=O σ3 j F;exact⟨m',hm,σ3,j,B,G⟩
  |cont=>obtain⟨σ3,j,B,F⟩:=z;obtain⟨m',hm,G⟩:=O σ3 j F;exact⟨m',hm,σ3,j,B,G⟩
  |brk=>exact z
  |ret v=>exact z
 |false=>rw[if_neg Jg];exact Qo ⟨σ1,H2,L,q⟩
end
structure It where
 go:Nat->Hp->Prop
 yld:Nat->Hp->V->Hp->Prop
 stop:Nat->Hp->Prop
def cj(X:Cx)(pins:List (Ub×Obj))(H:Hp)(b:Ub):Prop:=H b=Y/\b≠X.env.locals/\b∉X.fs/\(b∈X.ex∨X.s₀.heap.objs.size<=b)/\(∀x c,X.env.cells.lookup x=Z c->c≠b)/\∀p∈X.pn++pins,p.1≠b
theorem Inv.fpOk{H':Hp}(I:Inv X pins σ H s)(j:s.heap.objs.size<=b)(B:H' b=Y):cj X pins H' b:=by
 refine⟨B,Ma (JP I.lt j),I.nofs j,.inr (K0 I.sz j),λx c e z=>?_,λp F z=>?_⟩
 ·obtain⟨v,q⟩:=I.cell x c e;exact absurd (JP q.lt (by rw[z];exact j)) (La _)
 ·exact absurd (JP (Jl (I.pin p F).1) (by rw[z];exact j)) (La _)
structure fW(P:JB)(w:K1)(K:Frag)(tg:Expr)(J:It)(fp:List Ub)(it:Ub)(tn:Nat->Heap->Prop):Prop where
 mem:it∈fp
 obj:∀i h,tn i h->∀b∈fp,∃o,h.get? b=Z o/\∀v,o.data≠.cell v
 keep:∀i h h',tn i h->(∀b∈fp,∀o,h.get? b=Z o->h'.get? b=Z o)->tn i h'
 item:∀(X:Cx),X.prog=P->X.w=w->X.K=K->X.calm=N2->∀(i:Nat) (pins:List (Ub×Obj)) (s:I7) (σ:St) (H:Hp) (E:hH->I7->Prop),Inv X pins σ H s->(∀b∈fp,cj X pins H b)->tn i s.heap->J.go i H->
  Jm (model P w) X.A (NR (.ref it)) (λr s1=>∃u,r=Z u /\
   Jm (model P w) X.A (OG tg (.ref it) u) (λ_ s2=>∃x H',Inv X pins σ H' s2/\RelV x u/\J.yld i H x H'/\tn (i+1) s2.heap/\∀b∈fp,H' b=Y) E s1) E s
 done:∀(X:Cx),X.prog=P->X.w=w->X.K=K->X.calm=N2->∀(i:Nat) (pins:List (Ub×Obj)) (s:I7) (σ:St) (H:Hp) (E:hH->I7->Prop),Inv X pins σ H s->(∀b∈fp,cj X pins H b)->tn i s.heap->J.stop i H->
  Jm (model P w) X.A (NR (.ref it)) (λr s1=>r=Y/\Inv X pins σ H s1) E s
 self:∀(A:Kh) (i:Nat) (s:I7) (Q:hH->I7->Prop) (E:hH->I7->Prop),tn i s.heap->Q (.ref it) s->Jm (model P w) A (Rt (.ref it)) Q E s
noncomputable abbrev TI:=St->Hp->(It->Hp->Prop)->Prop
def PIE(X:Cx)(pins:List (Ub×Obj))(σ:St)(tg:Expr)(R:It->Hp->Prop)(itv:hH)(s2:I7):Prop:=∃(it:Ub) (fp:List Ub) (tn:Nat->Heap->Prop) (J:It) (H':Hp),itv=.ref it/\Inv X pins σ H' s2/\fW X.prog X.w X.K tg J fp it tn/\tn 0 s2.heap/\(∀b∈fp,cj X pins H' b)/\R J H'
def PI(X:Cx)(tg iter:Expr)(wi:TI):Prop:=
 ∀(pins:List (Ub×Obj)) (s:I7) (σ:St) (H:Hp) (R:It->Hp->Prop),Inv X pins σ H s->wi σ H R->
  Jm (model X.prog X.w) X.A (eval iter X.env) (λv s1=>Jm (model X.prog X.w) X.A (Rt v) (PIE X pins σ tg R) X.xe s1) X.xe s
theorem m8{E:hH->I7->Prop}{it:Ub}{o:Obj}{n:String}{vs:Array hH}{Q:Unit->I7->Prop}(ho:s.heap.get? it=Z o)(q:o.cls=.type n)(hd:o.data=.fields vs)(z:["enumerate","zip","dict_itemiterator","dict_reverseitemiterator","odict_iterator","itertools.zip_longest","itertools.pairwise"].contains n=Ua)(j:Q () s):Jm M A (OG tg (.ref it) u) Q E s:=by
 unfold OG
 cases tg<;>first
  |exact D2 j
  | (cases u<;>first
      |exact D2 j
      | (refine gV (wpAny_load ho ?_)
         rw[q,hd];show Jm M A (if(["enumerate","zip","dict_itemiterator","dict_reverseitemiterator","odict_iterator","itertools.zip_longest","itertools.pairwise"].contains n&&vs[0]?==Z (Pz _))=N2 then _ else _) Q E s
         rw[if_neg (by intro h;rw[z,P2]at h;cases h)]
         exact D2 j))
noncomputable def Itl(K:Frag)(a:Ub):It:=⟨λi H=>∃xs x,SqL K H a xs/\xs[i]?=Z x,λi H x H'=>H'=H/\∀xs,SqL K H a xs->xs[i]?=Z x,λi H=>∃xs,SqL K H a xs/\xs.length<=i⟩
noncomputable def Itt(K:Frag)(a:Ub):It:=⟨λi H=>∃xs x,SqT K H a xs/\xs[i]?=Z x,λi H x H'=>H'=H/\∀xs,SqT K H a xs->xs[i]?=Z x,λi H=>∃xs,SqT K H a xs/\xs.length<=i⟩
noncomputable def Itr(lo:Int)(n:Nat):It:=⟨λi _=>i<n,λi H x H'=>H'=H/\x=.int (lo+i),λi _=>n<=i⟩
theorem tD(a it:Ub):fW P w K tg (Itl K a) [it] it (λi h=>h.IsListIter it a i) where
 mem:=by simp
 obj:=λi h st b j=>by
  have e:b=it:=by simpa using j
  subst e;obtain⟨o,e,c,d⟩:=st;exact⟨o,e,λv z=>by rw[d]at z;cases z⟩
 keep:=λi h h' st k=>st.at λo e=>k it (by simp) o e
 item:=by
  intro X B hw F L i pins s σ H E I hf st hg;subst B hw F;obtain⟨xs,x,q,hx⟩:=hg;obtain⟨its,rv,p,O⟩:=I.list q;obtain⟨u,U,ru⟩:=rv.get hx;obtain⟨f0,f1,f2,G,f4,J⟩:=hf it (by simp)
  refine Q8 st p.isList (x:=u) (by simpa using U) λh' st' sb=>?_
  have F2:Inv X pins σ H {s with heap:=h'}:=I.turned (t':=s.toks) (λb o j e=>(sb.2 b j).trans e) f0 f1 G f4 J
  obtain⟨o,e,c,d⟩:=id st';exact⟨u,rfl,m8 (s:={s with heap:=h'}) e c d (by decide) ⟨x,H,F2,ru,⟨rfl,λys fv=>by rw[I.list_inj fv q];exact hx⟩,st',λb j=>(hf b j).1⟩⟩
 done:=by
  intro X B hw F L i pins s σ H E I hf st hg;subst B hw F;obtain⟨xs,q,hx⟩:=hg;obtain⟨its,rv,p,O⟩:=I.list q;obtain⟨f0,f1,f2,G,f4,J⟩:=hf it (by simp)
  have hl:=rv.length;exact Qt (I.ok.hd L) st p.isList (by simp;lia) λh' eb=>⟨rfl,I.turned (t':=s.toks) (λb o j e=>eb b o j e) f0 f1 G f4 J⟩
 self:=λ_ _ _ _ _ st h=>wpAny_pyIter_listiter st h
theorem r9(a it:Ub):fW P w K tg (Itt K a) [it] it (λi h=>h.IsTupleIter it a i) where
 mem:=by simp
 obj:=λi h st b j=>by
  have e:b=it:=by simpa using j
  subst e;obtain⟨o,e,c,d⟩:=st;exact⟨o,e,λv z=>by rw[d]at z;cases z⟩
 keep:=λi h h' st k=>st.at λo e=>k it (by simp) o e
 item:=by
  intro X B hw F L i pins s σ H E I hf st hg;subst B hw F;obtain⟨xs,x,q,hx⟩:=hg;obtain⟨its,rv,p,O⟩:=I.tuple q;obtain⟨u,U,ru⟩:=rv.get hx;obtain⟨f0,f1,f2,G,f4,J⟩:=hf it (by simp)
  refine wpAny_pyNext_tuple_item st (show s.heap.IsTuple a its.toArray from p) (x:=u) (by simpa using U) λh' st' sb=>?_
  have F2:Inv X pins σ H {s with heap:=h'}:=I.turned (t':=s.toks) (λb o j e=>(sb.2 b j).trans e) f0 f1 G f4 J
  obtain⟨o,e,c,d⟩:=id st';exact⟨u,rfl,m8 (s:={s with heap:=h'}) e c d (by decide) ⟨x,H,F2,ru,⟨rfl,λys fv=>by rw[I.tuple_inj fv q];exact hx⟩,st',λb j=>(hf b j).1⟩⟩
 done:=by
  intro X B hw F L i pins s σ H E I hf st hg;subst B hw F;obtain⟨xs,q,hx⟩:=hg;obtain⟨its,rv,p,O⟩:=I.tuple q;obtain⟨f0,f1,f2,G,f4,J⟩:=hf it (by simp)
  have hl:=rv.length;exact wpAny_pyNext_tuple_end (I.ok.hd L) st (show s.heap.IsTuple a its.toArray from p) (by simp;lia) λh' eb=>⟨rfl,I.turned (t':=s.toks) (λb o j e=>eb b o j e) f0 f1 G f4 J⟩
 self:=λ_ _ _ _ _ st h=>wpAny_pyIter_tupleiter st h
theorem rc(it:Ub)(lo:Int)(n:Nat):fW P w K tg (Itr lo n) [it] it (λi h=>IsRangeIter h it (lo+(i:Nat)*1) ((n:Int)-(i:Nat)) 1) where
 mem:=by simp
 obj:=λi h st b j=>by
  have e:b=it:=by simpa using j
  subst e;exact⟨_,st,λv z=>by
   have z':Data.fields _=Data.cell v:=z
   cases z'⟩
 keep:=λi h h' st k=>k it (by simp) _ st
 item:=by
  intro X q hw B F i pins s σ H E I hf st hg;subst q hw B;obtain⟨f0,f1,f2,G,f4,J⟩:=hf it (by simp)
  have W:=Walks.range (prog:=X.prog) (w:=X.w) (I.ok.hd F) it lo 1 n;refine W.item i s _ _ hg st λv h' tk L st' kk=>?_;obtain⟨t,rfl⟩:=L;have O:Inv X pins σ H {s with heap:=h',toks:=tk}:=I.turned (λb o j e=>kk b o (by simpa using j) e) f0 f1 G f4 J
  refine⟨_,rfl,m8 (s:={s with heap:=h',toks:=tk}) (n:="range_iterator") st' rfl rfl (by decide) ⟨.int (lo+i),H,O,⟨t,?_⟩,⟨rfl,rfl⟩,st',λb j=>(hf b j).1⟩⟩
  rw[Int.mul_one]
 done:=by
  intro X q hw B F i pins s σ H E I hf st hg;subst q hw B;obtain⟨f0,f1,f2,G,f4,J⟩:=hf it (by simp)
  exact wpAny_pyNext_range_end (I.ok.hd F) st (by have:n<=i:=hg;lia) λh' eb=>⟨rfl,I.turned (t':=s.toks) (λb o j e=>eb b o j e) f0 f1 G f4 J⟩
 self:=λ_ _ _ _ _ st h=>wpAny_pyIter_rangeiter st h
end
variable{fp:List Ub}
section
section
variable{X:Cx}{tg:Expr}
theorem mQ{R:It->Hp->Prop}{E:hH->I7->Prop}{lo hi:Int}{t u v:Tok}{tk:Nat}(I:Inv X pins σ H s)(h1:-(2^62)<=lo)(h2:lo<2^62)(z:-(2^62)<=hi)(B:hi<2^62)(q:R (Itr lo (hi-lo).toNat) H):Jm (model X.prog X.w) X.A (Rt (.ref s.heap.objs.size)) (PIE X pins σ tg R) E {s with heap:=s.heap.push {cls:=.type "range",data:=.fields #[.int lo t,.int hi u,.int 1 v]},toks:=tk}:=by
 refine wpAny_pyIter_range (IsRange.new ..) (small_one h1 h2 z B) ?_;have j:Inv X pins σ H {s with heap:=s.heap.push {cls:=.type "range",data:=.fields #[.int lo t,.int hi u,.int 1 v]},toks:=tk}:=I.kept λb o e=>D0 _ e
 refine⟨(s.heap.push {cls:=.type "range",data:=.fields #[.int lo t,.int hi u,.int 1 v]}).objs.size,[(s.heap.push {cls:=.type "range",data:=.fields #[.int lo t,.int hi u,.int 1 v]}).objs.size],_,_,H,rfl,
  j.kept (t':=tk) λb o e=>D0 _ e,rc _ lo (hi-lo).toNat,?_,λb F=>?_,q⟩
 ·have G:lo+((0:Nat):Int)*1=lo:=by simp
  have J:(((hi-lo).toNat:Nat):Int)-((0:Nat):Int)=Builtin.Range.rangeSize lo hi 1:=by rw[rangeSize_one];split<;>lia
  show IsRangeIter _ _ (lo+((0:Nat):Int)*1) ((((hi-lo).toNat:Nat):Int)-((0:Nat):Int)) 1;rw[G,J];exact Jf _ rfl
 ·have e:b=(s.heap.push {cls:=.type "range",data:=.fields #[.int lo t,.int hi u,.int 1 v]}).objs.size:=by simpa using F
  subst e;exact j.fpOk (J6 _) (j.hok.fresh (J6 _))
noncomputable def CZ(ta:TA):TI:=λσ H R=>ta σ H λvs H1=>∃j:Int,vs=[.int j] /\ -(2^62)<=j/\j<2^62/\R (Itr 0 j.toNat) H1
noncomputable def D3(ta:TA):TI:=λσ H R=>ta σ H λvs H1=>∃i j:Int,vs=[.int i,.int j]/\(-(2^62)<=i/\i<2^62 /\ -(2^62)<=j/\j<2^62)/\R (Itr i (j-i).toNat) H1
theorem tE{a:Expr}{p:Pos}(B:Gl X "range")(hm:X.mg "range"=Y)(F:PA X [a] ta)(hs:JJ [a] X.env=[(Ua,eval a X.env)]:=by rfl):PI X tg (.Call (.Name "range" p) [a] [] pos) (CZ ta):=by
 intro pins s σ H R I h;refine Call_ (eQ I B hm boot_range (Li (thn (F pos pins s σ H _ I h) λus s1 g9=>?_) hs rfl));obtain⟨vs,H1,G,J,z⟩:=g9;obtain⟨j,e,z,L,q⟩:=z;subst e
 cases J with
 |cons r rr=>
  cases rr
  obtain⟨t,rfl⟩:=r;exact call_range_1 (mQ G ∅ ∅ z L (by simpa using q))
theorem tF{a b:Expr}{p:Pos}(F:Gl X "range")(hm:X.mg "range"=Y)(G:PA X [a,b] ta)(hs:JJ [a,b] X.env=[(Ua,eval a X.env),(Ua,eval b X.env)]:=by rfl)(z:JJ [b] X.env=[(Ua,eval b X.env)]:=by rfl):
 PI X tg (.Call (.Name "range" p) [a,b] [] pos) (D3 ta):=by
 intro pins s σ H R I h;refine Call_ (eQ I F hm boot_range (Li (thn (G pos pins s σ H _ I h) λus s1 g9=>?_) (by rw[hs,z]) (by rw[z];rfl)));obtain⟨vs,H1,J,L,B⟩:=g9
 obtain⟨i,j,e,⟨B,O,U,F2⟩,q⟩:=B;subst e
 cases L with
 |cons r rr=>
  cases rr with
  |cons r' rr=>
   cases rr
   obtain⟨t,rfl⟩:=r;obtain⟨t',rfl⟩:=r';exact call_range_2 (mQ J B O U F2 q)
noncomputable def B7(wi:TI)(g:TG)(tb:TS):TS:=λD σ H=>wi σ H λJ H1=>∃W:Nat->Nat->St->Hp->Prop,(∃m,W 0 m σ H1)/\∀i m σ H,W i m σ H->
 (J.stop i H/\D.nx σ H)∨(J.go i H/\∃N:St->Hp->Prop,(∀σ' H',N σ' H'->∃m',m'<m/\W (i+1) m' σ' H')/\∀x H',J.yld i H x H'->g x σ H' λσ2 H2=>tb {D with nx:=N,ct:=N,bk:=D.nx} σ2 H2)
noncomputable def j6(fp:List Ub)(h:Heap):List (Ub×Obj):=fp.filterMap λb=>(h.get? b).map λo=>(b,o)
theorem dh{o:Obj}(j:b∈fp)(e:h.get? b=Z o):(b,o)∈j6 fp h:=Ru.mpr ⟨b,j,by rw[e];rfl⟩
theorem tG{p:Ub×Obj}(j:p∈j6 fp h):p.1∈fp/\h.get? p.1=Z p.2:=by
 obtain⟨b,z,e⟩:=Ru.mp j
 cases q:h.get? b with
 |none=>rw[q]at e;cases e
 |some o=>rw[q]at e;have e':(b,o)=p:=JO.inj e;subst e';exact⟨z,q⟩
theorem Inv.pinned(I:Inv X pins σ H s)(hf:∀b∈fp,cj X pins H b)(ho:∀b∈fp,∃o,s.heap.get? b=Z o/\∀v,o.data≠.cell v):Inv X (pins++j6 fp s.heap) σ H s:=
 I.pins_of λp q=>(Ja.mp q).elim (λz=>I.pin p (Jx _ z)) λz=>by obtain⟨j,e⟩:=tG z;obtain⟨f0,f1,f2,_⟩:=hf p.1 j;obtain⟨o,e',d⟩:=ho p.1 j;rw[e]at e';cases e';exact⟨e,f0,f1,f2,d⟩
theorem Inv.unpinned{pl:List (Ub×Obj)}(I:Inv X (pins++pl) σ H s):Inv X pins σ H s:=I.pins_of λp j=>I.pin p (Jx _ (L4 _ j))
theorem B8{iter:Expr}{wi:TI}{g:TG}{tb:TS}(L:PassesOwn (model X.prog X.w) X.A X.env X.xe)(hc:X.calm=N2)(hi:PI X tg iter wi)(hg:PG X tg g)(j:PSs X body tb)(hs:∀x,LO iter X.env x=pure x:=by intro _;rfl):PS X (.For tg iter body [] pos) (B7 wi g tb):=by
 intro pins s σ H D I h;refine wpAny_For (thn (hi pins s σ H _ I h) λv s1 h1=>thn h1 λitv s2 h2=>?_) hs;obtain⟨it,fp,tn,J,H2,e,I2,T,GA,f2,W,⟨m0,w0⟩,turn⟩:=h2;subst e;have stat:∀{H':Hp},(∀b∈fp,H' b=Y)->∀b∈fp,cj X pins H' b:=λhn b j=>⟨hn b j,(f2 b j).2⟩;refine codeAny_forLoop_any (λn s'=>∃i σ' H',Inv X pins σ' H' s'/\tn i s'.heap/\(∀b∈fp,H' b=Y)/\W i n σ' H') ?_ m0 ⟨0,σ,H2,I2,GA,λb j=>(f2 b j).1,w0⟩;rintro n s3 ⟨i,σ3,fv,I3,O,U,w3⟩
 rcases turn i n σ3 fv w3 with⟨stop,qn⟩|⟨go,N,hN,step⟩
 ·refine Mn L (thn (T.done X rfl rfl rfl hc i pins s3 σ3 fv X.xe I3 (stat U) O stop) λr s4 F=>?_);obtain⟨hr,I4⟩:=F;subst hr;exact Qo ⟨σ3,fv,I4,qn⟩
 ·refine Mn L (thn (T.item X rfl rfl rfl hc i pins s3 σ3 fv X.xe I3 (stat U) O go) fun r s4 F=>?_);obtain⟨u,hr,h4⟩:=F;subst hr;refine Mn L (thn h4 fun _ s5 F=>?_);obtain⟨x,H5,I5,r5,y5,G,GB⟩:=F;have GC:=I5.pinned (stat GB) (T.obj _ _ G);refine Mn L (thn (hg _ s5 σ3 H5 x u _ GC r5 (step x H5 y5)) fun _ s6 F=>?_);obtain⟨σ6,H6,I6,q6⟩:=F;refine Mn L (thn (j _ s6 σ6 H6 _ I6 q6) fun f s7 B=>?_);have again:∀{σ7:St} {q:Hp},Inv X (pins++j6 fp s5.heap) σ7 q s7->N σ7 q->∃m,m<n/\∃i σ' H',Inv X pins σ' H' s7/\tn i s7.heap/\(∀b∈fp,H' b=Y)/\W i m σ' H':=fun {σ7 q} z F2=>by
   obtain⟨m',hm,w7⟩:=hN σ7 q F2;refine⟨m',hm,i+1,σ7,q,z.unpinned,T.keep _ _ _ G λb j o e=>(z.pin (b,o) (Jx _ (Jx _ (dh j e)))).1,λb j=>?_,w7⟩;obtain⟨o,e,d⟩:=T.obj _ _ G b j;exact(z.pin (b,o) (Jx _ (Jx _ (dh j e)))).2.1
  cases f with
  |next=>obtain⟨σ7,q,z,F2⟩:=B;exact again z F2
  |cont=>obtain⟨σ7,q,z,F2⟩:=B;exact again z F2
  |brk=>obtain⟨σ7,q,z,B⟩:=B;exact⟨σ7,q,z.unpinned,B⟩
  |ret v=>obtain⟨x7,σ7,q,z,r7,B⟩:=B;exact⟨x7,σ7,q,z.unpinned,r7,B⟩
end
end
variable{f:hH->hH->Sem hH}
section
noncomputable abbrev R2:=V->V->Hp->VK->Prop
def OpR(X:Cx)(f:hH->hH->Sem hH)(r:R2):Prop:=
 ∀(pins:List (Ub×Obj)) (s:I7) (σ:St) (H:Hp) (x y:V) (v u:hH) (Q:VK),Inv X pins σ H s->RelV x v->RelV y u->r x y H Q->
  Jm (model X.prog X.w) X.A (f v u) (EP X pins σ Q) X.xe s
def UnR(X:Cx)(f:hH->Sem hH)(r:V->Hp->VK->Prop):Prop:=
 ∀(pins:List (Ub×Obj)) (s:I7) (σ:St) (H:Hp) (x:V) (v:hH) (Q:VK),Inv X pins σ H s->RelV x v->r x H Q->
  Jm (model X.prog X.w) X.A (f v) (EP X pins σ Q) X.xe s
def CallR(X:Cx)(f:hH)(r:List V->Hp->VK->Prop):Prop:=
 ∀(pins:List (Ub×Obj)) (s:I7) (σ:St) (H:Hp) (xs:List V) (us:List hH) (Q:VK),Inv X pins σ H s->Vals xs us->r xs H Q->
  Jm (model X.prog X.w) X.A (call f us) (EP X pins σ Q) X.xe s
def Ec(X:Cx)(r:V->Hp->(Bool->Hp->Prop)->Prop):Prop:=
 ∀(pins:List (Ub×Obj)) (s:I7) (σ:St) (H:Hp) (x:V) (v:hH) (Q:Bool->Hp->Prop),Inv X pins σ H s->RelV x v->r x H Q->
  Jm (model X.prog X.w) X.A (truthy v) (TP X pins σ Q) X.xe s
noncomputable def tOp(r:R2)(ta tb:TE):TE:=λσ H Q=>ta σ H λx H1=>tb σ H1 λy H2=>r x y H2 Q
noncomputable def tUn(r:V->Hp->VK->Prop)(ta:TE):TE:=λσ H Q=>ta σ H λx H1=>r x H1 Q
noncomputable def rI(C:Int->Int->Prop)(g:Int->Int->V):R2:=λx y H Q=>∃i j,x=.int i/\y=.int j/\C i j/\Q (g i j) H
noncomputable def rI0(g:Int->Int->V):R2:=λx y H Q=>∃i j,x=.int i/\y=.int j/\Q (g i j) H
noncomputable def rU(g:Int->V):V->Hp->VK->Prop:=λx H Q=>∃i,x=.int i/\Q (g i) H
section
variable{X:Cx}{a b c:Expr}{ta tb tc:TE}{pos:Pos}
theorem w4(q:PE X a ta)(z:PE X b tb){R:V->V->Hp->Prop}(I:Inv X pins σ H s)(h:ta σ H λx H1=>tb σ H1 λy H2=>R x y H2){Q:hH->I7->Prop}(hf:∀v u s2 x y H2,Inv X pins σ H2 s2->RelV x v->RelV y u->R x y H2->Jm (model X.prog X.w) X.A (f v u) Q X.xe s2):
 Jm (model X.prog X.w) X.A (eval a X.env) (λv s₁=>Jm (model X.prog X.w) X.A (eval b X.env) (λu s₂=>Jm (model X.prog X.w) X.A (f v u) Q X.xe s₂) X.xe s₁) X.xe s:=by
 refine thn (q pins s σ H _ I h) λv s1 j=>?_;obtain⟨x,H1,B,F,G⟩:=j;refine thn (z pins s1 σ H1 _ B G) λu s2 j=>?_;obtain⟨y,H2,J,L,O⟩:=j;exact hf v u s2 x y H2 J F L O
theorem D4{op:NQ}{r:R2}(ho:OpR X (Lb op) r)(j:PE X a ta)(z:PE X b tb):PE X (.BinOp a op b pos) (tOp r ta tb):=by intro pins s σ H Q I h;exact wpAny_BinOp (w4 j z I h λv u s2 x y H2 B rx ry q=>ho pins s2 σ H2 x y v u Q B rx ry q)
theorem D5{op:UnaryOp}{r:V->Hp->VK->Prop}(ho:UnR X (unaryOp op) r)(j:PE X a ta):PE X (.UnaryOp op a pos) (tUn r ta):=by intro pins s σ H Q I h;exact UnaryOp_ (thn (j pins s σ H _ I h) λv s1 q=>(by obtain⟨x,H1,z,B,F⟩:=q;exact ho pins s1 σ H1 x v Q z B F))
theorem opI{C:Int->Int->Prop}{g:Int->Int->Int}(rule:∀(i j:Int) (t u:Tok) (s:I7) (Q:hH->I7->Prop) (E:hH->I7->Prop),C i j->Q (.int (g i j) s.toks) {s with toks:=s.toks+1}->Jm (model X.prog X.w) X.A (f (.int i t) (.int j u)) Q E s):
 OpR X f (rI C λi j=>.int (g i j)):=by
 intro pins s σ H x y v u Q I rx ry h;obtain⟨i,j,rfl,rfl,z,q⟩:=h;obtain⟨t,rfl⟩:=rx;obtain⟨t',rfl⟩:=ry;exact rule i j t t' s _ _ z ⟨.int (g i j),H,I.tok _,⟨_,rfl⟩,q⟩
theorem rf{g:Int->Int->Int}(rule:∀(i j:Int) (t u:Tok) (s:I7) (Q:hH->I7->Prop) (E:hH->I7->Prop),Q (.int (g i j) s.toks) {s with toks:=s.toks+1}->Jm (model X.prog X.w) X.A (f (.int i t) (.int j u)) Q E s):
 OpR X f (rI0 λi j=>.int (g i j)):=by
 intro pins s σ H x y v u Q I rx ry h;obtain⟨i,j,rfl,rfl,q⟩:=h;obtain⟨t,rfl⟩:=rx;obtain⟨t',rfl⟩:=ry;exact rule i j t t' s _ _ ⟨.int (g i j),H,I.tok _,⟨_,rfl⟩,q⟩
theorem rg{g:Int->Int->Bool}(rule:∀(i j:Int) (t u:Tok) (s:I7) (Q:hH->I7->Prop) (E:hH->I7->Prop),Q (.bool (g i j)) s->Jm (model X.prog X.w) X.A (f (.int i t) (.int j u)) Q E s):
 OpR X f (rI0 λi j=>.bl (g i j)):=by
 intro pins s σ H x y v u Q I rx ry h;obtain⟨i,j,rfl,rfl,q⟩:=h;obtain⟨t,rfl⟩:=rx;obtain⟨t',rfl⟩:=ry;exact rule i j t t' s _ _ ⟨.bl (g i j),H,I,rfl,q⟩
def Ed(i j:Int):Prop:=0<=j/\j<=1000000/\i.natAbs<2^64
theorem op_add:OpR X (Lb .Add) (rI0 λi j=>.int (i+j)):=rf λ_ _ _ _ _ _ _ q=>add_int q
theorem B9:OpR X (Lb .Sub) (rI0 λi j=>.int (i-j)):=rf λ_ _ _ _ _ _ _ q=>sub_int q
theorem Ba:OpR X (Lb .Mod) (rI (λ_ j=>0<j) λi j=>.int (i%j)):=opI λi j _ _ _ _ _ z q=>by have h1:(0:Int)<j:=z;exact mod_int' ∅ (by rw[Int.fmod_eq_emod_of_nonneg i ∅];exact q)
theorem Bb:OpR X (Lb .Pow) (rI Ed λi j=>.int (i^j.toNat)):=opI λ_ _ _ _ _ _ _ z q=>pow_int_small z.1 z.2.1 z.2.2 q
theorem zd:OpR X (NM .Add) (rI0 λi j=>.int (i+j)):=rf λ_ _ _ _ _ _ _ q=>iadd_int q
theorem ze:OpR X (NM .Sub) (rI0 λi j=>.int (i-j)):=rf λ_ _ _ _ _ _ _ q=>isub_int q
theorem unI{f:hH->Sem hH}{g:Int->Int}(rule:∀(i:Int) (t:Tok) (s:I7) (Q:hH->I7->Prop) (E:hH->I7->Prop),Q (.int (g i) s.toks) {s with toks:=s.toks+1}->Jm (model X.prog X.w) X.A (f (.int i t)) Q E s):
 UnR X f (rU λi=>.int (g i)):=by
 intro pins s σ H x v Q I rx h;obtain⟨i,rfl,q⟩:=h;obtain⟨t,rfl⟩:=rx;exact rule i t s _ _ ⟨.int (g i),H,I.tok _,⟨_,rfl⟩,q⟩
theorem Bc:UnR X (unaryOp .USub) (rU λi=>.int (-i)):=unI λ_ _ _ _ _ q=>neg_int q
end
section
variable{X:Cx}{a b c:Expr}{ta tb tc:TE}{pos:Pos}
theorem D6:OpR X (KN .Lt) (rI0 λi j=>.bl (decide (i<j))):=rg λ_ _ _ _ _ _ _ q=>lt_int q
theorem D7:OpR X (KN .LtE) (rI0 λi j=>.bl (decide (i<=j))):=rg λ_ _ _ _ _ _ _ q=>le_int q
theorem D8:OpR X (KN .Gt) (rI0 λi j=>.bl (decide (j<i))):=rg λ_ _ _ _ _ _ _ q=>gt_int q
theorem D9:OpR X (KN .GtE) (rI0 λi j=>.bl (decide (j<=i))):=rg λ_ _ _ _ _ _ _ q=>ge_int q
theorem OpR.or{r r':R2}(h:OpR X f r)(h':OpR X f r'):OpR X f (λx y H Q=>r x y H Q∨r' x y H Q):=by
 intro pins s σ H x y v u Q I rx ry q
 rcases q with q|q
 ·exact h pins s σ H x y v u Q I rx ry q
 ·exact h' pins s σ H x y v u Q I rx ry q
theorem zf{op:CmpOp}{r:R2}(ho:OpR X (KN op) r)(j:PE X a ta)(z:PE X b tb)(hm:Nz op b=Ua):PE X (.Compare a [op] [b] pos) (tOp r ta tb):=by intro pins s σ H Q I h;exact wpAny_Compare1 (w4 j z I h λv u s2 x y H2 B rx ry q=>ho pins s2 σ H2 x y v u Q B rx ry q) hm
noncomputable def yi(t:TE):TT:=λσ H Q=>t σ H λx H'=>∃k,x=.bl k/\Q k H'
theorem zg{op:CmpOp}{r:R2}(ho:OpR X (KN op) r)(j:PE X a ta)(q:PE X b tb)(hm:Nz op b=Ua):PT X (.Compare a [op] [b] pos) (yi (tOp r ta tb)):=by
 intro pins s σ H Q I h;refine wpAny_isTrue_Compare1 (thn (j pins s σ H _ I h) λv s1 ⟨x,H1,B,F,G⟩=>thn (q pins s1 σ H1 _ B G) λu s2 ⟨y,H2,J,L,O⟩=>thn (ho pins s2 σ H2 x y v u _ J F L O) λc s3 ⟨z,U,F2,fv,k,e,q3⟩=>?_) hm
 subst e
 cases fv
 exact Mu ⟨U,F2,q3⟩
def w5(K:Frag)(x:V)(H:Hp)(k:Bool):Prop:=
 match x with
 |.non=>k=Ua
 |.bl b=>k=b
 |.int i=>k=(i != 0)
 |.str y=>y.length<=J9/\k=((y.length:Int) != 0)
 |.byt y=>y.size<=J9/\k=((y.size:Int) != 0)
 |.ref p=>(∃xs,SqL K H p xs/\k = !xs.isEmpty)∨(∃xs,SqT K H p xs/\k = !xs.isEmpty)∨∃kvs,H p=Z (.dK kvs)/\k = !kvs.isEmpty
 |_=>False
theorem rh{κ:Type}{kvs:List (κ×V)}{vs:List (κ×hH)}(r:KV kvs vs):(!vs.isEmpty) = !kvs.isEmpty:=by cases r<;>rfl
theorem j7{xs:List V}{its:List hH}(r:Vals xs its):(!its.toArray.isEmpty) = !xs.isEmpty:=by cases r<;>simp
theorem eR:(J9:Nat)<2^63:=by rw[r4];decide
theorem Be:Ec X (λx H Q=>∃k,w5 X.K x H k/\Q k H):=by
 intro pins s σ H x v Q I rx h;obtain⟨k,e,q⟩:=h;have F:=eR;have hs:J9=16777216:=r4
 cases x with
 |non=>
  cases rx
  have e':k=Ua:=e;subst e';exact truthy_none ⟨H,I,q⟩
 |bl b=>
  cases rx
  have e':k=b:=e;subst e';exact Mu ⟨H,I,q⟩
 |int i=>obtain⟨t,rfl⟩:=rx;have e':k=(i != 0):=e;subst e';exact PySem.P.truthy_int ⟨H,I,q⟩
 |str y=>obtain⟨t,rfl⟩:=rx;obtain⟨z,e'⟩:y.length<=J9/\k=((y.length:Int) != 0):=e;subst e';exact PySem.P.truthy_str ∅ ⟨H,I.tok _,q⟩
 |byt y=>obtain⟨t,rfl⟩:=rx;obtain⟨z,e'⟩:y.size<=J9/\k=((y.size:Int) != 0):=e;subst e';exact PySem.W.truthy_bytes ∅ ⟨H,I.tok _,q⟩
 |ref p=>
  cases rx
  have e':(∃xs,SqL X.K H p xs/\k = !xs.isEmpty)∨(∃xs,SqT X.K H p xs/\k = !xs.isEmpty)∨∃kvs,H p=Z (.dK kvs)/\k = !kvs.isEmpty:=e
  rcases e' with⟨xs,hx,e'⟩|⟨xs,hx,e'⟩|⟨kvs,hx,e'⟩
  ·subst e';obtain⟨its,r,pl,j⟩:=I.list hx;have hlen:=r.length;exact wpAny_truthy_list pl.isList (by simp only[Ji];lia) ⟨H,I.tok _,by rw[j7 r];exact q⟩
  ·subst e';obtain⟨its,r,pl,j⟩:=I.tuple hx;have hlen:=r.length;exact truthy_tuple pl (by simp only[Ji];lia) ⟨H,I.tok _,by rw[j7 r];exact q⟩
  ·subst e';obtain⟨j,B,vs,r,m⟩:kvs.length<=J9/\(p==Ks)=Ua/\∃vs,KV kvs vs/\s.heap.DictOf (aE X.prog X.w) p vs:=I.hok p _ hx;have hlen:kvs.length=vs.length:=Lj r;exact wpAny_truthy_dict B m ∅ ⟨H,I.tok _,by rw[rh r];exact q⟩
 |_=>exact(show False from e).elim
theorem w6(j:PE X a ta)(he:∀whole,isTrue a X.env whole=(do let v <-whole;Pt a.pos;holding [v] (truthy v))):
 PT X a (λσ H Q=>ta σ H λx H'=>∃k,w5 X.K x H' k/\Q k H'):=by
 intro pins s σ H Q I h;exact isTrue_plain (thn (j pins s σ H _ I h) λv s1 q=>(by obtain⟨x,H1,z,B,F⟩:=q;exact Be pins s1 σ H1 x v Q z B F)) (he _)
theorem rj:OpR X (Lb .Add) (λx y H Q=>∃i j,x=.str i/\y=.str j/\i.length+j.length<=J9/\Q (.str (i++j)) H):=by intro pins s σ H x y v u Q I rx ry h;obtain⟨i,j,rfl,rfl,z,q⟩:=h;obtain⟨t,rfl⟩:=rx;obtain⟨t',rfl⟩:=ry;exact add_str (λt' tk=>⟨.str (i++j),H,I.tok _,⟨_,rfl⟩,q⟩) z
theorem di{x:V}(r:Vals [x] us):∃u,us=[u]/\RelV x u:=by
 cases r with
 |cons j q=>cases q;exact⟨_,rfl,j⟩
theorem yj{x y:V}(r:Vals [x,y] us):∃u w',us=[u,w']/\RelV x u/\RelV y w':=by
 cases r with
 |cons j q=>
  cases q with
  |cons z B=>cases B;exact⟨_,_,rfl,j,z⟩
theorem w8:CallR X (.builtin "abs") (λxs H Q=>∃i,xs=[.int i]/\Q (.int (if i<0 then -i else i)) H):=by intro pins s σ H xs us Q I r h;obtain⟨i,rfl,q⟩:=h;obtain⟨u,rfl,t,rfl⟩:=di r;exact call_abs_int λu tk=>⟨.int (if i<0 then -i else i),H,I.tok _,⟨_,rfl⟩,q⟩
theorem tH(B:X.calm=N2):CallR X (.builtin "max") (λxs H Q=>∃i j,xs=[.int i,.int j]/\Q (.int (if j > i then j else i)) H):=by
 intro pins s σ H xs us Q I r h;obtain⟨i,j,rfl,q⟩:=h;obtain⟨u,w',rfl,⟨t,rfl⟩,⟨t',rfl⟩⟩:=yj r;refine max_two_ints (I.ok.hd B) λh' tk k=>⟨_,H,I.kept k,?_,q⟩
 by_cases z:j > i
 ·rw[if_pos z,if_pos z];exact⟨_,rfl⟩
 ·rw[if_neg z,if_neg z];exact⟨_,rfl⟩
theorem tI(B:X.calm=N2):CallR X (.builtin "min") (λxs H Q=>∃i j,xs=[.int i,.int j]/\Q (.int (if j<i then j else i)) H):=by
 intro pins s σ H xs us Q I r h;obtain⟨i,j,rfl,q⟩:=h;obtain⟨u,w',rfl,⟨t,rfl⟩,⟨t',rfl⟩⟩:=yj r;refine min_two_ints (I.ok.hd B) λh' tk k=>⟨_,H,I.kept k,?_,q⟩
 by_cases z:j<i
 ·rw[if_pos z,if_pos z];exact⟨_,rfl⟩
 ·rw[if_neg z,if_neg z];exact⟨_,rfl⟩
theorem tJ:CallR X (.type "int") (λxs H Q=>(∃i,xs=[.int i]/\Q (.int i) H)∨∃k,xs=[.bl k]/\Q (.int (if k then 1 else 0)) H):=by
 intro pins s σ H xs us Q I r h
 rcases h with⟨i,rfl,q⟩|⟨k,rfl,q⟩
 ·obtain⟨u,rfl,t,rfl⟩:=di r;exact call_int_int ⟨.int i,H,I,⟨_,rfl⟩,q⟩
 ·obtain⟨u,rfl,j⟩:=di r
  cases j
  exact call_int_bool ⟨.int (if k then 1 else 0),H,I.tok _,⟨_,rfl⟩,q⟩
def Ee(K:Frag)(x:V)(H:Hp)(n:Nat):Prop:=
 match x with
 |.str y=>y.length<=J9/\n=y.length
 |.byt y=>y.size<=J9/\n=y.size
 |.ref p=>(∃xs,SqL K H p xs/\n=xs.length)∨∃xs,SqT K H p xs/\n=xs.length
 |_=>False
theorem w9:CallR X (.builtin "len") (λxs H Q=>∃x n,xs=[x]/\Ee X.K x H n/\Q (.int n) H):=by
 intro pins s σ H xs us Q I r h;obtain⟨x,n,rfl,e,q⟩:=h;obtain⟨u,rfl,rx⟩:=di r;have B:=eR;have hs:J9=16777216:=r4
 cases x with
 |str y=>obtain⟨t,rfl⟩:=rx;obtain⟨j,e'⟩:y.length<=J9/\n=y.length:=e;subst e';exact len_str ∅ ⟨.int _,H,I.tok _,⟨_,rfl⟩,q⟩
 |byt y=>obtain⟨t,rfl⟩:=rx;obtain⟨j,e'⟩:y.size<=J9/\n=y.size:=e;subst e';exact PySem.W.len_bytes ∅ ⟨.int _,H,I.tok _,⟨_,rfl⟩,q⟩
 |ref p=>
  cases rx
  have e':(∃xs,SqL X.K H p xs/\n=xs.length)∨∃xs,SqT X.K H p xs/\n=xs.length:=e
  rcases e' with⟨xs,hx,e'⟩|⟨xs,hx,e'⟩
  ·subst e';obtain⟨its,r',pl,z⟩:=I.list hx;have hlen:=r'.length;exact Calls.call_len_list pl.isList (by simp only[Ji];lia) ⟨.int xs.length,H,I.tok _,⟨_,by simp only[Ji];rw[hlen]⟩,q⟩
  ·subst e';obtain⟨its,r',pl,z⟩:=I.tuple hx;have hlen:=r'.length;exact len_tuple pl (by simp only[Ji];lia) ⟨.int xs.length,H,I.tok _,⟨_,by simp only[Ji];rw[hlen]⟩,q⟩
 |_=>exact(show False from e).elim
end
end
section
theorem U4{o:Option hH}(r:RelO (Z v) o):∃u,o=Z u/\RelV v u:=by
 cases o with
 |none=>exact(show False from r).elim
 |some u=>exact⟨u,rfl,r⟩
end
variable{ps:List Str}
section
structure Room(k:Nat)(A:Kh):Prop where
 hd:A.handled=Y
 dp:A.depth+3*k+5<recursionLimit
 un:A.units+16*k+200<LF
theorem Room.deeper{k:Nat}(r:Room (k+1) A)(env:Env):Room k (A.deeper env):=⟨r.hd,by have:=r.dp;show A.depth+1+3*k+5<_;lia,by have:=r.un;show A.units+3+16*k+200<_;lia⟩
theorem Room.depth{k:Nat}(r:Room k A):A.depth<recursionLimit:=by have:=r.dp;lia
theorem Room.units{k:Nat}(r:Room k A):A.units+64<LF:=by have:=r.un;lia
noncomputable def Bf:TA:=λ_ H Q=>Q [] H
noncomputable def yk(ta:TE)(tr:TA):TA:=λσ H Q=>ta σ H λx H1=>tr σ H1 λxs H2=>Q (x::xs) H2
section
variable{X:Cx}{e:Expr}{es:List Expr}{te:TE}{t:TA}{pos:Pos}
theorem Bg:PA X [] Bf:=λ_ _ _ _ H Q I h=>RJ ⟨[],H,I,.nil,h⟩
theorem zh(q:PE X e te)(z:PA X es t)(hs:JJ (e::es) X.env=(Ua,eval e X.env)::JJ es X.env:=by rfl):PA X (e::es) (yk te t):=by intro pos pins s σ H Q I h;rw[hs];show Jm _ _ (spliced ((Ua,eval e X.env)::NP pos (JJ es X.env))) _ _ s;refine P4 (thn (q pins s σ H _ I h) λu s1 j=>?_);obtain⟨x,H1,B,F,G⟩:=j;exact thn (z pos pins s1 σ H1 _ B G) λus s2 j=>(by obtain⟨xs,H2,J,L,O⟩:=j;exact⟨x::xs,H2,J,.cons F L,O⟩)
noncomputable def Ef(t:TA):TE:=λσ H Q=>t σ H λxs H1=>xs.length<=J9/\∀p,H1 p=Y->Q (.ref p) (upd H1 p (.tup xs))
noncomputable def Eg(t:TA):TE:=λσ H Q=>t σ H λxs H1=>xs.length<=J9/\∀p,H1 p=Y->Q (.ref p) (upd H1 p (.lst xs))
theorem Bh{B}(h:PA X es t):PE X (.Tuple es B pos) (Ef t):=by
 intro pins s σ H Q I hq;refine wpAny_Tuple_spliced (thn (h pos pins s σ H _ I hq) λus s1 ⟨xs,H1,j,r,z,q⟩=>⟨by rw[<-r.length];exact z,?_⟩)
 have hf:H1 s1.heap.objs.size=Y:=j.hok.fresh (J6 _);refine⟨.ref s1.heap.objs.size,upd H1 s1.heap.objs.size (.tup xs),j.laid (t':=s1.toks) (λb u e=>D0 _ e) (J6 _) ?_,rfl,q _ hf⟩;exact⟨z,us,r,⟨_,Jf _ rfl,rfl,_,rfl⟩⟩
theorem Bi(h:PA X es t):PE X (.List es pos) (Eg t):=by
 intro pins s σ H Q I hq;refine wpAny_List_spliced (thn (h pos pins s σ H _ I hq) λus s1 ⟨xs,H1,j,r,z,q⟩=>⟨by rw[<-r.length];exact z,?_⟩)
 have hf:H1 s1.heap.objs.size=Y:=j.hok.fresh (J6 _);refine⟨.ref s1.heap.objs.size,upd H1 s1.heap.objs.size (.lst xs),j.laid (t':=s1.toks) (λb u e=>D0 _ e) (J6 _) ?_,rfl,q _ hf⟩;exact⟨z,us,0,r,Jf _ rfl⟩
end
noncomputable abbrev Sp:=List V->Hp->VK->XK->Prop
noncomputable abbrev CXT:=List Env->Hp->I7->XK->hH->I7->Prop
structure rl(P:JB)(w:K1)(K:Frag)(mg:Str->Option hH)(base:Heap)(A:Kh)(outer:List Env)(s:I7)(H:Hp):Prop where
 frames:A.frames=Z outer
 mod:Mod K mg base
 bs:∀b o,base.get? b=Z o->s.heap.get? b=Z o/\H b=Y
 bsz:base.objs.size<=s.heap.objs.size
 funs:s.heap.FunFrames base outer
 frf:∀b∈frs outer,H b=Y
 hok:HOk P w H s.heap
 bare:Pq s.gens
def CE(outer:List Env)(P:JB)(w:K1)(H:Hp)(s:I7)(Q:VK)(u:hH)(s':I7):Prop:=∃v H',s'.os=s.os/\Pq s'.gens/\Un (frs outer) [] H H' s.heap s'.heap/\HOk P w H' s'.heap/\RelV v u/\Q v H'
def CR(CX:CXT)(outer:List Env)(P:JB)(w:K1)(H:Hp)(s:I7)(Q:VK)(E:XK)(r:Result)(s':I7):Prop:=
 match r with
 |.ok (.ret u)=>CE outer P w H s Q u s'
 |.ok _=>False
 |.error e=>CX outer H s E e s'
structure dP(P:JB)(w:K1)(K:Frag)(mg:Str->Option hH)(base:Heap)(CX:CXT)(k:Nat)(f:Ub)(fd:Nm)(ps:List Str)(sp:Sp):Prop where
 len:∀vs H Q E,sp vs H Q E->vs.length=ps.length
 run:∀(A:Kh) (outer:List Env) (s:I7) (H:Hp) (args:Args) (us:List hH) (vs:List V) (Q:VK) (E:XK),Room k A->rl P w K mg base A outer s H->RL s fd args (ps.zip us)->Vals vs us->sp vs H Q E->
  Ow (model P w) A (.call (.ref f) args) (CR CX outer P w H s Q E) s
section
variable{X:Cx}{pins:List (Ub×Obj)}{σ:St}{H:Hp}{s s':I7}
theorem Inv.env0(I:Inv X pins σ H s):rl X.prog X.w X.K X.mg X.base X.A X.stack s H:=⟨I.ok.frames,I.ok.mod,I.bs,K0 I.ok.bsz I.sz,I.stack,I.stkFree,I.hok,I.bare⟩
theorem Inv.after{Q:VK}(I:Inv X pins σ H s)(h:CE X.stack X.prog X.w H s Q u s'):EP X pins σ Q u s':=by obtain⟨v,H',os,bare,un,hok,r,q⟩:=h;obtain⟨j,g,d,t,os'⟩:=s';obtain rfl:os'=s.os:=os;exact⟨v,H',I.call (h':=j) (g':=g) (d':=d) (t':=t) (ch:=[]) un hok bare (λb z=>absurd z (by simp)),r,q⟩
end
noncomputable def ym(sp:Sp)(dvs:List V)(E:XK)(t:TA):TE:=λσ H Q=>t σ H λvs H1=>sp (vs++dvs) H1 Q E
def Binds(K:Frag)(fd:Nm)(ps:List Str)(ds:List hH):Prop:=∀(s:I7) (us:List hH),K.In s.heap->(us++ds).length=ps.length->RL s fd ⟨us,[]⟩ (ps.zip (us++ds))
theorem Binds.all{fd:Nm}(h:∀us:List hH,us.length=ps.length->bindArgs fd ⟨us,[]⟩=pure (ps.zip us)):Binds K fd ps []:=λs us _ j=>by rw[K9]at j⊢;exact .of_eq (h us j)
def j8(CX:CXT)(X:Cx)(E:XK):Prop:=∀(pins:List (Ub×Obj)) (σ:St) (H:Hp) (s:I7) (e:hH) (s':I7),Inv X pins σ H s->CX X.stack H s E e s'->X.xe e s'
section
variable{X:Cx}{CX:CXT}{k:Nat}{f C:Ub}{fd:Nm}{ps:List Str}{sp:Sp}{dvs:List V}{ds:List hH}{E:XK}{x m:Str}{p pos apos:Pos}{e o:Expr}{es:List Expr}{ta:TE}{t:TA}
theorem tK{Q:VK}{vs:List V}(F:dP X.prog X.w X.K X.mg X.base CX k f fd ps sp)(z:Room k X.A)(B:Binds X.K fd ps ds)(hd:Vals dvs ds)(hx:j8 CX X E)(I:Inv X pins σ H s)(r:Vals vs us)(h:sp (vs++dvs) H Q E):Jm (model X.prog X.w) X.A (call (.ref f) us) (EP X pins σ Q) X.xe s:=by
 have q:Vals (vs++dvs) (us++ds):=r.append hd;have G:(us++ds).length=ps.length:=by rw[<-q.length];exact F.len _ _ _ _ h
 refine wpAny_call (NS (F.run X.A X.stack s H ⟨us,[]⟩ (us++ds) (vs++dvs) Q E z I.env0 (B s us I.kIn G) q h) λr s' j=>?_)
 cases r with
 |error e=>exact hx pins σ H s e s' I j
 |ok fl=>
  cases fl with
  |ret u=>exact I.after j
  |next=>exact False.elim j
  |brk=>exact False.elim j
  |cont=>exact False.elim j
theorem zi(F:dP X.prog X.w X.K X.mg X.base CX k f fd ps sp)(G:Room k X.A)(J:Gl X x)(hm:X.mg x=Z (.ref f))(L:Np X.K (.ref f)=N2)(O:Binds X.K fd ps ds)(hd:Vals dvs ds)(hx:j8 CX X E)(U:PA X (e::es) t)(j:(x==("__debug__":Str))=Ua:=by decide)(he:JJ (e::es) X.env=(Ua,eval e X.env)::JJ es X.env:=by rfl)(z:(NP pos (JJ es X.env)).any (·.1)=Ua:=by rfl):
 PE X (.Call (.Name x p) (e::es) [] pos) (ym sp dvs E t):=by
 intro pins s σ H Q I h;refine NI (jQ I J hm ?_ j);refine PySem.W.callWith_K (h₀:=X.base) I.ok.mod.kin L (thn (U pos pins s σ H _ I h) λus s1 ⟨vs,H1,B,r,q⟩=>⟨B.kIn,?_⟩) he z;exact tK F G O hd hx B r q
theorem wa(F:dP X.prog X.w X.K X.mg X.base CX k f fd ps sp)(q:Room k X.A)(z:Gl X x)(hm:X.mg x=Z (.ref f))(B:Np X.K (.ref f)=N2)(G:Binds X.K fd ps ds)(hd:Vals dvs ds)(hx:j8 CX X E)(j:(x==("__debug__":Str))=Ua:=by decide):PE X (.Call (.Name x p) [] [] pos) (ym sp dvs E Bf):=by intro pins s σ H Q I h;refine NI (jQ I z hm ?_ j);exact PySem.W.callWith_K0 I.kIn B (tK (us:=[]) F q G hd hx I .nil h)
end
structure gG(N P:List Str)(sc:Scope):Prop where
 kind:sc.kind=.function
 co:sc.isCoroutine=Ua
 gen:sc.isGenerator=Ua
 nd:N.Nodup
 pre:N.take P.length=P
 par:∀x∈P,sc.names.lookup x=Z .local∨sc.names.lookup x=Z .cell
 nofree:∀y∈sc.names,y.2≠.free
theorem kH{L7:Str->Option MN}{x:Str}:∀{binds:List (Str×hH)} {m:Str->Option hH},(∀v,(x,v)∉binds)->Td L7 binds m x=m x
 |[],_,_=>rfl
 |(n,v)::r,m,h=>by
  unfold Td;rw[kH λw hw=>h w (J3 _ hw)]
  split
  ·have:x≠n:=by rintro rfl;exact h v Je
   simp[this]
  ·rfl
theorem kI{L7:Str->Option MN}{x:Str}:∀{binds:List (Str×hH)} {m:Str->Option hH},(∀v,(x,v)∉binds)->Te L7 binds m x=m x
 |[],_,_=>rfl
 |(n,v)::r,m,h=>by
  unfold Te;rw[kI λw hw=>h w (J3 _ hw)]
  split
  ·rfl
  ·have:x≠n:=by rintro rfl;exact h v Je
   simp[this]
theorem kJ{L7:Str->Option MN}{x:Str}{v:hH}:∀{P:List Str} {vs:List hH} {i:Nat} {m:Str->Option hH},P.Nodup->P[i]?=Z x->vs[i]?=Z v->L7 x=Z .local->
 Td L7 (P.zip vs) m x=Z v
 |[],_,_,_,_,h,_,_=>by simp at h
 |_::_,[],_,_,_,_,h,_=>by simp at h
 |p::P,w::vs,0,m,nd,h1,h2,j=>by simp at h1 h2;subst h1;subst h2;show Td L7 ((p,w)::P.zip vs) m p=_;unfold Td;rw[kH λv q=>(KA.mp nd).1 (NF q).1,if_pos j];simp
 |p::P,w::vs,i+1,m,nd,h1,h2,j=>by show Td L7 ((p,w)::P.zip vs) m x=_;unfold Td;exact kJ (i:=i) (KA.mp nd).2 (by simpa using h1) (by simpa using h2) j
theorem kK{L7:Str->Option MN}{x:Str}{v:hH}:∀{P:List Str} {vs:List hH} {i:Nat} {m:Str->Option hH},P.Nodup->P[i]?=Z x->vs[i]?=Z v->L7 x≠Z .local->
 Te L7 (P.zip vs) m x=Z v
 |[],_,_,_,_,h,_,_=>by simp at h
 |_::_,[],_,_,_,_,h,_=>by simp at h
 |p::P,w::vs,0,m,nd,h1,h2,j=>by simp at h1 h2;subst h1;subst h2;show Te L7 ((p,w)::P.zip vs) m p=_;unfold Te;rw[kI λv q=>(KA.mp nd).1 (NF q).1,if_neg j];simp
 |p::P,w::vs,i+1,m,nd,h1,h2,j=>by show Te L7 ((p,w)::P.zip vs) m x=_;unfold Te;exact kK (i:=i) (KA.mp nd).2 (by simpa using h1) (by simpa using h2) j
noncomputable def cS(N:List Str)(vs:List V):St:=vs.map Z++IY (N.length-vs.length) Y
noncomputable def iD(CX:CXT)(P:JB)(w:K1)(K:Frag)(mg:Str->Option hH)(base:Heap)(N:List Str)(qual:Str)(scope:Scope)(f:Ub)(cd:hH)(A:Kh)(outer:List Env)(s:I7)(H:Hp)(E:XK):Cx where
 prog:=P
 w:=w
 K:=K
 mg:=mg
 base:=base
 A:=A.deeper (QC qual scope s.heap.objs.size f cd)
 N:=N
 s₀:=s
 H₀:=H
 env:=QC qual scope s.heap.objs.size f cd
 outer:=outer
 stack:=QC qual scope s.heap.objs.size f cd::outer
 ex:=[]
 calm:=N2
 fn:=λ_=>N2
 pn:=[]
 xe:=λe s'=>Jm (model P w) (A.deeper (QC qual scope s.heap.objs.size f cd)) (leaving (QC qual scope s.heap.objs.size f cd) e) (λ_ s''=>CX outer H s E e s'') (λe' s''=>CX outer H s E e' s'') s'
theorem mR{sc:Scope}{n:Nat}(h:sc.names.lookup x=Z .cell):∃c,(LP n sc.names []).lookup x=Z c:=by have q:=NT sc.names n [] (.inl h);exact Mz.mp q
theorem tL{CX:CXT}{mg:Str->Option hH}{base:Heap}{qual:Str}{scope:Scope}{f:Ub}{cd:hH}{outer:List Env}{s1:I7}{E:XK}{vs:List V}(S:gG N ps scope)(hd:A.handled=Y)(j:rl P w K mg base A outer s H)(U:vs.length=ps.length)(r:Vals vs us)(x:InCallC s s.heap.objs.size (Td (QC qual scope s.heap.objs.size f cd).kindOf (ps.zip us) λ_=>Y) (LP (s.heap.objs.size+1) scope.names []) (Te (QC qual scope s.heap.objs.size f cd).kindOf (ps.zip us) λ_=>Y) s1):
 Inv (iD CX P w K mg base N qual scope f cd A outer s H E) [] (cS N vs) H s1:=by
 have L:ps.length<=N.length:=by have:=congrArg MR S.pre;rw[JG]at this;lia
 obtain⟨h1,tk,rfl,G⟩:=x.done;have noA:∀b:Ub,b∉(iD CX P w K mg base N qual scope f cd A outer s H E).ex:=λb z=>absurd (show b∈([]:List Ub)from z) (by simp)
 refine⟨⟨j.mod,S.kind,rfl,rfl,J6 _,λy z c h1 h2=>?_,λy B=>?_,λy c _ h=>?_,λ_=>hd,Around.frames_deeper j.frames,.inr ⟨rfl,rfl⟩,λb z=>absurd z (noA b),j.bs,j.bsz,λb _ _=>noA b,λb z=>absurd z (noA b),j.funs,j.frf⟩,
  rfl,j.bare,Un.kept G,⟨_,x.toInCall.ns,λi y v h1 h2 F2=>?_⟩,λy c h=>⟨_,x.cell y c h⟩,j.hok.fresh (J6 _),λy c h=>?_,λp F=>absurd (show p∈([]:List (Ub×Obj))from F) (by simp),j.hok.kept G,?_⟩
 ·exact name_of_addr x.apart (L8 h1) (L8 h2)
 ·have B:scope.names.lookup y=Z .cell∨scope.names.lookup y=Z .free:=B
  rcases B with B|B
  ·exact mR B
  ·exact absurd rfl (S.nofree _ (L8 B))
 ·exact Nr (x.above y c (L8 h))
 ·have hi:i<vs.length:=by
   unfold cS at h2
   by_cases hi:i<vs.length
   ·exact hi
   ·rw[IX (by simpa using hi)]at h2
    rw[JR]at h2
    split at h2<;>cases h2
  have O:vs[i]?=Z v:=by
   unfold cS at h2;rw[J1 (by simpa using hi),Jj]at h2
   cases e:vs[i]? with
   |none=>rw[e]at h2;cases h2
   |some a=>rw[e]at h2;cases h2;rfl
  obtain⟨u,J,rv⟩:=r.get O;have F:ps[i]?=Z y:=by rw[<-S.pre,NA ∅];exact h1
  have ndP:ps.Nodup:=by rw[<-S.pre];exact S.nd.sublist (List.take_sublist _ _)
  refine⟨u,rv,?_⟩
  rcases S.par y (Jh F)with k|k
  ·exact .inl ⟨k,kJ ndP F J k⟩
  ·obtain⟨c,e⟩:=mR (n:=s.heap.objs.size+1) k;refine .inr ⟨.inl k,c,e,?_⟩;have q:=x.cell y c e;rw[kK ndP F J (by show scope.names.lookup y≠_;rw[k];decide)]at q
   exact q
 ·exact j.hok.fresh (Nr (x.above y c (L8 h)))
 ·unfold cS;show _=N.length;rw[q7,h7,Ly];lia
theorem Da {CX:CXT}{mg:Str->Option hH}{base:Heap}{k:Nat}{f:Ub}{name qual:Str}{params:Arguments}{scope:Scope}{dV kV doc pm cdv ct oc:hH}{an od:Option Ub}{osl:Array (Option hH)}{sp:Sp}(lk:K.lookup f=Z ⟨oc,od,.func (MX name qual params body scope dV kV doc pm an cdv ct),osl⟩)(G:P5 K cdv qual=N2)(S:gG N ps scope)(len:∀vs H Q E,sp vs H Q E->vs.length=ps.length)(j:∀(A:Kh) (outer:List Env) (s:I7) (H:Hp) (vs:List V) (Q:VK) (E:XK),Room k (A.deeper (QC qual scope s.heap.objs.size f cdv))->sp vs H Q E->
   ∃t,PSs (iD CX P w K mg base N qual scope f cdv A outer s H E) body t/\t {nx:=λ_ H'=>Q .non H',rt:=Q} (cS N vs) H):
 dP P w K mg base CX (k+1) f (MX name qual params body scope dV kV doc pm an cdv ct) ps sp:=by
 refine⟨len,λA outer s H args us vs Q E L B O r F=>?_⟩;have U:=len _ _ _ _ F;have KX:K.In s.heap:=B.mod.kin.keeps λb o e=>(B.bs b o e).1;have lim:s.heap.NoLimit:=B.mod.nolimit.keeps λb o e=>(B.bs b o e).1;have z:∀y∈ps.zip us,scope.names.lookup y.1=Z .local∨(scope.names.lookup y.1=Z .cell/\((LP (s.heap.objs.size+1) scope.names []).lookup y.1).isSome=N2):=λ⟨n,v⟩ hy=>by
  rcases S.par n (NF hy).1 with q|q
  ·exact .inl q
  ·exact .inr ⟨q,NT _ _ _ (.inl q)⟩
 refine codeAny_call_function L.depth (KX _ _ lk) rfl S.co S.gen rfl (PySem.W.codeRec_of KX G) (O _ _ _ _ ?_);refine wpAny_newFunctionEnv_cells S.kind z λenv he s1 x=>?_;subst he;refine⟨lim.keeps x.toInCall.keep,codeAny_func ?_⟩;obtain⟨t,F2,fv⟩:=j A outer s H vs Q E (L.deeper _) F;have I:Inv (iD CX P w K mg base N qual scope f cdv A outer s H E) [] (cS N vs) H s1:=tL S L.hd B U r x;refine LA (F2 [] s1 (cS N vs) H _ I fv) (λfl s' hs=>?_) λe s' hs=>hs;have fin:∀{σ':St} {H':Hp} {v:V} {u:hH},Inv (iD CX P w K mg base N qual scope f cdv A outer s H E) [] σ' H' s'->RelV v u->Q v H'->CE outer P w H s Q u s':=λ{σ' H' v u} J rv q=>⟨v,H',J.os,J.bare,J.base,J.hok,rv,q⟩
 cases fl with
 |ret u=>obtain⟨v,σ',H',J,rv,q⟩:=hs;exact fin J rv q
 |next=>obtain⟨σ',H',J,q⟩:=hs;exact fin (v:=V.non) (u:=Nl) J rfl q
 |brk=>obtain⟨_,_,_,q⟩:=hs;exact False.elim q
 |cont=>obtain⟨_,_,_,q⟩:=hs;exact False.elim q
end
section
section
variable{X:Cx}{x:Str}{p pos:Pos}{e:Expr}{es:List Expr}{t:TA}{id T:String}{r:List V->Hp->VK->Prop}
noncomputable def tCB(r:List V->Hp->VK->Prop)(t:TA):TE:=λσ H Q=>t σ H λvs H1=>r vs H1 Q
theorem cu(z:CallR X (.builtin id) r)(B:Gl X x)(hm:X.mg x=Y)(F:OR x=Z (.builtin id))(G:PA X (e::es) t)(J:x≠"__name__":=by decide)(j:(x==("__debug__":Str))=Ua:=by decide)(he:JJ (e::es) X.env=(Ua,eval e X.env)::JJ es X.env:=by rfl)(q:(NP pos (JJ es X.env)).any (·.1)=Ua:=by rfl):PE X (.Call (.Name x p) (e::es) [] pos) (tCB r t):=by intro pins s σ H Q I h;refine NI (eQ I B hm F ?_ J j);exact PyProof.Rows.callWith_builtin1 (thn (G pos pins s σ H _ I h) λus s1 L=>(by obtain⟨vs,H1,O,U,F2⟩:=L;exact z pins s1 σ H1 vs us Q O U F2)) he q
theorem eE(z:CallR X (.type T) r)(B:Gl X x)(hm:X.mg x=Y)(F:OR x=Z (.type T))(G:PA X (e::es) t)(J:x≠"__name__":=by decide)(j:(x==("__debug__":Str))=Ua:=by decide)(he:JJ (e::es) X.env=(Ua,eval e X.env)::JJ es X.env:=by rfl)(q:(NP pos (JJ es X.env)).any (·.1)=Ua:=by rfl):PE X (.Call (.Name x p) (e::es) [] pos) (tCB r t):=by intro pins s σ H Q I h;refine NI (eQ I B hm F ?_ J j);exact Li (thn (G pos pins s σ H _ I h) λus s1 L=>(by obtain⟨vs,H1,O,U,F2⟩:=L;exact z pins s1 σ H1 vs us Q O U F2)) he q
end
end
end L2
namespace HT
open PySem PyProof.Rows
section
variable{prog:JB}{w:K1}{A:Kh}{E:hH->I7->Prop}{s:I7}
theorem cat_tup{t b:Ub}{vs ws:List hH}{Q:hH->I7->Prop}(U:IsTup s.heap t vs.toArray)(F2:IsTup s.heap b ws.toArray)(G:vs≠[])(h1:ws=[]->Q (.ref t) s)(h2:ws≠[]->Q (.ref s.heap.objs.size) {s with heap:=s.heap.push {cls:=.type "tuple",data:=.seq (vs++ws).toArray}})(hsz:vs.length+ws.length<=J9):Jm (model prog w) A (Lb .Add (.ref t) (.ref b)) Q E s:=by
 obtain⟨⟨cls,dd,data,sl⟩,ho,J,n,hd⟩:=id U;obtain⟨⟨L,q,data2,z⟩,j,B,O,hd2⟩:=id F2;simp only at J hd B hd2;subst J hd B hd2;have e:vs.toArray++ws.toArray=(vs++ws).toArray:=by simp
 by_cases hw:ws=[]
 ·exact RN ⟨_,ho,rfl⟩ ⟨_,j,rfl⟩ PR Rf NU NN (NB _ _)
   (tuple_addW1 t b vs.toArray ws.toArray n O dd q sl z (by simpa using G) (by simp[hw])) ⟨ho,j,h1 hw⟩
 ·refine RN ⟨_,ho,rfl⟩ ⟨_,j,rfl⟩ PR Rf NU NN (NB _ _)
   (tuple_addW2 t b vs.toArray ws.toArray n O dd q sl z (by simpa using G) (by simpa using hw) (by rw[Ji,Ji];exact hsz)) ⟨ho,j,?_⟩
  rw[e];exact h2 hw
noncomputable def sIx(n d:Nat):Option Int->Nat
 |none=>d
 |some v=>if v<0 then(v+(n:Int)).toNat else min v.toNat n
theorem sIx_none(n d:Nat):sIx n d Y=d:=rfl
theorem sIx_nat(n d k:Nat):sIx n d (Z (k:Int))=min k n:=by
 show(if(k:Int)<0 then((k:Int)+(n:Int)).toNat else min (k:Int).toNat n)=min k n
 rw[if_neg ∅,Jd]
theorem Bj(n d:Nat)(hd:d<=n)(o:Option Int):sIx n d o<=n:=by
 cases o with
 |none=>exact hd
 |some v=>
  show(if v<0 then(v+(n:Int)).toNat else min v.toNat n)<=n
  by_cases hv:v<0
  ·rw[if_pos hv];lia
  ·rw[if_neg hv];exact Nat.min_le_right _ _
theorem qb(v:Int)(n d:Nat):(if v<0 then max (v+(n:Int)) 0 else min v (n:Int))=((sIx n d (Z v):Nat):Int):=by
 show(if v<0 then max (v+(n:Int)) 0 else min v (n:Int))=(((if v<0 then(v+(n:Int)).toNat else min v.toNat n):Nat):Int)
 by_cases hv:v<0
 ·simp only[if_pos hv];lia
 ·simp only[if_neg hv];lia
theorem rn(lo hi:Option Int)(n:Nat):Nv lo hi 1 (n:Int)=(((sIx n 0 lo:Nat):Int),((sIx n n hi:Nat):Int)):=by
 have h1:¬((1:Int)<0):=∅
 unfold Nv;simp only[h1,if_false];refine Tf ?_ ?_
 ·cases lo with
  |none=>rfl
  |some v=>exact qb v n 0
 ·cases hi with
  |none=>rfl
  |some v=>exact qb v n n
theorem rp(i j:Nat):Mm (i:Int) (j:Int) 1=j-i:=by
 unfold Mm;have h1:(1:Int) > 0:=∅
 simp only[h1,if_true,Int.ediv_one]
 split<;>lia
theorem j9{v:hH}{o:Option Int}{Q:Option Int->I7->Prop}(p:Q9 v o)(h:Q o s):Jm (model prog w) A (Builtin.Slice.slicePartIndex v) Q E s:=by
 cases p with
 |none=>exact slicePart_none h
 |int i t=>exact slicePart_int h
theorem dQ{sl:Ub}{vl vu:hH}{lo hi:Option Int}{n:Nat}{Q:Int×Int×Nat->I7->Prop}(hs:s.heap.IsSliceOf sl vl vu .none)(pl:Q9 vl lo)(pu:Q9 vu hi)(h:Q (((sIx n 0 lo:Nat):Int),1,sIx n n hi-sIx n 0 lo) s):Jm (model prog w) A (P6 (.ref sl) (pure (n:Int))) Q E s:=by
 obtain⟨os,j,z,q⟩:=id hs;unfold P6 Builtin.Slice.sliceFields;refine gV (gV (Kg j q (x:=vl) rfl (gV (Kg j q (x:=vu) rfl (gV (Kg j q (x:=.none) rfl (D2 ?_)))))));refine gV (slicePart_none ?_);show Jm _ _ (if((1:Int)==0)=N2 then _ else _) _ _ s
 rw[if_neg (by decide)]
 refine gV (j9 pl (gV (j9 pu (gV (D2 ?_)))));show Jm _ _ (match Nv lo hi 1 (n:Int)with|(lo,hi)=>pure (lo,(1:Int),Mm lo hi 1)) _ _ s
 rw[rn lo hi n];show Jm _ _ (pure (((sIx n 0 lo:Nat):Int),(1:Int),Mm ((sIx n 0 lo:Nat):Int) ((sIx n n hi:Nat):Int) 1)) _ _ s;rw[rp];exact D2 h
theorem wb(xs:Array hH)(i k:Nat):((J2 k).filterMap λ(m:Nat)=>xs[((i:Int)+(m:Int)*1).toNat]?).toArray=((xs.toList.drop i).take k).toArray:=by
 have e:(λ(m:Nat)=>xs[((i:Int)+(m:Int)*1).toNat]?)=λm=>xs[i+m]?:=by
  funext m
  have:((i:Int)+(m:Int)*1).toNat=i+m:=∅
  rw[this]
 rw[e];have:=pick_run xs i k;rw[List.filterMap_map]at this;have j:((λx=>xs[x]?)∘λx=>i+x)=λm=>xs[i+m]?:=rfl;rw[j]at this;rw[this]
theorem getItem_tuple_cut{t sl:Ub}{items:Array hH}{vl vu:hH}{lo hi:Option Int}{Q:hH->I7->Prop}(z:IsTup s.heap t items)(hs:s.heap.IsSliceOf sl vl vu .none)(pl:Q9 vl lo)(pu:Q9 vu hi)(hw:¬(sIx items.size 0 lo=0/\sIx items.size items.size hi=items.size))(h:Q (.ref s.heap.objs.size) {s with heap:=s.heap.push {cls:=.type "tuple",data:=.seq ((items.toList.drop (sIx items.size 0 lo)).take (sIx items.size items.size hi-sIx items.size 0 lo)).toArray}})(hsz:items.size<=J9):Jm (model prog w) A (Qa (.ref t) (.ref sl)) Q E s:=by
 have j:sizeOk (.seq ((items.toList.drop (sIx items.size 0 lo)).take (sIx items.size items.size hi-sIx items.size 0 lo)).toArray):=by show((items.toList.drop (sIx items.size 0 lo)).take (sIx items.size items.size hi-sIx items.size 0 lo)).toArray.size<=J9;rw[Ji,JG,Lg,Jy];lia
 have O:sIx items.size items.size hi<=items.size:=Bj _ _ (J6 _) hi;obtain⟨os,B,F,L⟩:=id hs;have G:s.TypeIs (.ref sl) "slice":=⟨os,B,F⟩;unfold Qa
 try with_reducible refine Kj ?_
 first|refine gV (D2 ?_)|skip
 refine gV (RP z.typeIs (by decide) ?_)
 refine gV (JY (name:=JN "__getitem__") z.typeIs Lw
  (K7 Lw z.typeIs R7 ?_ (Rw _ _)))
 show Jm _ _ (P7 (.ref t)>>=_) _ _ s;refine gV (tupleItemsOf_ z ?_);refine gV (Mv G ?_);rw[if_pos (by decide)]
 refine gV (dQ hs pl pu ?_);have J:¬((((sIx items.size 0 lo:Nat):Int)==0&&(1:Int)==1&&(sIx items.size items.size hi-sIx items.size 0 lo)==items.size)=N2):=by intro q;rw[D1,D1]at q;have U:((sIx items.size 0 lo:Nat):Int)=0:=Mo q.1.1;have F2:sIx items.size items.size hi-sIx items.size 0 lo=items.size:=Mo q.2;exact hw ⟨∅,∅⟩
 show Jm _ _ (if(((sIx items.size 0 lo:Nat):Int)==0&&(1:Int)==1&&(sIx items.size items.size hi-sIx items.size 0 lo)==items.size)=N2 then _ else _) _ _ s
 rw[if_neg J,wb]
 first
  |exact gV (m:=MA _) (L9 (D2 ⟨_,rfl,D2 h⟩) j)
  |exact gV (m:=MA _) (L9 (gV (D2 (D2 ⟨_,rfl,D2 h⟩))) j)
  |exact gV (gV (m:=MA _) (L9 (D2 (D2 ⟨_,rfl,D2 h⟩)) j))
  |exact gV (gV (m:=MA _) (L9 (D2 ⟨_,rfl,D2 h⟩) j))
end
end HT
namespace L2
open PySem PySem.Spec PyProof.Rows
variable{xs:List V}
section
noncomputable abbrev TO:=St->Hp->(Option Int->Hp->Prop)->Prop
def PO(X:Cx)(e:Option Expr)(t:TO):Prop:=
 ∀(pins:List (Ub×Obj)) (s:I7) (σ:St) (H:Hp) (Q:Option Int->Hp->Prop),Inv X pins σ H s->t σ H Q->
  Jm (model X.prog X.w) X.A (evalPart e X.env) (λu s'=>∃o H',Inv X pins σ H' s'/\Q9 u o/\Q o H') X.xe s
noncomputable def zj:TO:=λ_ H Q=>Q Y H
noncomputable def Db(t:TE):TO:=λσ H Q=>t σ H λx H1=>∃i,x=.int i/\Q (Z i) H1
section
variable{X:Cx}{e:Expr}{te:TE}{lo hi:Option Expr}{tl th:TO}{pos p2:Pos}
theorem zk:PO X Y zj:=by intro pins s σ H Q I h;rw[evalPart_none];exact D2 ⟨Y,H,I,.none,h⟩
theorem zm(h:PE X e te):PO X (Z e) (Db te):=by intro pins s σ H Q I hw;rw[evalPart_some];refine thn (h pins s σ H _ I hw) λu s1 j=>?_;obtain⟨x,H1,z,B,F⟩:=j;obtain⟨i,rfl,q⟩:=F;obtain⟨t,rfl⟩:=B;exact⟨Z i,H1,z,.int i t,q⟩
def SlR(X:Cx)(r:V->Option Int->Option Int->Hp->VK->Prop):Prop:=
 ∀(pins:List (Ub×Obj)) (s:I7) (σ:St) (H:Hp) (x:V) (v vl vu:hH) (lo hi:Option Int) (sl:Ub) (Q:VK),Inv X pins σ H s->RelV x v->s.heap.IsSliceOf sl vl vu .none->Q9 vl lo->Q9 vu hi->r x lo hi H Q->
  ∃T id,typeLookup (.type T) "__getitem__"=pure (Z (.builtin id))/\s.TypeIs v T/\Jm (model X.prog X.w) X.A (Qa v (.ref sl)) (EP X pins σ Q) X.xe s
theorem SlR.or{r r':V->Option Int->Option Int->Hp->VK->Prop}(h:SlR X r)(h':SlR X r'):SlR X (λx lo hi H Q=>r x lo hi H Q∨r' x lo hi H Q):=by
 intro pins s σ H x v vl vu lo hi sl Q I rx hs pl pu q
 rcases q with q|q
 ·exact h pins s σ H x v vl vu lo hi sl Q I rx hs pl pu q
 ·exact h' pins s σ H x v vl vu lo hi sl Q I rx hs pl pu q
noncomputable def tSl(r:V->Option Int->Option Int->Hp->VK->Prop)(te:TE)(tl th:TO):TE:=λσ H Q=>te σ H λx H1=>tl σ H1 λl H2=>th σ H2 λu H3=>r x l u H3 Q
theorem wc{r:V->Option Int->Option Int->Hp->VK->Prop}(B:SlR X r)(he:PE X e te)(F:PO X lo tl)(G:PO X hi th):PE X (.Subscript e (.Slice lo hi Y p2) pos) (tSl r te tl th):=by
 intro pins s σ H Q I h;refine Subscript_ (thn (he pins s σ H _ I h) λv s1 j=>?_);obtain⟨x,H1,J,L,O⟩:=j;refine wpAny_Slice (thn (F pins s1 σ H1 _ J O) λvl s2 ⟨l,H2,U,pl,F2⟩=>thn (G pins s2 σ H2 _ U F2) λvu s3 j=>?_);obtain⟨u,z,fv,pu,q3⟩:=j;rw[evalPart_none];refine D2 ?_;have I4:Inv X pins σ z {s3 with heap:=s3.heap.push {cls:=.type "slice",data:=.fields #[vl,vu,.none]}}:=fv.kept (t':=s3.toks) λb ob q=>D0 _ q
 obtain⟨T,id,hT,ht,hg⟩:=B pins {s3 with heap:=s3.heap.push {cls:=.type "slice",data:=.fields #[vl,vu,.none]}} σ z x v vl vu l u s3.heap.objs.size Q I4 L (Heap.IsSliceOf.new ..) pl pu q3
 show Jm (model X.prog X.w) X.A (subscriptTail e (.Slice lo hi Y p2) v (.ref s3.heap.objs.size)) (EP X pins σ Q) X.xe {s3 with heap:=s3.heap.push {cls:=.type "slice",data:=.fields #[vl,vu,.none]}}
 exact tail_any (ops:=[.ref s3.heap.objs.size,v]) ht hT hg (by with_unfolding_all rfl)
noncomputable def fX(xs:List V)(lo hi:Option Int):List V:=(xs.drop (HT.sIx xs.length 0 lo)).take (HT.sIx xs.length xs.length hi-HT.sIx xs.length 0 lo)
theorem ir(xs:List V)(lo hi:Option Int):(fX xs lo hi).length<=xs.length:=by unfold fX;rw[JG,Lg];lia
noncomputable def Eh(K:Frag):V->Option Int->Option Int->Hp->VK->Prop:=λx lo hi H Q=>∃a xs,x=.ref a/\SqT K H a xs /\
 ¬(HT.sIx xs.length 0 lo=0/\HT.sIx xs.length xs.length hi=xs.length)/\∀p,H p=Y->Q (.ref p) (upd H p (.tup (fX xs lo hi)))
theorem sl_tup:SlR X (Eh X.K):=by
 intro pins s σ H x v vl vu lo hi sl Q I rx hs pl pu h;obtain⟨a,xs,rfl,hx,hw,q⟩:=h
 cases rx
 obtain⟨its,r,j,z⟩:=I.tuple hx;have hlen:its.toArray.size=xs.length:=by rw[Ji];exact r.length.symm
 refine⟨"tuple",_,PyProof.Rows.slot_tuple_getitem.lookup,j.typeIs,?_⟩;refine HT.getItem_tuple_cut j hs pl pu (by rw[hlen];exact hw) ?_ (by rw[hlen];exact z)
 rw[hlen];refine⟨.ref s.heap.objs.size,_,I.laid (t':=s.toks) (o:=.tup (fX xs lo hi)) (λb ob q=>D0 _ q) (J6 _) ?_,rfl,q _ (I.hok.fresh (J6 _))⟩;exact⟨K0 (ir xs lo hi) z,_,(r.drop (HT.sIx xs.length 0 lo)).take (HT.sIx xs.length xs.length hi-HT.sIx xs.length 0 lo),OZ _ _⟩
noncomputable def yn(K:Frag):R2:=λx y H Q=>∃a b xs ys,x=.ref a/\y=.ref b/\SqT K H a xs/\SqT K H b ys/\xs≠[]/\xs.length+ys.length<=J9 /\
 (ys=[]->Q (.ref a) H)/\(ys≠[]->∀p,H p=Y->Q (.ref p) (upd H p (.tup (xs++ys))))
theorem Vals.nil_iff{us:List hH}(r:Vals xs us):us=[]↔xs=[]:=by
 cases r with
 |nil=>simp
 |cons _ _=>simp
theorem op_catT:OpR X (Lb .Add) (yn X.K):=by
 intro pins s σ H x y v u Q I rx ry h;obtain⟨a,b,xs,ys,rfl,rfl,J,L,hx,F,O,U⟩:=h
 cases rx
 cases ry
 obtain⟨its,B,F2,_⟩:=I.tuple J;obtain⟨G,j,p2,_⟩:=I.tuple L;refine HT.cat_tup F2 p2 (λz=>hx (B.nil_iff.mp z)) (λz=>⟨.ref a,H,I,rfl,O (j.nil_iff.mp z)⟩) (λz=>?_) (by rw[<-B.length,<-j.length];exact F)
 refine⟨.ref s.heap.objs.size,_,I.laid (t':=s.toks) (o:=.tup (xs++ys)) (λb ob q=>D0 _ q) (J6 _) ?_,rfl,U (λw=>z (j.nil_iff.mpr w)) _ (I.hok.fresh (J6 _))⟩;exact⟨by rw[q7];exact F,_,B.append j,OZ _ _⟩
end
end
variable{pins:List (Ub×Obj)}{σ:St}{H:Hp}{s:I7}{its:List hH}
section
noncomputable def ixN(n:Nat)(i:Int):Option Nat:=if 0<=i then(if i<n then Z i.toNat else Y)else if -(n:Int)<=i then Z (i+n).toNat else Y
noncomputable def atI{α:Type}(xs:List α)(i:Int):Option α:=(ixN xs.length i).bind λj=>xs[j]?
theorem qc{n:Nat}{i:Int}{j:Nat}(h:ixN n i=Z j):seqIndex? i n=Z j/\j<n /\ -(n:Int)<=i/\i<n:=by
 unfold ixN at h
 by_cases h0:0<=i
 ·rw[if_pos h0]at h
  by_cases h1:i<n
  ·rw[if_pos h1]at h;have e:i.toNat=j:=JO.inj h;exact⟨by rw[SF h0 h1,e],∅,∅,h1⟩
  ·rw[if_neg h1]at h;cases h
 ·rw[if_neg h0]at h
  by_cases h1:-(n:Int)<=i
  ·rw[if_pos h1]at h;have e:(i+n).toNat=j:=JO.inj h;exact⟨by rw[RQ ∅ h1,e],∅,h1,∅⟩
  ·rw[if_neg h1]at h;cases h
theorem qd{α:Type}{xs:List α}{i:Int}{v:α}(h:atI xs i=Z v):∃j,seqIndex? i xs.length=Z j/\xs[j]?=Z v/\j<xs.length /\ -(xs.length:Int)<=i/\i<xs.length:=by
 unfold atI at h
 cases e:ixN xs.length i with
 |none=>rw[e]at h;cases h
 |some j=>rw[e]at h;obtain⟨h1,h2,q,z⟩:=qc e;exact⟨j,h1,h,h2,q,z⟩
theorem mU{α:Type}(xs:List α)(v:α):atI (xs++[v]) (-1)=Z v:=by
 have j:(xs++[v]).length=xs.length+1:=by simp
 have e:ixN (xs++[v]).length (-1)=Z xs.length:=by
  unfold ixN;rw[j,if_neg (by decide),if_pos ∅]
  congr 1;lia
 unfold atI;rw[e];show(xs++[v])[xs.length]?=Z v;simp
def jR(b:Expr):Prop:=∀o i,subscripted b Ua o i=operate [o,i] (Qa o i)
def IxR(X:Cx)(r:R2):Prop:=
 ∀(value slice:Expr) (pins:List (Ub×Obj)) (s:I7) (σ:St) (H:Hp) (x y:V) (v u:hH) (Q:VK),Inv X pins σ H s->RelV x v->RelV y u->r x y H Q->
  subscripted slice Ua v u=operate [v,u] (Qa v u)->Jm (model X.prog X.w) X.A (subscriptTail value slice v u) (EP X pins σ Q) X.xe s
def MtR(X:Cx)(id:String)(r:V->List V->Hp->VK->Prop):Prop:=
 ∀(pins:List (Ub×Obj)) (s:I7) (σ:St) (H:Hp) (x:V) (xs:List V) (v:hH) (us:List hH) (Q:VK),Inv X pins σ H s->RelV x v->Vals xs us->r x xs H Q->
  Jm (model X.prog X.w) X.A (call (.builtin id) (v::us)) (EP X pins σ Q) X.xe s
section
variable{X:Cx}{a b:Expr}{ta tb:TE}{pos:Pos}
theorem IxR.or{r r':R2}(h:IxR X r)(h':IxR X r'):IxR X (λx y H Q=>r x y H Q∨r' x y H Q):=by
 intro value slice pins s σ H x y v u Q I rx ry q hs
 rcases q with q|q
 ·exact h value slice pins s σ H x y v u Q I rx ry q hs
 ·exact h' value slice pins s σ H x y v u Q I rx ry q hs
theorem Dc{r:R2}(j:IxR X r)(z:PE X a ta)(B:PE X b tb)(hs:jR b):PE X (.Subscript a b pos) (tOp r ta tb):=by intro pins s σ H Q I h;exact Subscript_ (w4 z B I h λv u s2 x y H2 F rx ry q=>j a b pins s2 σ H2 x y v u Q F rx ry q (hs _ _))
noncomputable def Ei(K:Frag):R2:=λx y H Q=>∃p xs i v,x=.ref p/\y=.int i/\SqL K H p xs/\atI xs i=Z v/\Q v H
noncomputable def Ej(K:Frag):R2:=λx y H Q=>∃p xs i v,x=.ref p/\y=.int i/\SqT K H p xs/\atI xs i=Z v/\Q v H
theorem ix_list:IxR X (Ei X.K):=by
 intro value slice pins s σ H x y v u Q I rx ry h hs;obtain⟨p,xs,i,z,rfl,rfl,F,he,q⟩:=h
 cases rx
 obtain⟨t,rfl⟩:=ry;obtain⟨its,r,pl,O⟩:=I.list F;obtain⟨j,h1,h2,U,G,J⟩:=qd he;obtain⟨w,ew,rw'⟩:=r.get h2;have L:=r.length;have F2:=eR;have fin:EP X pins σ Q w s:=⟨z,H,I,rw',q⟩
 by_cases h0:0<=i
 ·have B:i.toNat=j:=by
   rw[SF h0 J]at h1;exact JO.inj h1
  exact item_listR pl.isList h0 ∅ (by rw[B];simpa using ew) fin hs
 ·have B:(i+(its.toArray.size:Int)).toNat=j:=by
   rw[RQ ∅ G]at h1
   rw[Ji,<-L];exact JO.inj h1
  exact Qb (x:=w) pl.isList.typeIs slot_list_getitem.lookup
   (wpAny_getItem_list_neg (Q:=λr s'=>r=w/\EP X pins σ Q r s') pl.isList ∅ (by rw[Ji]<;>lia) ∅ (by rw[B];simpa using ew) ⟨rfl,fin⟩) hs
theorem ix_tup:IxR X (Ej X.K):=by
 intro value slice pins s σ H x y v u Q I rx ry h hs;obtain⟨p,xs,i,z,rfl,rfl,B,he,q⟩:=h
 cases rx
 obtain⟨t,rfl⟩:=ry;obtain⟨its,r,pl,G⟩:=I.tuple B;obtain⟨j,h1,h2,J,L,O⟩:=qd he;obtain⟨w,ew,rw'⟩:=r.get h2;have F:=r.length;have U:=eR;have fin:EP X pins σ Q w s:=⟨z,H,I,rw',q⟩;exact Qb (x:=w) pl.typeIs slot_tuple_getitem.lookup
  (getItem_tuple (j:=j) (Q:=λr s'=>r=w/\EP X pins σ Q r s') pl ∅ ∅ (by rw[Ji,<-F];exact h1) (by simpa using ew) ⟨rfl,fin⟩) hs
theorem rq(its:List hH)(n j:Nat)(u:hH):MY (·.setIfInBounds j u) {cls:=.type "list",data:=.seq its.toArray n}={cls:=.type "list",data:=.seq (its.set j u).toArray n}:=by simp[MY]
theorem Inv.lst{p:Ub}(I:Inv X pins σ H s)(h:H p=Z (.lst xs)):
 ∃(its:List hH) (n:Nat),Vals xs its/\s.heap.get? p=Z {cls:=.type "list",data:=.seq its.toArray n}/\xs.length<=J9:=by
 obtain⟨z,its,n,r,e⟩:=I.hok p _ h;exact⟨its,n,r,e,z⟩
theorem Inv.lstUpd{p:Ub}{ys:List V}{its':List hH}{n n':Nat}{f:Obj->Obj}(I:Inv X pins σ H s)(h:H p=Z (.lst xs))(ho:s.heap.get? p=Z {cls:=.type "list",data:=.seq its.toArray n})(hf:f {cls:=.type "list",data:=.seq its.toArray n}={cls:=.type "list",data:=.seq its'.toArray n'})(r:Vals ys its')(j:ys.length<=J9)(t:Nat):
 Inv X pins σ (upd H p (.lst ys)) {s with heap:=s.heap.update p f,toks:=t}:=by
 have e:(s.heap.update p f).get? p=Z {cls:=.type "list",data:=.seq its'.toArray n'}:=by rw[Qu f ho (by rw[hf]<;>rfl),hf]
 refine I.write (x:=p) (e:=p) (by rw[h];trivial) (.inl rfl) (λb u z q=>(Qc _ _ (Ne.symm z)).trans q) ⟨_,e⟩ ?_
 exact⟨j,its',n',r,e⟩
noncomputable def yo:V->V->V->Hp->(Hp->Prop)->Prop:=λo i v H Q=>∃p xs k j,o=.ref p/\i=.int k/\H p=Z (.lst xs)/\ixN xs.length k=Z j/\Q (upd H p (.lst (xs.set j v)))
theorem wd:PSet X yo:=by
 intro pins s σ H o i v ov iv u Q I ro ri rv h;obtain⟨p,xs,k,j,rfl,rfl,F,L,q⟩:=h
 cases ro
 obtain⟨t,rfl⟩:=ri;obtain⟨its,n,r,ho,O⟩:=I.lst F;obtain⟨h1,h2,G,J⟩:=qc L;have z:=r.length;have U:=eR;have I':Inv X pins σ (upd H p (.lst (xs.set j v))) {s with heap:=s.heap.update p (MY (·.setIfInBounds j u))}:=I.lstUpd F ho (rq its n j u) (r.set rv j) (by rw[N5];exact O) s.toks
 by_cases h0:0<=k
 ·have B:k.toNat=j:=by
   rw[SF h0 J]at h1;exact JO.inj h1
  exact PySem.W.ki_setAt ho h0 ∅ (by rw[Ji,<-z];exact J) (by rw[B];exact⟨_,I',q⟩)
 ·have B:(k+(its.toArray.size:Int)).toNat=j:=by
   rw[RQ ∅ G]at h1
   rw[Ji,<-z];exact JO.inj h1
  exact PySem.W.ki_setBack ho ∅ (by rw[Ji,<-z];exact G) ∅ (by rw[B];exact⟨_,I',q⟩)
theorem mV(lo hi:Option Int)(n:Nat):(NO lo hi Y n).1=((HT.sIx n 0 lo:Nat):Int)/\(NO lo hi Y n).2.1=((HT.sIx n n hi:Nat):Int)/\(NO lo hi Y n).2.2=1:=by
 refine⟨?_,?_,rfl⟩
 ·cases lo with
  |none=>simp[NO,HT.sIx]
  |some i=>
   simp only[NO,HT.sIx,Sd,show(1:Int) > 0 by decide,if_true]
   by_cases h:i<0
   ·simp only[h,if_true]<;>lia
   ·simp only[h,if_false]<;>lia
 ·cases hi with
  |none=>simp[NO,HT.sIx]
  |some i=>
   simp only[NO,HT.sIx,Sd,show(1:Int) > 0 by decide,if_true]
   by_cases h:i<0
   ·simp only[h,if_true]<;>lia
   ·simp only[h,if_false]<;>lia
theorem lV(its:List hH)(lo hi:Option Int):slicePick its.toArray lo hi Y=((its.drop (HT.sIx its.length 0 lo)).take (HT.sIx its.length its.length hi-HT.sIx its.length 0 lo)).toArray:=by obtain⟨h1,h2,j⟩:=mV lo hi its.toArray.size;unfold slicePick;rw[h1,h2,j];simp only[sliceRange_one,pick_run,Ji]<;>rfl
noncomputable def Ek(K:Frag):V->Option Int->Option Int->Hp->VK->Prop:=λx lo hi H Q=>∃a xs,x=.ref a/\SqL K H a xs/\∀p,H p=Y->Q (.ref p) (upd H p (.lst (fX xs lo hi)))
theorem sl_list:SlR X (Ek X.K):=by
 intro pins s σ H x v vl vu lo hi sl Q I rx hs pl pu h;obtain⟨a,xs,rfl,hx,q⟩:=h
 cases rx
 obtain⟨its,r,j,z⟩:=I.list hx;have hlen:=r.length;refine⟨"list",_,slot_list_getitem.lookup,j.isList.typeIs,?_⟩;refine wpAny_getItem_list_slice j.isList hs pl pu .none (by simp) ?_ (by rw[Ji]<;>lia)
 rw[lV,<-hlen];refine⟨.ref s.heap.objs.size,_,I.laid (t':=s.toks) (o:=.lst (fX xs lo hi)) (λb ob q=>D0 _ q) (J6 _) ?_,rfl,q _ (I.hok.fresh (J6 _))⟩;exact⟨K0 (ir xs lo hi) z,_,0,(r.drop (HT.sIx xs.length 0 lo)).take (HT.sIx xs.length xs.length hi-HT.sIx xs.length 0 lo),Jf _ rfl⟩
theorem mW:CallR X (.type "list") (λxs H Q=>∃p ys,xs=[.ref p]/\(SqL X.K H p ys∨SqT X.K H p ys)/\∀l,H l=Y->Q (.ref l) (upd H l (.lst ys))):=by
 intro pins s σ H xs us Q I r h;obtain⟨p,ys,rfl,j,q⟩:=h;obtain⟨u,rfl,rx⟩:=di r
 cases rx
 have fin:∀(its:List hH),Vals ys its->ys.length<=J9->∀(h':Heap) (c':Nat),(∀b o',s.heap.get? b=Z o'->h'.get? b=Z o')->
  h'.get? s.heap.objs.size=Z {cls:=.type "list",dict:=Y,data:=.seq its.toArray c',slots:=#[]}->EP X pins σ Q (.ref s.heap.objs.size) {s with heap:=h'}:=λits r' z h' c' kp e=>
  ⟨.ref s.heap.objs.size,_,I.laid (t':=s.toks) kp (J6 _) (show ObjOk X.prog X.w _ h' _ (.lst ys)from⟨z,its,c',r',e⟩),rfl,q _ (I.hok.fresh (J6 _))⟩
 rcases j with j|j
 ·obtain⟨its,r',pl,z⟩:=I.list j;have hlen:=r'.length;obtain⟨o,ho,B,n,hd⟩:=pl.isList;exact call_list_seq p (.inl rfl) ho B hd (λh' c' kp e=>fin its r' z h' c' kp e) (by simp only[Ji]<;>lia)
 ·obtain⟨its,r',pl,z⟩:=I.tuple j;have hlen:=r'.length;obtain⟨o,ho,B,n,hd⟩:=pl;exact call_list_seq p (.inr rfl) ho B hd (λh' c' kp e=>fin its r' z h' c' kp e) (by simp only[Ji]<;>lia)
theorem lW:CallR X (.type "tuple") (λxs H Q=>∃p ys,xs=[.ref p]/\((SqL X.K H p ys/\∀l,H l=Y->Q (.ref l) (upd H l (.tup ys)))∨(SqT X.K H p ys/\Q (.ref p) H))):=by
 intro pins s σ H xs us Q I r h;obtain⟨p,ys,rfl,h⟩:=h;obtain⟨u,rfl,rx⟩:=di r
 cases rx
 rcases h with⟨j,q⟩|⟨j,q⟩
 ·obtain⟨its,r',pl,z⟩:=I.list j;have hlen:=r'.length;refine call_tuple_list pl.isList (λh' kp=>?_) (by simp only[Ji]<;>lia)
  have B:Inv X pins σ H {s with heap:=h'}:=I.kept (t':=s.toks) kp
  have F:Inv X pins σ (upd H h'.objs.size (.tup ys)) {s with heap:=h'.push {cls:=.type "tuple",data:=.seq its.toArray}}:=B.laid (t':=s.toks) (λb o e=>D0 _ e) (J6 _) (show ObjOk X.prog X.w _ _ _ (.tup ys)from⟨z,its,r',OZ _ _⟩)
  exact⟨.ref h'.objs.size,_,F,rfl,q _ (B.hok.fresh (J6 _))⟩
 ·obtain⟨its,r',pl,z⟩:=I.tuple j;exact call_tuple_same pl ⟨.ref p,H,I,rfl,q⟩
def tyV(K:Frag)(T:String)(x:V)(H:Hp):Prop:=match x with
 |.str _=>T="str"
 |.int _=>T="int"
 |.ref p=>(T="list"/\∃xs,SqL K H p xs)∨(T="tuple"/\∃o,K.lookup p=Z o/\o.cls=.type "tuple"/\o.dict=Y) ∨
  (T="dict"/\((∃kvs,H p=Z (.dK kvs))∨∃kvs,H p=Z (.dT kvs)))∨(T="set"/\∃S n,H p=Z (.set S n))
 |_=>False
theorem Bk{T:String}{x:V}{v:hH}(I:Inv X pins σ H s)(r:RelV x v)(ty:tyV X.K T x H):
 s.TypeIs v T/\∀a,v=.ref a->∃ob,s.heap.get? a=Z ob/\ob.dict=Y:=by
 cases x with
 |str z=>
  obtain⟨t,rfl⟩:=r
  cases(show T="str" from ty)
  exact⟨typeIs_str s z t,λ_ e=>nomatch e⟩
 |int i=>
  obtain⟨t,rfl⟩:=r
  cases(show T="int" from ty)
  exact⟨Qe s i t,λ_ e=>nomatch e⟩
 |ref p=>
  cases r
  rcases ty with⟨rfl,xs,B⟩|⟨rfl,o,j,F,hd⟩|⟨rfl,j⟩|⟨rfl,S,n,j⟩
  ·obtain⟨its,_,pl,_⟩:=I.list B;refine⟨pl.isList.typeIs,λa e=>?_⟩
   cases e
   obtain⟨o,n,e,c,hd,_⟩:=pl;exact⟨o,e,hd⟩
  ·refine⟨⟨o,I.kIn p o j,F⟩,λa e=>?_⟩
   cases e
   exact⟨o,I.kIn _ o j,hd⟩
  ·have z:∃o,s.heap.get? p=Z o/\o.ExactDict:=by
    rcases j with⟨kvs,j⟩|⟨kvs,j⟩
    ·obtain⟨_,_,_,_,o,_,_,e,ex,_⟩:=I.hok p _ j;exact⟨o,e,ex⟩
    ·obtain⟨_,_,_,_,o,_,_,e,ex,_⟩:=I.hok p _ j;exact⟨o,e,ex⟩
   obtain⟨o,e,ex⟩:=z;refine⟨⟨o,e,ex.1⟩,λa q=>?_⟩
   cases q
   exact⟨o,e,ex.2.1⟩
  ·obtain⟨o,_,_,_,e,ex,_⟩:=I.hok p _ j;refine⟨⟨o,e,ex.1⟩,λa q=>?_⟩
   cases q
   exact⟨o,e,ex.2.1⟩
 |_=>exact False.elim ty
noncomputable def tBM(K:Frag)(T:String)(r:V->List V->Hp->VK->Prop)(to:TE)(t:TA):TE:=λσ H Q=>to σ H λx H1=>tyV K T x H1/\t σ H1 λxs H2=>r x xs H2 Q
variable{o e:Expr}{es:List Expr}{to:TE}{t:TA}{name:Str}{apos cpos:Pos}{T id:String}{r:V->List V->Hp->VK->Prop}
theorem yp (pa:PlainAttrs T)(slot:Slot T name id)(F:typeOf (.builtin id)=pure (.type "method_descriptor"))(hm:MtR X id r)(ho:PE X o to)(U:PA X (e::es) t)(q:Rg o name X.env (eval o X.env)=eval o X.env:=by rfl)(B:((NP cpos (JJ (e::es) X.env)).all (fun x=>!x.1)&&(backToKw cpos (SG [] X.env)).all (fun x=>x.1.isSome)
   && decide ((e::es).length+([]:List Qf).length+(if([]:List Qf).isEmpty then 0 else 1)<30))=N2:=by rfl)(z:(apos.endLine==cpos.line)=N2:=by rfl)(hs:JJ (e::es) X.env=(Ua,eval e X.env)::JJ es X.env:=by rfl)(j:(NP cpos (JJ es X.env)).any (·.1)=Ua:=by rfl):
 PE X (.Call (.Attribute o name apos) (e::es) [] cpos) (tBM X.K T r to t):=by
 intro pins s σ H Q I h;refine wpAny_Call_method_late q B z rfl (thn (ho pins s σ H _ I h) λv s1 G=>?_);obtain⟨x,H1,J,L,ty,F2⟩:=G;obtain⟨h1,h2⟩:=Bk J L ty;refine⟨T,id,pa,slot,F,h1,h2,?_⟩;have O:=U cpos pins s1 σ H1 _ J F2;rw[hs]at O⊢;refine Qg (by show(Ua || (NP cpos (JJ es X.env)).any (·.1))=Ua;rw[j]<;>rfl) (QE ?_)
 exact thn O λus s2 G=>(by obtain⟨vs,H2,fv,r2,q2⟩:=G;exact hm pins s2 σ H2 x vs v us Q fv L r2 q2)
end
end
section
def MtM(X:Cx)(id:String)(r:V->List V->Hp->VK->Prop):Prop:=
 ∀(pins:List (Ub×Obj)) (s:I7) (σ:St) (H:Hp) (x:V) (xs:List V) (v:hH) (us:List hH) (Q:VK),Inv X pins σ H s->RelV x v->Vals xs us->r x xs H Q->
  Jm (model X.prog X.w) X.A (call (.builtin id) (v::us)) (EP X pins σ Q) X.xe s
theorem Vals.one:∀{x:V} {us:List hH},Vals [x] us->∃u,us=[u]/\RelV x u
 |_,_,.cons r .nil=>⟨_,rfl,r⟩
theorem Vals.rep{xs:List V}{us:List hH}(h:Vals xs us):∀k:Nat,Vals (IY k xs).flatten (IY k us).flatten
 |0=>.nil
 |k+1=>by rw[KR,KR,Ko,Ko];exact Vals.append h (Vals.rep h k)
theorem fY(its:List hH):∀(k:Nat) (acc:List hH),
 Og (λj q=>j++q) acc.toArray (IY k its.toArray)=(acc++(IY k its).flatten).toArray
 |0,acc=>by simp
 |k+1,acc=>by
  have e:acc.toArray++its.toArray=(acc++its).toArray:=by simp
  have z:(acc++its)++(IY k its).flatten=acc++(IY (k+1) its).flatten:=by rw[KR,Ko,Jq]
  rw[<-z,<-fY its k (acc++its),<-e,KR,L5]
section
variable{X:Cx}{pins:List (Ub×Obj)}{σ:St}{H:Hp}{s:I7}{l b:Ub}{xs ys zs:List V}
theorem Inv.lset{its':List hH}{n:Nat}{f:Array hH->Array hH}{t':Nat}(I:Inv X pins σ H s)(j:H l=Z (.lst xs))(e:s.heap.get? l=Z {cls:=.type "list",data:=.seq its.toArray n})(hf:f its.toArray=its'.toArray)(z:Vals ys its')(B:ys.length<=J9):
 Inv X pins σ (upd H l (.lst ys)) {s with heap:=s.heap.update l (MY f),toks:=t'}:=by
 have q:=PySem.IsL.update e f;rw[hf]at q;refine I.write (x:=l) (e:=l) (by rw[j];exact trivial) (.inl rfl) (λb' u F G=>(Qc s.heap (MY f) (Ne.symm F)).trans G) ⟨_,q⟩ ?_
 exact⟨B,its',_,z,q⟩
theorem Inv.lnew{t':Nat}(I:Inv X pins σ H s)(j:Vals ys its)(z:ys.length<=J9):
 Inv X pins σ (upd H s.heap.objs.size (.lst ys)) {s with heap:=s.heap.push {cls:=.type "list",data:=.seq its.toArray},toks:=t'}:=
 I.laid (λ_ _ q=>D0 _ q) (J6 _) ⟨z,its,0,j,Jf _ rfl⟩
theorem Inv.fresh(I:Inv X pins σ H s):H s.heap.objs.size=Y:=I.hok.fresh (J6 _)
theorem Inv.lstM(I:Inv X pins σ H s)(j:H l=Z (.lst xs)):xs.length<=J9/\∃(its:List hH) (n:Nat),Vals xs its/\xs.length=its.length/\s.heap.get? l=Z {cls:=.type "list",data:=.seq its.toArray n}:=by obtain⟨z,its,n,r,e⟩:=I.hok l _ j;exact⟨z,its,n,r,r.length,e⟩
theorem mX{n:Nat}(h:n<=J9):MB n=Ua:=by unfold MB;exact decide_eq_false ∅
end
section
variable{X:Cx}
noncomputable def qe:V->List V->Hp->VK->Prop:=λx vs H Q=>∃l xs y,x=.ref l/\vs=[y]/\H l=Z (.lst xs)/\xs.length<J9/\Q .non (upd H l (.lst (xs++[y])))
theorem kL:MtM X "list.append" qe:=by
 intro pins s σ H x vs v us Q I rx rv h;obtain⟨l,xs,y,rfl,rfl,j,B,q⟩:=h
 cases rx
 obtain⟨u,rfl,ru⟩:=rv.one;obtain⟨z,its,n,r,G,e⟩:=I.lstM j;refine P9 F.slot_list_append ⟨_,e,rfl⟩ F.entry_list_append (F.args_list_append_2 _ _) (PySem.list_append l its.toArray n u (by rw[Ji];lia)) ⟨e,?_⟩
 refine⟨.non,_,I.lset (its':=its++[u]) j e (by simp) (r.append (.cons ru .nil)) ?_,rfl,q⟩
 rw[q7,JC];lia
noncomputable def qf:V->List V->Hp->VK->Prop:=λx vs H Q=>∃l b xs zs,x=.ref l/\vs=[.ref b]/\H l=Z (.lst xs)/\H b=Z (.lst zs)/\xs.length+zs.length<=J9/\Q .non (upd H l (.lst (xs++zs)))
theorem tM:MtM X "list.extend" qf:=by
 intro pins s σ H x vs v us Q I rx rv h;obtain⟨l,b,xs,zs,rfl,rfl,G,J,fv,q⟩:=h
 cases rx
 obtain⟨u,rfl,ru⟩:=rv.one
 cases ru
 obtain⟨z,its,n,r,hl,e⟩:=I.lstM G;obtain⟨z2,j,L,O,U,F2⟩:=I.lstM J;have hsz:its.toArray.size+j.toArray.size<=J9:=by rw[Ji,Ji];lia
 have B:¬(!its.toArray.isEmpty&&MB (its.toArray.size+j.toArray.size))=N2:=by rw[mX hsz,Bool.and_false];exact Jg
 refine P9 F.slot_list_extend ⟨_,e,rfl⟩ F.entry_list_extend (F.args_list_extend_2 _ _)
  (AutoSeq1.list_extend_list_list_0 l its.toArray n b j.toArray L B (by rw[Ji];lia) ∅) ⟨e,F2,?_⟩
 refine⟨.non,_,I.lset (its':=its++j) G e (by simp) (r.append O) ?_,rfl,q⟩
 rw[q7];lia
noncomputable def El:R2:=λx y H Q=>∃l b xs zs,x=.ref l/\y=.ref b/\H l=Z (.lst xs)/\H b=Z (.lst zs)/\xs.length+zs.length<=J9/\∀p,H p=Y->Q (.ref p) (upd H p (.lst (xs++zs)))
theorem op_cat:OpR X (Lb .Add) El:=by
 intro pins s σ H x y v u Q I rx ry h;obtain⟨l,b,xs,zs,rfl,rfl,B,F,O,q⟩:=h
 cases rx
 cases ry
 obtain⟨z,its,n,r,U,e⟩:=I.lstM B;obtain⟨F2,j,fv,G,J,L⟩:=I.lstM F;refine PySem.P.add_list e L ?_ (by rw[Ji,Ji];lia)
 have ea:its.toArray++j.toArray=(its++j).toArray:=by simp
 rw[ea];exact⟨.ref _,_,I.lnew (t':=s.toks) (r.append G) (by rw[q7];lia),rfl,q _ I.fresh⟩
noncomputable def Em:R2:=λx y H Q=>∃l k xs,x=.ref l/\y=.int k/\H l=Z (.lst xs) /\ -(2^63)<=k/\k<2^63/\xs.length*k.toNat<=J9 /\
 ∀p,H p=Y->Q (.ref p) (upd H p (.lst (IY k.toNat xs).flatten))
theorem qg{α:Type}(xs:List α)(k:Nat):(IY k xs).flatten.length=k*xs.length:=by
 induction k with
 |zero=>simp
 |succ k ih=>rw[KR,Ko,q7,ih,Kq,RT]
theorem op_rep:OpR X (Lb .Mult) Em:=by
 intro pins s σ H x y v u Q I rx ry h;obtain⟨l,k,xs,rfl,rfl,fv,h1,h2,F2,q⟩:=h
 cases rx
 obtain⟨t,rfl⟩:=ry;obtain⟨z,its,n,r,hl,e⟩:=I.lstM fv;have hlen:its.toArray.size*k.toNat<=J9:=by rw[Ji,<-hl];exact F2
 have B:¬its.toArray.size*k.toNat > (2^63-1) / 8:=by
  have:(J9:Nat)<=(2^63-1) / 8:=by decide
  lia
 have G:¬(!Builtin.List.listFitsIndex k)=N2:=by rw[fitsIndex_both h1 h2];exact Jg
 have j:¬MB (its.toArray.size*k.toNat)=N2:=by rw[mX hlen];exact Jg
 have J:Og (λL O=>L++O) #[] (IY (if its.toArray.isEmpty=N2 then 0 else k.toNat) its.toArray)=(IY k.toNat its).flatten.toArray:=by
  have f0:∀m:Nat,Og (λL O=>L++O) #[] (IY m its.toArray)=(IY m its).flatten.toArray:=λm=>by have:=fY its m [];rw[OH]at this;exact this
  rw[f0]
  cases its with
  |nil=>simp
  |cons a r'=>rw[if_neg (by simp)]
 refine Ph (T:="list") (U:="int") (by decide) ⟨_,e,rfl⟩ (λs'=>Qe s' k t) noFill_list_mul SV OI repeat_list F.slot_int_index.lookup
  (P9 OI (Qe s k t) Se (RU _ _) (int___rmul___int_list k t l its.toArray n)
    ⟨e,rfl,⟨_,e,rfl⟩,P9 F.slot_list_mul ⟨_,e,rfl⟩ F.entry_list_mul (F.args_list_mul_2 _ _) (AutoListH.list___mul___list_int_3 l its.toArray n k t G B j) ⟨e,?_⟩⟩)
 rw[J];exact⟨.ref _,_,I.lnew (t':=s.toks) (r.rep k.toNat) (by rw[qg,NV];exact F2),rfl,q _ I.fresh⟩
end
end
end L2
namespace Att
open PySem PySem.W PySem.Calls PyProof.Rows
theorem ja{P:Params}{h:Heap}:∀(ns:List Int) (vs:List hH),WellAll P h vs (ns.map WData.int)->T8 vs ns:=by
 intro ns
 induction ns with
 |nil=>
  intro vs w;rw[Kx]at w
  cases w
  exact .nil
 |cons n ns ih=>
  intro vs w;rw[Jr]at w
  cases w with
  |cons a b=>
   cases a
   exact .cons _ _ (ih _ b)
theorem tN{l:OpenLaw}{n:Nat}(O:l.most=Z n){P:Params}{h:Heap}{args:List WData}{vals:List hH}(j:l.row.toRowW.claim.pre args=N2)(G:WellAll P h vals args):
 ∃a vs ns,vals=[KY a]/\args=[WData.list (ns.map WData.int)]/\h.get? a=Z {cls:=.type "list",data:=.seq vs.toArray}/\T8 vs ns/\ns.length<=n:=by
 have J:WShape.hasAll [] args [.list .int]=N2:=(pre_splitW j).1;have L:l.pre.holds [] {args:=args}=N2:=(pre_splitW j).2;obtain⟨d,r,rfl,h1,h2⟩:=hasAllW_cons J;obtain rfl:=hasAllW_nil h2;obtain⟨xs,rfl,U⟩:=hasW_list h1;obtain⟨ns,rfl⟩:=items_int U;have hlen:ns.length<=n:=by
  unfold OpenLaw.pre at L;have B:(WTm.not (.lt (.lit (.int (n:Int))) (.len (.arg 0)))).holds [] {args:=[.list (ns.map .int)]}=N2:=by have B:=(holds_andW L).1;rw[O]at B;exact B
  have F:=condW_of B (w_not (w_lt w_lit (w_len_list (w_arg rfl))));rw[h7]at F;refine Nat.le_of_not_lt λq=>?_;have q':(n:Int)<((ns.length:Nat):Int):=∅
  first
   |(rw[decide_eq_true q']at F;exact absurd F (by decide))
   |(simp at F;lia)
 cases G with
 |cons F2 fv=>
  cases fv
  cases F2 with
  |list ho z=>exact⟨_,_,ns,rfl,rfl,ho,ja ns _ z,hlen⟩
theorem tO(l:OpenLaw)(args:List WData):l.row.toRowW.claim.post args (.bool N2) args=N2:=
 postW_of (r:=l.row.toRowW) (X:=(N2==N2))
  (show WShape.has [] (.bool N2) .bool=N2 by first|rfl|decide|simp[WShape.has,WShape.arms,WShape.armsAll])
  (show(WTm.eq .res (.lit (.bool N2))).value [] {args:=args,res:=Z (.bool N2),after:=args}=Z (.bool (N2==N2))from w_eq_bool (w_res rfl) w_lit) rfl
theorem attach_call {l:OpenLaw}{n:Nat}{q:JB}{loose:List Str}{XP:(Str->Option hH)->Heap->Prop}{YP:K1->Heap->Prop}{d:DefRec}(fv:l.most=Z n)(B:d.params.defaults=[])(call:∀(w:K1) (s₀ s₁:I7) (mg mb:Str->Option hH) (fa:Ub) (o:Obj) (pm cd doc:hH) (a:Ub) (vs:List hH) (ns:List Int),
   Ground q loose [] XP w s₀ mg mb s₁.heap->YP w s₁.heap->
   s₁.heap.get? fa=Z o->o.data=.func (docDef d.name d.params d.body d.scope pm cd doc)->s₁.heap.CodeRec cd d.name->mg d.name=Z (.ref fa)->
   s₁.heap.get? a=Z {cls:=.type "list",data:=.seq vs.toArray}->T8 vs ns->ns.length<=n->s₁.gens=#[]->
   Ow (model l.prog w) R3 (.call (.ref fa) ⟨[.ref a],[]⟩) (λr s'=>r=.ok (.ret (.bool N2))/\OldK s₁.heap s'.heap/\s'.os=s₁.os/\Pq s'.gens) s₁):
 WalkO q loose XP YP l.row.toRowW d [] (λf vs=>Tg f vs):=by
 intro w s₀ s₁ mg mb G F2 fa o pm cd doc dV kV ho hd F O J hg args vals as j U GA L GB;obtain rfl:dV=.none:=Dflts.none O B;obtain rfl:kV=.none:=Dflts.noKw O;obtain⟨a,vs,ns,rfl,rfl,z,hints,hlen⟩:=tN fv j L;refine enter_call (NS (call w s₀ s₁ mg mb fa o pm cd doc a vs ns G F2 ho (fd_plain hd) F J z hints hlen hg) λr s' hq=>?_);obtain⟨rfl,h2,h3,h4⟩:=hq;exact⟨.inl ⟨.bool N2,.bool N2,[],rfl,λ_=>rfl,.bool N2,tO l _,λ_=>⟨Pu,λ_ hm=>(nomatch hm)⟩⟩,h2,h3,h4⟩
section
variable{prog:JB}{w:K1}{A:Kh}{E:hH->I7->Prop}{s:I7}{K:Frag}
noncomputable def Ft(h:Heap)(L d:Ub):List (Ub×Obj):=(J2 h.objs.size).filterMap λa=>if a=L∨a=d then Y else(h.get? a).map λo=>(a,o)
end
end Att
namespace L2
open PySem PySem.Spec PyProof.Rows
variable{fd:Nm}{x:Str}
section
theorem kM:∀{vs:List hH} {ns:List Int},T8 vs ns->Vals (ns.map V.int) vs
 |_,_,.nil=>.nil
 |_,_,.cons n t h=>.cons ⟨t,rfl⟩ (kM h)
def rA(H:Hp):Prop:=∀b,H b=Y∨∃o xs,H b=Z (.frz o (.lst xs))
theorem we{P:JB}{w:K1}{K:Frag}{mg mb:Str->Option hH}{CX:CXT}{k:Nat}{fa a:Ub}{sp:Sp}{s₁:I7}{vs:List hH}{ns:List Int}(KX:K.In s₁.heap)(G:s₁.heap.Ns KQ mg)(j:s₁.heap.Ns Ta mb)(F2:∀x:Str,x≠"__name__"->mb x=OR x)(J:s₁.heap.NoLimit)(hg:s₁.gens=#[])(U:s₁.heap.get? a=Z {cls:=.type "list",data:=.seq vs.toArray})(hi:T8 vs ns)(hl:ns.length<=J9)(hr:Room k R3)(F:∀base:Heap,K.In base->base.Ns KQ mg->dP P w K mg base CX k fa fd [x] sp)(B:∀(s:I7) (u:hH),RL s fd ⟨[u],[]⟩ [(x,u)])(fv:∀H:Hp,rA H->SqL K H a (ns.map V.int)->sp [.ref a] H (λv _=>v=.bl N2) λ_ _ _=>False)(GA:∀H e s',CX [] H s₁ (λ_ _ _=>False) e s'->False):
 Ow (model P w) R3 (.call (.ref fa) ⟨[.ref a],[]⟩) (λr s'=>r=.ok (.ret (.bool N2))/\OldK s₁.heap s'.heap/\s'.os=s₁.os/\Pq s'.gens) s₁:=by
 have rv:=kM hi;have lenV:=hi.length;have core:∀H:Hp,rA H->SqL K H a (ns.map V.int)->HOk P w H s₁.heap->(∀b,H b≠Y->b=a)->(H a≠Y->K.lookup a=Y)->
  Ow (model P w) R3 (.call (.ref fa) ⟨[.ref a],[]⟩) (λr s'=>r=.ok (.ret (.bool N2))/\OldK s₁.heap s'.heap/\s'.os=s₁.os/\Pq s'.gens) s₁:=by
  intro H hO hS hok hA hK;have base_of:∀{b:Ub} {o:Obj},s₁.heap.get? b=Z o->H b=Y->(fw s₁.heap H).get? b=Z o:=λe n=>vT e n;have noA:∀{b:Ub} {o:Obj} {es:Array LQ} {ep:Nat},s₁.heap.get? b=Z o->o.data=.dict es ep->H b=Y:=λ{b o es ep} e d=>by
   cases q:H b with
   |none=>rfl
   |some u=>
    have e':b=a:=hA b (by rw[q];simp)
    subst e';rw[U]at e;cases e;have d':Oz vs.toArray _=Data.dict es ep:=d
    cases d'
  have nsK:∀{b:Ub} {m:Str->Option hH},s₁.heap.Ns b m->(fw s₁.heap H).Ns b m:=λ{b m} g9=>(by obtain⟨o,es,ep,e,d,r⟩:=g9;exact⟨o,es,ep,base_of e (noA e d),d,r⟩)
  have L:K.In (fw s₁.heap H):=λb o e=>base_of (KX b o e) (by
   cases q:H b with
   |none=>rfl
   |some u=>
    have e':b=a:=hA b (by rw[q];simp)
    subst e';rw[hK (by rw[q];simp)]at e;cases e)
  have hM:Mod K mg (fw s₁.heap H):=⟨L,nsK G,⟨mb,nsK j,F2⟩,let⟨mc,h1,h2⟩:=J; ⟨mc,nsK h1,h2⟩⟩;have e0:rl P w K mg (fw s₁.heap H) R3 [] s₁ H:=⟨rfl,hM,λb o e=>yU e,RV (tm _ _),trivial,λb j=>absurd (show b∈([]:List Ub)from j) (by simp),hok,.of_eq hg⟩
  refine NS ((F _ L (nsK G)).run R3 [] s₁ H ⟨[.ref a],[]⟩ [.ref a] [.ref a] _ _ hr e0 (B s₁ (.ref a)) (.cons rfl .nil) (fv H hO hS)) λr s' h=>?_
  cases r with
  |error e=>exact(GA H e s' h).elim
  |ok fl=>
   cases fl with
   |next=>exact False.elim h
   |brk=>exact False.elim h
   |cont=>exact False.elim h
   |ret u=>
    obtain⟨v,H',os,bare,un,O,r',q⟩:=h;have q':v=.bl N2:=q;subst q';obtain rfl:u=T9 N2:=r';refine⟨rfl,OldK.of_keep λb o e=>?_,os,bare⟩
    cases q:H b with
    |none=>exact un.keep b o e q (by intro z;exact absurd (show b∈([]:List Ub)from z) (by simp)) (by simp)
    |some u=>
     rcases hO b with z|⟨ob,xs,z⟩
     ·rw[q]at z;cases z
     ·have z2:=un.frzs b ob _ z;obtain⟨e1,_⟩:=hok b _ z;obtain⟨e2,_⟩:=O b _ z2;rw[e]at e1;cases e1;exact e2
 cases hk:K.lookup a with
 |some o=>
  have e:=KX a o hk;rw[U]at e
  cases e
  refine core (λ_=>Y) (λ_=>.inl rfl) (.inr ⟨_,vs.toArray,_,hk,rfl,rfl,rfl,by rw[Ji,lenV];exact hl,by simpa using rv⟩) (λb u z=>by have z':(Y:Option HO)=Z u:=z;cases z') (λb z=>absurd rfl z) λz=>absurd rfl z
 |none=>
  refine core (λb=>if b=a then Z (.frz {cls:=.type "list",data:=.seq vs.toArray} (.lst (ns.map V.int)))else Y) (λb=>?_) (.inl (.inr ⟨{cls:=.type "list",data:=.seq vs.toArray},if_pos rfl⟩)) (λb u z=>?_) (λb z=>?_) λ_=>hk
  ·by_cases j:b=a
   ·exact .inr ⟨_,_,if_pos j⟩
   ·exact .inl (if_neg j)
  ·by_cases j:b=a
   ·have z':=(if_pos j).symm.trans z
    cases z'
    subst j;exact⟨U,by rw[h7];exact hl,vs,_,rv,U⟩
   ·have z':=(if_neg j).symm.trans z
    cases z'
  ·by_cases j:b=a
   ·exact j
   ·exact absurd (if_neg j) z
end
section
theorem walk_of {l:Qp}{n k:Nat}{q:JB}{loose:List Str}{XP:(Str->Option hH)->Heap->Prop}{YP:K1->Heap->Prop}{d:DefRec}{K:Params->Frag}{CX:K1->CXT}{sp:K1->Sp}(U:l.most=Z n)(z:n<=J9)(B:d.params.defaults=[])(fv:Room k R3)(hY:∀(w:K1) (h:Heap),YP w h->(K w.params).In h)(F:∀(w:K1) (mg:Str->Option hH) (fa:Ub) (h:Heap),(K w.params).In h->h.Ns KQ mg->mg d.name=Z (.ref fa)->
   ∃fd:Nm,(∀(s:I7) (u:hH),RL s fd ⟨[u],[]⟩ [(x,u)]) /\
    ∀base:Heap,(K w.params).In base->base.Ns KQ mg->dP l.prog w (K w.params) mg base (CX w) k fa fd [x] (sp w))(J:∀(w:K1) (H:Hp) (a:Ub) (ns:List Int),ns.length<=n->rA H->SqL (K w.params) H a (ns.map V.int)->sp w [.ref a] H (λv _=>v=.bl N2) λ_ _ _=>False)(L:∀(w:K1) (H:Hp) (s:I7) (e:hH) (s':I7),CX w [] H s (λ_ _ _=>False) e s'->False):
 PySem.W.WalkO q loose XP YP l.row.toRowW d [] (λf vs=>Tg f vs):=by
 refine Att.attach_call U B λw s₀ s₁ mg mb fa o pm cd doc a vs ns G F2 ho hd GA O j hints hlen hg=>?_;have KX:=hY w _ F2;obtain⟨fd,hb,hF⟩:=F w mg fa _ KX G.T.g O;exact we KX G.T.g G.T.b G.T.builtins G.T.nolimit hg j hints (K0 hlen z) fv hF hb (λH hO hS=>J w H a ns hlen hO hS) λH e s'=>L w H s₁ e s'
end
variable{qual:Str}{st:Stmt}{f:Ub}
section
noncomputable def dC(s:Stmt):Arguments:=match s with
 |.FunctionDef _ a _ _ _ _ _ _ _ _=>a
 |_=>{posonlyargs:=[],args:=[],vararg:=Y,kwonlyargs:=[],kw_defaults:=[],kwarg:=Y,defaults:=[]}
noncomputable def ce(s:Stmt):List Stmt:=match s with
 |.FunctionDef _ _ b _ _ _ _ _ _ _=>b
 |_=>[]
noncomputable def aB(s:Stmt):Scope:=match s with
 |.FunctionDef _ _ _ _ _ _ sc _ _ _=>sc
 |_=>{kind:=.function,names:=[],isGenerator:=Ua,isCoroutine:=Ua}
noncomputable abbrev CX0:CXT:=λ_ _ _ _ _ _=>False
noncomputable abbrev E0:XK:=λ_ _ _=>False
theorem yq{X:Cx}:j8 CX0 X E0:=λ_ _ _ _ _ _ _ h=>h.elim
structure Fun(K:Frag)(x qual:Str)(st:Stmt)(f:Ub)(fd:Nm):Prop where
 ex:∃(oc:hH) (od:Option Ub) (kV doc pm:hH) (an:Option Ub) (cdv ct:hH) (osl:Array (Option hH)),
  fd=MX x qual (dC st) (ce st) (aB st) .none kV doc pm an cdv ct/\K.lookup f=Z ⟨oc,od,.func fd,osl⟩/\P5 K cdv qual=N2
 kp:Np K (.ref f)=N2
section
variable{P:JB}{w:K1}{K:Frag}{mg:Str->Option hH}{base:Heap}
theorem Fun.ok {N ps:List Str}{k:Nat}{sp:Sp}(F:Fun K x qual st f fd)(S:gG N ps (aB st))(len:∀vs H Q E,sp vs H Q E->vs.length=ps.length)(j:∀(cdv:hH) (A:Kh) (outer:List Env) (s:I7) (H:Hp) (vs:List V) (Q:VK) (E:XK),Room k (A.deeper (QC qual (aB st) s.heap.objs.size f cdv))->sp vs H Q E->
   ∃t,PSs (iD CX0 P w K mg base N qual (aB st) f cdv A outer s H E).nox (ce st) t/\t {nx:=λ_ H'=>Q .non H',rt:=Q} (cS N vs) H):dP P w K mg base CX0 (k+1) f fd ps sp:=by
 obtain⟨oc,od,kV,doc,pm,an,cdv,ct,osl,rfl,lk,z⟩:=F.ex;refine Da lk z S len λA outer s H vs Q E G B=>?_;obtain⟨t,h,q⟩:=j cdv A outer s H vs Q E G B;exact⟨t,h.nox,q⟩
theorem Fun.binds{ps:List Str}(F:Fun K x qual st f fd)(h:∀(kV doc pm:hH) (an:Option Ub) (cdv ct:hH) (us:List hH),us.length=ps.length->bindArgs (MX x qual (dC st) (ce st) (aB st) .none kV doc pm an cdv ct) ⟨us,[]⟩=pure (ps.zip us)):Binds K fd ps []:=by obtain⟨oc,od,kV,doc,pm,an,cdv,ct,osl,rfl,lk,j⟩:=F.ex;exact .all (h kV doc pm an cdv ct)
theorem ae{oc:hH}{od an:Option Ub}{osl:Array (Option hH)}{kV doc pm cdv ct:hH}(l:K.lookup f=Z ⟨oc,od,.func (MX x qual (dC st) (ce st) (aB st) .none kV doc pm an cdv ct),osl⟩)(c:P5 K cdv qual=N2)(k:Np K (.ref f)=N2):Fun K x qual st f (MX x qual (dC st) (ce st) (aB st) .none kV doc pm an cdv ct):=⟨⟨oc,od,kV,doc,pm,an,cdv,ct,osl,rfl,l,c⟩,k⟩
end
end
end L2
namespace HT
open PySem PySem.Spec PyProof.Rows
section
variable{prog:JB}{w:K1}{A:Kh}{E:hH->I7->Prop}{s:I7}
theorem getItem_tuple_whole{t sl:Ub}{items:Array hH}{vl vu:hH}{lo hi:Option Int}{Q:hH->I7->Prop}(j:IsTup s.heap t items)(hs:s.heap.IsSliceOf sl vl vu .none)(pl:Q9 vl lo)(pu:Q9 vu hi)(hw:sIx items.size 0 lo=0/\sIx items.size items.size hi=items.size)(h:Q (.ref t) s):Jm (model prog w) A (Qa (.ref t) (.ref sl)) Q E s:=by
 obtain⟨os,q,z,G⟩:=id hs;have B:s.TypeIs (.ref sl) "slice":=⟨os,q,z⟩;unfold Qa
 try with_reducible refine Kj ?_
 first|refine gV (D2 ?_)|skip
 refine gV (RP j.typeIs (by decide) ?_)
 refine gV (JY (name:=JN "__getitem__") j.typeIs Lw
  (K7 Lw j.typeIs R7 ?_ (Rw _ _)))
 show Jm _ _ (P7 (.ref t)>>=_) _ _ s;refine gV (tupleItemsOf_ j ?_);refine gV (Mv B ?_);rw[if_pos (by decide)]
 refine gV (dQ hs pl pu ?_);have F:(((sIx items.size 0 lo:Nat):Int)==0&&(1:Int)==1&&(sIx items.size items.size hi-sIx items.size 0 lo)==items.size)=N2:=by rw[hw.1,hw.2];simp
 show Jm _ _ (if(((sIx items.size 0 lo:Nat):Int)==0&&(1:Int)==1&&(sIx items.size items.size hi-sIx items.size 0 lo)==items.size)=N2 then _ else _) _ _ s
 rw[if_pos F];refine gV (m:=Pa (.ref t)) ?_;unfold Pa;refine gV (Mv j.typeIs (D2 ?_));show Jm _ _ (if N2=N2 then _ else _) _ _ s
 rw[if_pos rfl];exact gV (Ll (D2 ⟨_,rfl,D2 h⟩))
end
end HT
namespace L2
open PySem PySem.Spec PyProof.Rows
section
section
variable{X:Cx}
noncomputable def Eo(K:Frag):V->Option Int->Option Int->Hp->VK->Prop:=λx lo hi H Q=>∃a xs,x=.ref a/\SqT K H a xs/\(HT.sIx xs.length 0 lo=0/\HT.sIx xs.length xs.length hi=xs.length)/\Q x H
theorem wf:SlR X (Eo X.K):=by
 intro pins s σ H x v vl vu lo hi sl Q I rx hs pl pu h;obtain⟨a,xs,rfl,hx,hw,q⟩:=h
 cases rx
 obtain⟨its,r,j,z⟩:=I.tuple hx;have hlen:=r.length;refine⟨"tuple",_,slot_tuple_getitem.lookup,j.typeIs,?_⟩;refine HT.getItem_tuple_whole j hs pl pu (by rw[Ji,<-hlen];exact hw) ⟨.ref a,H,I,rfl,q⟩
end
end
variable{u:hH}{y:V}{P:JB}{w:K1}{H H':Hp}{kvs:List (List Key×V)}{xs:List (List Key×Ub×hH)}{b a:Ub}{h':Heap}{t':Nat}{X:Cx}{pos:Pos}{pins:List (Ub×Obj)}{σ:St}{s:I7}
section
section
variable{κ:Type}[DecidableEq κ]
noncomputable def bW(kvs:List (κ×V))(k:κ):Option V:=(kvs.find? λkv=>decide (kv.1=k)).map (·.2)
noncomputable def bA(kvs:List (κ×V))(k:κ)(v:V):List (κ×V):=if(kvs.any λkv=>decide (kv.1=k))=N2 then kvs.map (λkv=>if kv.1=k then(kv.1,v)else kv)else kvs++[(k,v)]
theorem fA{p:κ×V}{r:List (κ×V)}{k:κ}(e:p.1=k):bW (p::r) k=Z p.2:=by simp[bW,Lv,e]
theorem fB{p:κ×V}{r:List (κ×V)}{k:κ}(e:¬p.1=k):bW (p::r) k=bW r k:=by simp[bW,Lv,e]
theorem mY(k:κ):∀kvs:List (κ×V),(kvs.any λkv=>decide (kv.1=k))=(bW kvs k).isSome
 |[]=>rfl
 |p::r=>by
  rw[Nf]
  by_cases e:p.1=k
  ·simp only[fA e,decide_eq_true e,Bool.true_or,Rx]
  ·rw[fB e,decide_eq_false e,PD];exact mY k r
theorem cT(kvs:List (κ×V))(k:κ)(v:V):(bA kvs k v).length<=kvs.length+1:=by
 unfold bA
 split
 ·rw[h7];lia
 ·rw[q7,Jw,Mp];lia
theorem RelO.isSome_eq{o:Option V}{u:Option hH}(r:RelO o u):o.isSome=u.isSome:=by
 cases o with
 | none=>cases u with
   |none=>rfl
   |some _=>exact(show False from r).elim
 | some _=>cases u with
   |none=>exact(show False from r).elim
   |some _=>rfl
theorem RelO.getD{o:Option V}{u:Option hH}{d:V}{d':hH}(r:RelO o u)(rd:RelV d d'):RelV (o.getD d) (u.getD d'):=by
 cases o with
 | none=>cases u with
   |none=>exact rd
   |some _=>exact(show False from r).elim
 | some _=>cases u with
   |none=>exact(show False from r).elim
   |some _=>exact r
theorem KV.val{kvs:List (κ×V)}{vs:List (κ×hH)}(r:KV kvs vs)(k:κ):RelO (bW kvs k) (R4 vs k):=by
 unfold KV at r
 induction r with
 |nil=>exact Oh
 |@cons p q ps qs h t ih=>
  obtain⟨h1,h2⟩:=h
  by_cases e:p.1=k
  ·have e':q.1=k:=h1.symm.trans e;have b:R4 (q::qs) k=Z q.2:=by simp[R4,Lv,e']
   rw[fA e,b];exact h2
  ·have e':¬q.1=k:=λz=>e (h1.trans z);have b:R4 (q::qs) k=R4 qs k:=by simp[R4,Lv,e']
   rw[fB e,b];exact ih
theorem KV.any{kvs:List (κ×V)}{vs:List (κ×hH)}(r:KV kvs vs)(k:κ):(kvs.any λkv=>decide (kv.1=k))=vs.any λkv=>decide (kv.1=k):=by
 unfold KV at r
 induction r with
 |nil=>rfl
 |cons h t ih=>rw[Nf,Nf,ih,h.1]
theorem KV.repl{kvs:List (κ×V)}{vs:List (κ×hH)}(r:KV kvs vs)(k:κ)(ry:RelV y u):
 KV (kvs.map λkv=>if kv.1=k then(kv.1,y)else kv) (vs.map λkv=>if kv.1=k then(kv.1,u)else kv):=by
 unfold KV at r⊢
 induction r with
 |nil=>exact .nil
 |@cons p q ps qs h t ih=>
  rw[Jr,Jr];refine .cons ?_ ih;obtain⟨h1,h2⟩:=h
  by_cases e:p.1=k
  ·rw[if_pos e,if_pos (h1.symm.trans e)];exact⟨h1,ry⟩
  ·rw[if_neg e,if_neg (λz=>e (h1.trans z))];exact⟨h1,h2⟩
theorem KV.put{kvs:List (κ×V)}{vs:List (κ×hH)}(r:KV kvs vs)(k:κ)(ry:RelV y u):KV (bA kvs k y) (stored vs k u):=by
 unfold bA stored;rw[r.any k]
 by_cases e:(vs.any λkv=>decide (kv.1=k))=N2
 ·rw[if_pos e,if_pos e];exact r.repl k ry
 ·rw[if_neg e,if_neg e];exact Paired.snoc r ⟨rfl,ry⟩
theorem KV.length{kvs:List (κ×V)}{vs:List (κ×hH)}(r:KV kvs vs):kvs.length=vs.length:=Lj r
end
theorem gH{k:Key}(r:RelV (kV k) u):(aE P w).is k u=N2:=by
 cases k with
 |inl i=>obtain⟨t,e⟩:=(show ∃t,u=Tu i t from r);subst e;exact pL P w i t
 |inr x=>obtain⟨t,e⟩:=(show ∃t,u=Tv x t from r);subst e;exact pM P w x t
theorem kN{P:JB}{w:K1}:∀{ks:List Key} {us:List hH},Vals (ks.map kV) us->ItemsAre (aE P w) ks us
 |[],_,r=>by rw[Kx]at r;cases r;exact .nil
 |k::ks,_,r=>by
  rw[Jr]at r
  cases r with
  |cons h t=>exact .cons (gH h) (kN t)
noncomputable abbrev KT(H:Hp):List (List Key×V)->List (List Key×Ub×hH)->Prop:=JX λp q=>p.1=q.1/\H q.2.1=Z (.tup (p.1.map kV))/\RelV p.2 q.2.2
theorem KT.val(r:KT H kvs xs)(k:List Key):RelO (bW kvs k) ((QF xs k).map (·.2)):=by
 induction r with
 |nil=>exact Oh
 |@cons p q ps qs h t ih=>
  obtain⟨h1,_,h2⟩:=h
  by_cases e:p.1=k
  ·have e':q.1=k:=h1.symm.trans e;have b:QF (q::qs) k=Z q.2:=by simp[QF,Lv,e']
   rw[fA e,b];exact h2
  ·have e':¬q.1=k:=λz=>e (h1.trans z);have b:QF (q::qs) k=QF qs k:=by simp[QF,Lv,e']
   rw[fB e,b];exact ih
theorem KT.repl(r:KT H kvs xs)(k:List Key)(ry:RelV y u):
 KT H (kvs.map λkv=>if kv.1=k then(kv.1,y)else kv) (xs.map (putAt k u)):=by
 induction r with
 |nil=>exact .nil
 |@cons p q ps qs h t ih=>
  rw[Jr,Jr];refine .cons ?_ ih;obtain⟨h1,h2,j⟩:=h;unfold putAt
  by_cases e:p.1=k
  ·rw[if_pos e,if_pos (h1.symm.trans e)];exact⟨h1,h2,ry⟩
  ·rw[if_neg e,if_neg (λz=>e (h1.trans z))];exact⟨h1,h2,j⟩
theorem KT.put(r:KT H kvs xs)(k:List Key)(j:H b=Z (.tup (k.map kV)))(ry:RelV y u):
 KT H (bA kvs k y) (storedH xs k b u):=by
 have e:(kvs.any λkv=>decide (kv.1=k))=(QF xs k).isSome:=by rw[mY,(r.val k).isSome_eq,NW]
 unfold bA storedH;rw[e]
 by_cases q:(QF xs k).isSome=N2
 ·rw[if_pos q,if_pos q];exact r.repl k ry
 ·rw[if_neg q,if_neg q];exact Paired.snoc r ⟨rfl,j,ry⟩
theorem KT.keeps(r:KT H kvs xs)(j:∀b ys,H b=Z (.tup ys)->H' b=Z (.tup ys)):KT H' kvs xs:=TN r λ_ _ z=>⟨z.1,j _ _ z.2.1,z.2.2⟩
section
variable{P:JB}{w:K1}{H:Hp}{h:Heap}{a:Ub}
theorem yr{u:HO}(ok:HOk P w H h)(e:Rd H a u):ObjOk P w H h a u:=e.ok ok
theorem gI{kvs:List (Key×V)}(ok:HOk P w H h)(e:Rd H a (.dK kvs)):kvs.length<=J9/\(a==Ks)=Ua/\∃vs,KV kvs vs/\h.DictOf (aE P w) a vs:=show ObjOk P w H h a (.dK kvs)from yr ok e
theorem Dd{kvs:List (Key×V)}(ok:HOk P w H h)(e:H a=Z (.dK kvs)):kvs.length<=J9/\(a==Ks)=Ua/\∃vs,KV kvs vs/\h.DictOf (aE P w) a vs:=gI ok (.inl e)
theorem cU{ks:List Key}(ok:HOk P w H h)(e:H a=Z (.tup (ks.map kV))):(Nq (aE P w)).is h ks a:=by obtain⟨_,its,r,o,h1,h2,n,j⟩:=(show ObjOk P w H h a (.tup (ks.map kV))from ok a _ e);exact⟨o,its.toArray,n,h1,h2,j,by simpa using kN r⟩
theorem dj(ok:HOk P w H h)(e:Rd H a (.dT kvs)):kvs.length<=J9/\(a==Ks)=Ua /\
 ∃xs,KT H kvs xs/\h.DictOfH (Nq (aE P w)) a xs:=by
 obtain⟨z,y,xs,r,o,es,ep,h1,h2,j,B,F⟩:=(show ObjOk P w H h a (.dT kvs)from yr ok e);refine⟨z,y,xs,r,o,es,ep,h1,h2,j,B,λx hx=>?_,F⟩;have all:∀{l:List (List Key×V)} {m:List (List Key×Ub×hH)},KT H l m->∀x∈m,(Nq (aE P w)).is h x.1 x.2.1:=by
  intro l m q
  induction q with
  |nil=>intro x hx;exact nomatch hx
  |@cons p q ps qs hq t ih=>
   intro x hx
   rcases Jp.mp hx with e|hx
   ·subst e;exact cU ok (by rw[<-hq.1];exact hq.2.1)
   ·exact ih x hx
 exact all r x hx
theorem rB(ok:HOk P w H h)(e:H a=Z (.dT kvs)):kvs.length<=J9/\(a==Ks)=Ua /\
 ∃xs,KT H kvs xs/\h.DictOfH (Nq (aE P w)) a xs:=dj ok (.inl e)
end
def DGet(H:Hp)(a:Ub)(y:V)(r:Option V):Prop:=(∃kvs k,Rd H a (.dK kvs)/\y=kV k/\r=bW kvs k)∨∃kvs k b,Rd H a (.dT kvs)/\y=.ref b/\H b=Z (.tup (k.map kV))/\r=bW kvs k
def DPut(H:Hp)(a:Ub)(y v:V)(H':Hp):Prop:=
 (∃kvs k,H a=Z (.dK kvs)/\y=kV k/\kvs.length<J9/\H'=upd H a (.dK (bA kvs k v))) ∨
 ∃kvs k b,H a=Z (.dT kvs)/\y=.ref b/\H b=Z (.tup (k.map kV))/\kvs.length<J9/\H'=upd H a (.dT (bA kvs k v))
theorem DGet.k{kvs:List (Key×V)}{k:Key}(e:H a=Z (.dK kvs)):DGet H a (kV k) (bW kvs k):=.inl ⟨kvs,k,.inl e,rfl,rfl⟩
theorem DPut.k{kvs:List (Key×V)}{k:Key}{v:V}(e:H a=Z (.dK kvs))(j:kvs.length<J9):DPut H a (kV k) v (upd H a (.dK (bA kvs k v))):=.inl ⟨kvs,k,e,rfl,j,rfl⟩
theorem DPut.t{k:List Key}{v:V}(e:H a=Z (.dT kvs))(eb:H b=Z (.tup (k.map kV)))(j:kvs.length<J9):DPut H a (.ref b) v (upd H a (.dT (bA kvs k v))):=.inr ⟨kvs,k,b,e,rfl,eb,j,rfl⟩
section
variable{X:Cx}{pins:List (Ub×Obj)}{σ:St}{H:Hp}{s:I7}{a:Ub}{y v:V}{u r:hH}{o:Option V}{A:Kh}{E:hH->I7->Prop}
theorem Inv.big(I:Inv X pins σ H s):Ks<s.heap.objs.size:=by have h:KQ<s.heap.objs.size:=(I.mod.glob.keeps I.bk).lt;exact Nat.lt_trans (by decide) h
theorem tP{Q:hH->I7->Prop}(q:A.units+1<LF)(I:Inv X pins σ H s)(g:DGet H a y (Z v))(ry:RelV y u)(h:∀w' s',Inv X pins σ H s'->RelV v w'->Q w' s'):
 Jm (model X.prog X.w) A (Qa (.ref a) u) Q E s:=by
 rcases g with⟨kvs,k,e,ey,l⟩|⟨kvs,k,b,e,ey,eb,l⟩
 ·subst ey;obtain⟨z,hd,vs,rel,dd⟩:=gI I.hok e;obtain⟨w',hw,rw'⟩:=U4 (v:=v) (o:=R4 vs k) (by rw[l];exact rel.val k)
  exact wpAny_getItem_of (gH ry) dd.mapOf hw (h w' _ (I.tok _) rw')
 ·subst ey
  cases(show u=KY b from ry)
  obtain⟨z,hd,xs,rel,dd⟩:=dj I.hok e;obtain⟨w',hw,rw'⟩:=U4 (v:=v) (o:=(QF xs k).map (·.2)) (by rw[l];exact rel.val k)
  obtain⟨p,B,j⟩:=Mb.mp hw;refine wpAny_getItem_heap (LC q) (cU I.hok eb) dd B ?_;rw[j];exact h w' _ (I.tok _) rw'
theorem Ep{Q:hH->I7->Prop}(j:A.units+1<LF)(I:Inv X pins σ H s)(g:DGet H a y o)(ry:RelV y u)(h:∀s',Inv X pins σ H s'->Q (.bool o.isSome) s'):
 Jm (model X.prog X.w) A (KN .In u (.ref a)) Q E s:=by
 rcases g with⟨kvs,k,e,ey,l⟩|⟨kvs,k,b,e,ey,eb,l⟩
 ·subst ey;obtain⟨z,hd,vs,rel,dd⟩:=gI I.hok e;refine wpAny_in_of (gH ry) hd dd.mapOf ?_;rw[<-(rel.val k).isSome_eq,<-l];exact h _ (I.tok _)
 ·subst ey
  cases(show u=KY b from ry)
  obtain⟨z,hd,xs,rel,dd⟩:=dj I.hok e;refine wpAny_in_heap (LC j) (cU I.hok eb) hd dd ?_;have q:=(rel.val k).isSome_eq;rw[NW]at q;rw[<-q,<-l];exact h _ (I.tok _)
theorem zn{Q:hH->I7->Prop}(j:A.units+1<LF)(I:Inv X pins σ H s)(g:DGet H a y o)(ry:RelV y u)(h:∀s',Inv X pins σ H s'->Q (.bool (!o.isSome)) s'):
 Jm (model X.prog X.w) A (KN .NotIn u (.ref a)) Q E s:=by
 rcases g with⟨kvs,k,e,ey,l⟩|⟨kvs,k,b,e,ey,eb,l⟩
 ·subst ey;obtain⟨z,hd,vs,rel,dd⟩:=gI I.hok e;refine wpAny_notIn_of (gH ry) hd dd.mapOf ?_;rw[<-(rel.val k).isSome_eq,<-l];exact h _ (I.tok _)
 ·subst ey
  cases(show u=KY b from ry)
  obtain⟨z,hd,xs,rel,dd⟩:=dj I.hok e;refine wpAny_notIn_heap (LC j) (cU I.hok eb) hd dd ?_;have q:=(rel.val k).isSome_eq;rw[NW]at q;rw[<-q,<-l];exact h _ (I.tok _)
theorem gJ{ob:HO}(I:Inv X pins σ H s)(mu:Mut (H a))(hs:Lc a s.heap h')(he:∃q,h'.get? a=Z q)(new:ObjOk X.prog X.w (upd H a ob) h' a ob):
 Inv X pins σ (upd H a ob) {s with heap:=h',toks:=t'}:=
 I.write (x:=a) (e:=a) mu (.inl rfl) (λb q j z=>(hs.2 b j).trans z) he new
theorem Bl{kvs:List (Key×V)}{vs:List (Key×hH)}(z:kvs.length<=J9)(hd:(a==Ks)=Ua)(rel:KV kvs vs)(dd:h'.DictOf (aE P w) a vs):ObjOk P w H' h' a (.dK kvs):=⟨z,hd,vs,rel,dd⟩
theorem tQ{Q:Unit->I7->Prop}(G:A.units+1<LF)(I:Inv X pins σ H s)(g:DPut H a y v H')(ry:RelV y u)(rv:RelV v r)(h:∀s',Inv X pins σ H' s'->Q () s'):
 Jm (model X.prog X.w) A (setItem (.ref a) u r) Q E s:=by
 rcases g with⟨kvs,k,e,ey,l,eH⟩|⟨kvs,k,b,e,ey,eb,l,eH⟩
 ·subst ey eH;obtain⟨z,hd,vs,rel,dd⟩:=Dd I.hok e;have B:vs.length<=J9:=by rw[<-rel.length];exact z
  have F:(bA kvs k v).length<=J9:=by have:=cT kvs k v;lia
  refine wpAny_setItem_pairs (hsz:=B) (gH ry) dd λh' dd' hs=>h _ ?_;have he:∃q,h'.get? a=Z q:=let⟨q,_,_,j,_⟩:=dd'; ⟨q,j⟩;exact gJ I (by rw[e];exact Oh) hs he (Bl F hd (rel.put k rv) dd')
 ·subst ey eH
  cases(show u=KY b from ry)
  obtain⟨z,hd,xs,rel,dd⟩:=rB I.hok e;have B:xs.length<=J9:=by rw[<-Lj rel];exact z
  have F:(bA kvs k v).length<=J9:=by have:=cT kvs k v;lia
  refine wpAny_setItem_heap (hsz:=B) (LC G) (cU I.hok eb) dd λh' dd' hs=>h _ ?_;obtain⟨q,es,ep,j,h2,J,L,_,O⟩:=dd';refine gJ I (by rw[e];exact Oh) hs ⟨q,j⟩ ⟨F,hd,_,(rel.put k eb rv).keeps λc ys ec=>?_,q,es,ep,j,h2,J,L,O⟩
  rw[am (qY ec e (λz=>nomatch z))];exact ec
end
theorem wg(h:Heap)(j:Ks<h.objs.size):ObjOk P w H (h.push {cls:=.type "dict",data:=.dict #[]}) h.objs.size (.dK []):=⟨Ku _,beq_eq_false_iff_ne.mpr (Ne.symm (JU j)),[],.nil,Heap.DictOf.new h⟩
theorem iE(h:Heap)(j:Ks<h.objs.size):ObjOk P w H (h.push {cls:=.type "dict",data:=.dict #[]}) h.objs.size (.dT []):=⟨Ku _,beq_eq_false_iff_ne.mpr (Ne.symm (JU j)),[],.nil,_,#[],0,Jf _ rfl,⟨rfl,rfl,rfl⟩,rfl,rfl,List.nodup_nil⟩
noncomputable def Bm:TE:=λ_ H Q=>∀p,H p=Y->Q (.ref p) (upd H p (.dK []))
noncomputable def Bn:TE:=λ_ H Q=>∀p,H p=Y->Q (.ref p) (upd H p (.dT []))
section
variable{X:Cx}{pos:Pos}
theorem wj:PE X (.Dict [] [] pos) Bm:=λpins s σ H Q I h=>Sf ⟨.ref s.heap.objs.size,_,I.laid (a:=s.heap.objs.size) (o:=.dK []) (t':=s.toks) (λ_ _ q=>D0 _ q) (J6 _) (wg s.heap I.big),rfl,h _ (I.hok.fresh (J6 _))⟩
theorem wk:PE X (.Dict [] [] pos) Bn:=λpins s σ H Q I h=>Sf ⟨.ref s.heap.objs.size,_,I.laid (a:=s.heap.objs.size) (o:=.dT []) (t':=s.toks) (λ_ _ q=>D0 _ q) (J6 _) (iE s.heap I.big),rfl,h _ (I.hok.fresh (J6 _))⟩
end
noncomputable def mZ:List (TE×TE)->St->Hp->(List (V×V)->Hp->Prop)->Prop
 |[],_,H,Q=>Q [] H
 |(tk,tv)::r,σ,H,Q=>tk σ H λx H1=>tv σ H1 λy H2=>mZ r σ H2 λps H3=>Q ((x,y)::ps) H3
noncomputable abbrev VV:List (V×V)->List (hH×hH)->Prop:=JX λp q=>RelV p.1 q.1/\RelV p.2 q.2
def PPs(X:Cx)(pos:Pos)(keys:List (Option Expr))(values:List Expr)(trs:List (TE×TE)):Prop:=
 ∀(pins:List (Ub×Obj)) (s:I7) (σ:St) (H:Hp) (Q:List (V×V)->Hp->Prop),Inv X pins σ H s->mZ trs σ H Q->
  Jm (model X.prog X.w) X.A (evalPairs (pairTrees keys values X.env pos)) (λvs s'=>∃ps H',Inv X pins σ H' s'/\VV ps vs/\Q ps H') X.xe s
theorem zo:PPs X pos [] [] []:=λpins s σ H Q I h=>pairTrees_nil_walk ⟨[],H,I,.nil,h⟩
theorem wl{k v:Expr}{ks:List (Option Expr)}{vs:List Expr}{tk tv:TE}{trs:List (TE×TE)}(j:PE X k tk)(q:PE X v tv)(z:PPs X pos ks vs trs):
 PPs X pos (Z k::ks) (v::vs) ((tk,tv)::trs):=λpins s σ H Q I h=>
 pairTrees_cons_walk (thn (j pins s σ H _ I h) λu s1 ⟨x,H1,B,rx,F⟩=>thn (q pins s1 σ H1 _ B F) λfv s2 ⟨y,H2,G,ry,J⟩=>thn (z pins s2 σ H2 _ G J) λws s3 L=>(by obtain⟨ps,O,U,rel,F2⟩:=L;exact⟨(x,y)::ps,O,U,.cons ⟨rx,ry⟩ rel,F2⟩))
structure M2(X:Cx)(o:Expr)(m:Str)(apos:Pos)(e f:Expr)(cpos:Pos):Prop where
 base:Rg o m X.env (eval o X.env)=eval o X.env
 few:((NP cpos (JJ [e,f] X.env)).all (λx=>!x.1)&&(backToKw cpos (SG [] X.env)).all (λx=>x.1.isSome)
  && decide (([e,f]:List Expr).length+([]:List Qf).length+(if([]:List Qf).isEmpty then 0 else 1)<30))=N2
 line:(apos.endLine==cpos.line)=N2
 trees:NP cpos (JJ [e,f] X.env)=[(Ua,eval e X.env),(Ua,eval f X.env)]
def IsD(H:Hp)(a:Ub):Prop:=(∃kvs,Rd H a (.dK kvs))∨∃kvs,Rd H a (.dT kvs)
theorem jb(I:Inv X pins σ H s)(d:IsD H a):
 s.TypeIs (.ref a) "dict"/\(∀b,KY a=.ref b->∃ob,s.heap.get? b=Z ob/\ob.dict=Y)/\(a==Ks)=Ua:=by
 rcases d with⟨kvs,e⟩|⟨kvs,e⟩
 ·obtain⟨_,hd,vs,_,dd⟩:=gI I.hok e;refine⟨dd.typeIs,λb q=>?_,hd⟩
  cases q
  obtain⟨ob,_,_,h1,h2,_⟩:=dd;exact⟨ob,h1,h2.2.1⟩
 ·obtain⟨_,hd,xs,_,dd⟩:=dj I.hok e;refine⟨dd.typeIs,λb q=>?_,hd⟩
  cases q
  obtain⟨ob,_,_,h1,h2,_⟩:=dd;exact⟨ob,h1,h2.2.1⟩
section
variable{X:Cx}{pins:List (Ub×Obj)}{σ:St}{H:Hp}{s:I7}{a:Ub}{y d:V}{u r:hH}{o:Option V}{A:Kh}{E:hH->I7->Prop}
theorem Bo{Q:hH->I7->Prop}(j:A.units+1<LF)(I:Inv X pins σ H s)(g:DGet H a y o)(ry:RelV y u)(rd:RelV d r)(h:∀w' s',Inv X pins σ H s'->RelV (o.getD d) w'->Q w' s'):
 Jm (model X.prog X.w) A (call (.builtin "dict.get") [.ref a,u,r]) Q E s:=by
 rcases g with⟨kvs,k,e,ey,l⟩|⟨kvs,k,b,e,ey,eb,l⟩
 ·subst ey;obtain⟨z,hd,vs,rel,dd⟩:=gI I.hok e;refine Qh Oe dd.typeIs Qi (PU _ _ _) (meets_dict_get_default (aE X.prog X.w) a (gH ry) hd r) ⟨_,dd.mapOf,h _ _ (I.tok _) ?_⟩;rw[l];exact(rel.val k).getD rd
 ·subst ey
  cases(show u=KY b from ry)
  obtain⟨z,hd,xs,rel,dd⟩:=dj I.hok e;refine Qh Oe dd.typeIs Qi (PU _ _ _) (meetsH_dict_get_default (Nq (aE X.prog X.w)) a b hd r) ⟨LC j,k,xs,cU I.hok eb,dd,h _ _ (I.tok _) ?_⟩;rw[l];exact(rel.val k).getD rd
end
noncomputable def Bp(td ty tx:TE):TE:=λσ H Q=>td σ H λx H1=>∃a,x=.ref a/\IsD H1 a/\ty σ H1 λy H2=>tx σ H2 λz H3=>∃o,DGet H3 a y o/\Q (o.getD z) H3
section
variable{X:Cx}{o e f:Expr}{apos cpos:Pos}{td ty tx:TE}
theorem wm(q:X.A.units+1<LF)(ho:PE X o td)(he:PE X e ty)(hf:PE X f tx)(m:M2 X o "get" apos e f cpos):PE X (.Call (.Attribute o "get" apos) [e,f] [] cpos) (Bp td ty tx):=by
 intro pins s σ H Q I h;refine wpAny_Call_method m.base m.few m.line PySem.F.plainAttrs_dict Oe PySem.F.type_dict_get (thn (ho pins s σ H _ I h) λu s1 B=>?_);obtain⟨x,H1,j,rx,a,ex,d,G⟩:=B;subst ex;obtain rfl:u=KY a:=rx;obtain⟨t1,J,_⟩:=jb j d;refine⟨t1,J,?_⟩;rw[m.trees];refine Qg rfl (QE (P4 (thn (he pins s1 σ H1 _ j G) λiv s2 ⟨y,H2,L,ry,O⟩=>P4 (thn (hf pins s2 σ H2 _ L O) λfv s3 ⟨z,U,F2,rz,ov,g,fv⟩=>RJ ?_))))
 exact Bo q F2 g ry rz λw' s4 I4 rw'=>⟨_,U,I4,rw',fv⟩
end
end
variable{d:Nat}{ifs:List Expr}{elt target iter:Expr}{gens:List Kk}{scope:Scope}{acc:hH}{g:TG}{A:Kh}{wi:TI}{pos':Pos}
section
noncomputable def bo(elt:Expr)(gens:List Kk)(scope:Scope)(pos:Pos)(d:Nat)(acc:hH)(env:Env)(k:Sem Fin):Sem Fin:=
 match gens[d+1]? with
 |some g'=>eval g'.iter env>>=fun x=>Pt g'.iter.pos>>=fun _=>LO g'.iter env x>>=fun x=>holding [x] (Rt x)>>=fun it'=>runOwn (.compStart (.ListComp elt gens scope pos) (d+1) it' acc env) env>>=λ_=>k
 |none=>(eval elt env>>=λx=>call (.builtin "list.append") [acc,x]>>=λ_=>pure ())>>=λ_=>k
noncomputable def bB(ifs:List Expr)(env:Env):Sem Bool:=forIn ifs N2 λc r=>if r=N2 then do let ok <-isTrue c env (eval c env);pure (N6 ok)else pure (N6 r)
theorem n6(elt target iter:Expr)(ifs:List Expr)(gens:List Kk)(scope:Scope)(pos:Pos)(d:Nat)(it acc:hH)(env:Env)(hd:gens[d]?=Z ⟨target,iter,ifs,0⟩)(j:∀g',gens[d+1]?=Z g'->g'.is_async=0):
 compTurn (.ListComp elt gens scope pos) d it acc env=(Pt iter.pos>>=λ_=>NR it>>=λr=>match r with
  |none=>pure (.done .next)
  |some v=>OG target it v>>=fun _=>assign target env v>>=fun _=>bB ifs env>>=fun ok=>(if ok=N2 then bo elt gens scope pos d acc env (again (.compLoop (.ListComp elt gens scope pos) d it acc env))else again (.compLoop (.ListComp elt gens scope pos) d it acc env))):=by
 unfold compTurn;simp only[hd];unfold bo bB
 cases hn:gens[d+1]? with
 |none=>rfl
 |some g'=>obtain⟨t',i',f',a'⟩:=g';have e:a'=0:=j _ hn;subst e;rfl
noncomputable abbrev TC:=St->Hp->(St->Hp->Prop)->Prop
def cA(J:It)(g:TG)(tb:TC)(N:St->Hp->Prop)(σ:St)(H:Hp):Prop:=
 ∃W:Nat->Nat->St->Hp->Prop,(∃m,W 0 m σ H)/\∀i m σ H,W i m σ H->
  (J.stop i H/\N σ H)∨(J.go i H/\∃N':St->Hp->Prop,(∀σ' H',N' σ' H'->∃m',m'<m/\W (i+1) m' σ' H')/\∀x H',J.yld i H x H'->g x σ H' λσ2 H2=>tb σ2 H2 N')
def PB(X:Cx)(F:Sem Fin->Sem Fin)(t:TC):Prop:=
 ∀(pins:List (Ub×Obj)) (s:I7) (σ:St) (H:Hp) (N:St->Hp->Prop) (k:Sem Fin) (Q:Fin->I7->Prop) (E:hH->I7->Prop),Inv X pins σ H s->t σ H N->
  (∀s' σ' H',Inv X pins σ' H' s'->N σ' H'->Jm (model X.prog X.w) X.A k Q E s')->Jm (model X.prog X.w) X.A (F k) Q E s
section
variable{X:Cx}
theorem nox{α:Type}{m:Sem α}{Q:α->I7->Prop}{E:hH->I7->Prop}(hx:∀e s,X.xe e s->False)(h:Jm (model X.prog X.w) X.A m Q X.xe s):Jm (model X.prog X.w) X.A m Q E s:=LA h (λ_ _ q=>q) λe s' q=>(hx e s' q).elim
noncomputable def jc(ts:List TT)(tb:TC):TC:=match ts with
 |[]=>tb
 |t::r=>λσ H N=>t σ H λb H1=>if b=N2 then jc r tb σ H1 N else N σ H1
theorem jd{env:Env}{M:Oy}{A:Kh}{Q:Bool->I7->Prop}{E:hH->I7->Prop}{s:I7}(h:Q Ua s):∀ifs:List Expr,
 Jm M A (forIn ifs Ua λc r=>if r=N2 then do let ok <-isTrue c env (eval c env);pure (N6 ok)else pure (N6 r)) Q E s
 |[]=>D2 h
 |c::r=>by rw[Mq];simp only[Ld,if_false];exact gV (D2 (jd h r))
theorem n8(hx:∀e s,X.xe e s->False){tb:TC}{N:St->Hp->Prop}:∀{ifs:List Expr} {ts:List TT},JX (λc t=>PT X c t) ifs ts->
 ∀(pins:List (Ub×Obj)) (s:I7) (σ:St) (H:Hp) (E:hH->I7->Prop),Inv X pins σ H s->jc ts tb σ H N->
 Jm (model X.prog X.w) X.A (bB ifs X.env) (λok s'=>∃H',Inv X pins σ H' s'/\if ok=N2 then tb σ H' N else N σ H') E s
 |_,_,.nil=>λpins s σ H E I h=>D2 ⟨H,I,by rw[if_pos rfl];exact h⟩
 |c::ifs,_,.cons (b:=t) z hr=>by
  intro pins s σ H E I h;have ih:=n8 hx hr (tb:=tb) (N:=N) pins;unfold bB at ih⊢;rw[Mq];simp only[if_true];refine gV (gV (nox hx (thn (z pins s σ H _ I h) λb s1 B=>?_)));obtain⟨H1,q,j⟩:=B;refine D2 ?_
  cases b with
  |false=>rw[if_neg Jg]at j;exact jd ⟨H1,q,by rw[if_neg Jg];exact j⟩ ifs
  |true=>rw[if_pos rfl]at j;exact ih s1 σ H1 E q j
theorem wn(hx:∀e s,X.xe e s->False){F:Sem Fin->Sem Fin}{tb:TC}(z:PB X F tb){ts:List TT}(B:JX (λc t=>PT X c t) ifs ts):
 PB X (λk=>bB ifs X.env>>=λok=>if ok=N2 then F k else k) (jc ts tb):=by
 intro pins s σ H N k Q E I h hk;refine gV (thn (n8 hx B pins s σ H E I h) λok s1 G=>?_);obtain⟨H1,q,j⟩:=G
 cases ok with
 |false=>rw[if_neg Jg]at j⊢;exact hk s1 σ H1 q j
 |true=>rw[if_pos rfl]at j⊢;exact z pins s1 σ H1 N k Q E q j hk
noncomputable def yt(p:Ub)(te:TE):TC:=λσ H N=>te σ H λx H1=>∃xs,H1 p=Z (.lst xs)/\xs.length<J9/\N σ (upd H1 p (.lst (xs++[x])))
theorem jS(hx:∀e s,X.xe e s->False){p:Ub}{te:TE}(he:PE X elt te)(hd:gens[d+1]?=Y):
 PB X (bo elt gens scope pos d (.ref p) X.env) (yt p te):=by
 intro pins s σ H N k Q E I h q;unfold bo;rw[hd];refine gV (gV (nox hx (thn (he pins s σ H _ I h) λu s1 j=>?_)));obtain⟨x,H1,z,B,xs,F,l1,G⟩:=j;refine gV (nox hx (thn (kL (X:=X) pins s1 σ H1 (.ref p) [x] (.ref p) [u] (λ_ H2=>N σ H2) z rfl (.cons B .nil) ⟨p,xs,x,rfl,rfl,F,l1,G⟩) λv s2 j=>?_));obtain⟨_,H2,J,_,L⟩:=j;exact D2 (q s2 σ H2 J L)
theorem kP(hx:∀e s,X.xe e s->False)(fv:X.calm=N2)(hd:gens[d]?=Z ⟨target,iter,ifs,0⟩)(ha:∀g',gens[d+1]?=Z g'->g'.is_async=0)(hg:PG X target g){tb:TC}(j:PB X (λk=>bB ifs X.env>>=λok=>if ok=N2 then bo elt gens scope pos d acc X.env k else k) tb){N:St->Hp->Prop}{it:Ub}{fp:List Ub}{tn:Nat->Heap->Prop}{J:It}(I:Inv X pins σ H s)(T:fW X.prog X.w X.K target J fp it tn)(t0:tn 0 s.heap)(f2:∀b∈fp,cj X pins H b)(h:cA J g tb N σ H):
 Ow (model X.prog X.w) X.A (.compLoop (.ListComp elt gens scope pos) d (.ref it) acc X.env) (λr s'=>match r with|.ok _=>∃σ' H',Inv X pins σ' H' s'/\N σ' H'|.error _=>False) s:=by
 obtain⟨W,⟨m0,w0⟩,turn⟩:=h;have stat:∀{H':Hp},(∀b∈fp,H' b=Y)->∀b∈fp,cj X pins H' b:=λhn b j=>⟨hn b j,(f2 b j).2⟩;refine codeAny_loop rfl (λn s'=>∃i σ' H',Inv X pins σ' H' s'/\tn i s'.heap/\(∀b∈fp,H' b=Y)/\W i n σ' H') ?_ m0 ⟨0,σ,H,I,t0,λb j=>(f2 b j).1,w0⟩;rintro n s3 ⟨i,σ3,G,I3,B,F,w3⟩;show Jm _ _ ((compTurn (.ListComp elt gens scope pos) d (.ref it) acc X.env).onRaise (λx=>do noteFrame x X.env;theTreesLotGoes x)) _ _ s3
 refine wpAny_noted ?_;rw[n6 elt target iter ifs gens scope pos d (.ref it) acc X.env hd ha];refine gV (Nc (gV ?_));show Jm (model X.prog X.w) X.A _ _ _ s3
 rcases turn i n σ3 G w3 with⟨stop,qn⟩|⟨go,N',hN,step⟩
 ·refine thn (T.done X rfl rfl rfl fv i pins s3 σ3 G _ I3 (stat F) B stop) λr s4 q=>?_;obtain⟨L,I4⟩:=q;subst L;exact D2 ⟨σ3,G,I4,qn⟩
 ·refine thn (T.item X rfl rfl rfl fv i pins s3 σ3 G _ I3 (stat F) B go) λr s4 q=>?_;obtain⟨u,L,h4⟩:=q;subst L;refine gV (thn h4 λ_ s5 q=>?_);obtain⟨x,H5,I5,r5,y5,z,O⟩:=q;have U:=I5.pinned (stat O) (T.obj _ _ z);refine gV (nox hx (thn (hg _ s5 σ3 H5 x u _ U r5 (step x H5 y5)) λ_ s6 q=>?_));obtain⟨σ6,H6,I6,q6⟩:=q;refine j _ s6 σ6 H6 N' (again (.compLoop (.ListComp elt gens scope pos) d (.ref it) acc X.env)) _ _ I6 q6 λs7 σ7 H7 F2 n7=>?_;obtain⟨m',hm,w7⟩:=hN σ7 H7 n7;refine D2 ⟨rfl,m',hm,i+1,σ7,H7,F2.unpinned,T.keep _ _ _ z λb j o e=>(F2.pin (b,o) (Jx _ (Jx _ (dh j e)))).1,λb j=>?_,w7⟩;obtain⟨o,e,dd⟩:=T.obj _ _ z b j;exact(F2.pin (b,o) (Jx _ (Jx _ (dh j e)))).2.1
theorem je {it:hH}{env:Env}{prog:JB}{R:Result->I7->Prop}(hd:gens[d]?=Z ⟨target,iter,ifs,0⟩)(h0:Ow (model prog w) A (.compLoop (.ListComp elt gens scope pos) d it acc env) R s)(h:Jm (model prog w) A (Rt it) (fun it' s'=>Ow (model prog w) A (.compLoop (.ListComp elt gens scope pos) d it' acc env) R s')
   (notedBy (model prog w) A env λx s'=>R (.error x) s') s):
 Ow (model prog w) A (.compStart (.ListComp elt gens scope pos) d it acc env) R s:=by
 refine codeAny_of_tree ?_;show Jm _ _ ((compStart (.ListComp elt gens scope pos) d it acc env).onRaise (λx=>do noteFrame x env;Pt theWindowsPlace)) _ _ s
 refine wpAny_notedAt ?_;unfold compStart;have j:(clausesOf (.ListComp elt gens scope pos))[d]?=Z ⟨target,iter,ifs,0⟩:=hd;rw[j];show Jm _ _ (ask>>=_) _ _ s;refine gV (wpAny_askSetting (wpAny_ite ?_))
 split
 ·first
   |exact gV (D2 (D2 (Oi rfl h0)))
   |exact D2 (Oi rfl h0)
 ·first
   |exact gV (Ll (gV (Nc (gV (LA h (λit' s' h'=>D2 (Oi rfl h')) λ_ _ x=>x)))))
   |(refine gV (Ll ?_);show Jm _ _ (Pt iter.pos>>=_) _ _ s;exact gV (Nc (gV (LA h (λit' s' h'=>D2 (Oi rfl h')) λ_ _ x=>x))))
theorem kQ(hx:∀e s,X.xe e s->False)(z:X.calm=N2)(hd:gens[d+1]?=Z ⟨target,iter,ifs,0⟩)(B:∀g',gens[d+1+1]?=Z g'->g'.is_async=0)(hi:PI X target iter wi)(F:PG X target g){tb:TC}(G:PB X (λk=>bB ifs X.env>>=λok=>if ok=N2 then bo elt gens scope pos (d+1) acc X.env k else k) tb)(hs:∀x,LO iter X.env x=pure x):
 PB X (bo elt gens scope pos d acc X.env) (λσ H N=>wi σ H λJ H1=>cA J g tb N σ H1):=by
 intro pins s σ H N k Q E I h hk;unfold bo;rw[hd];refine gV (nox hx (thn (hi pins s σ H _ I h) λv s1 h1=>?_));refine gV (Nc (gV (MU (hs v) ?_)));refine gV (Kj (nox hx (thn h1 λitv s2 h2=>?_)));obtain⟨it,fp,tn,J,H2,e,L,T,j,f2,hw⟩:=h2;subst e;have loop:=kP (acc:=acc) hx z hd B F G L T j f2 hw;refine gV (wpAny_runOwn (NS (je (R:=λr s'=>match r with|.ok _=>∃σ' H',Inv X pins σ' H' s'/\N σ' H'|.error _=>False) hd loop (T.self _ 0 _ _ _ j loop)) λr s3 q=>?_))
 cases r with
 |error e=>exact q.elim
 |ok f=>obtain⟨σ3,O,U,F2⟩:=q;exact hk s3 σ3 O U F2
noncomputable def aZ(cells:List (Str×Ub)):List (Str×MN)->List (Str×Ub)->List (Str×Ub)
 |[],acc=>acc
 |(n,k)::r,acc=>if k==.free then(match cells.lookup n with|some c=>aZ cells r ((n,c)::acc)|none=>aZ cells r acc)else aZ cells r acc
theorem iu{env:Env}:∀(names:List (Str×MN)) (acc:List (Str×Ub)),(∀x∈names,x.2=.free->(env.cells.lookup x.1).isSome=N2)->
 (forIn names acc λ(x:Str×MN) (r:List (Str×Ub))=>(match x with|(name,kind)=>if(kind==JT)=N2 then do let c <-cellOf env name;pure (N6 ((name,c)::r))else pure (N6 r):Sem (ForInStep (List (Str×Ub)))))=(pure (aZ env.cells names acc):Sem (List (Str×Ub)))
 |[],acc,_=>rfl
 |(n,k)::r,acc,h=>by
  rw[Mq];have ih:=λacc'=>iu r acc' λx hx=>h x (J3 _ hx);unfold aZ
  by_cases hk:(k==JT)=N2
  ·obtain⟨c,q⟩:=Mz.mp (h (n,k) Je (beq_iff_eq.mp hk));have j:env.cells.lookup n=Z c:=q;have z:cellOf env n=pure c:=by unfold cellOf;rw[j]
   simp only[hk,if_true,z,j,pure_bind];exact ih _
  ·simp only[hk,if_false,pure_bind];exact ih _
theorem jf{env:Env}(h:∀x∈scope.names,x.2=.free->(env.cells.lookup x.1).isSome=N2):closureFor scope env=pure (aZ env.cells scope.names []):=by unfold closureFor;have e:=iu (env:=env) scope.names [] h;simp only[bind_pure];exact e
theorem dl{cells:List (Str×Ub)}{y:Str}{c:Ub}:∀{names:List (Str×MN)} {acc:List (Str×Ub)},(y,c)∈aZ cells names acc->(y,c)∈acc∨(cells.lookup y=Z c/\(y,JT)∈names)
 |[],acc,h=>.inl h
 |(n,k)::r,acc,h=>by
  unfold aZ at h
  by_cases hk:(k==JT)=N2
  ·rw[if_pos hk]at h;have B:k=.free:=beq_iff_eq.mp hk;subst B
   cases F:cells.lookup n with
   |none=>
    rw[F]at h
    rcases dl h with z|⟨j,q⟩
    ·exact .inl z
    ·exact .inr ⟨j,J3 _ q⟩
   |some c'=>
    rw[F]at h
    rcases dl h with z|⟨j,q⟩
    ·rcases Jp.mp z with e|z
     ·cases e
      exact .inr ⟨F,Je⟩
     ·exact .inl z
    ·exact .inr ⟨j,J3 _ q⟩
  ·rw[if_neg hk]at h
   rcases dl h with z|⟨j,q⟩
   ·exact .inl z
   ·exact .inr ⟨j,J3 _ q⟩
theorem dm{cells:List (Str×Ub)}{y:Str}{c:Ub}(j:cells.lookup y=Z c):∀{names:List (Str×MN)} {acc:List (Str×Ub)},((y,c)∈acc∨(y,JT)∈names)->(y,c)∈aZ cells names acc
 |[],acc,h=>by
  rcases h with h|h
  ·exact h
  ·simp at h
 |(n,k)::r,acc,h=>by
  unfold aZ
  by_cases hk:(k==JT)=N2
  ·rw[if_pos hk];have q:k=.free:=beq_iff_eq.mp hk;subst q
   cases hl:cells.lookup n with
   |none=>
    refine dm j ?_
    rcases h with h|h
    ·exact .inl h
    ·rcases Jp.mp h with e|h
     ·cases e;rw[hl]at j;cases j
     ·exact .inr h
   |some c'=>
    refine dm j ?_
    rcases h with h|h
    ·exact .inl (J3 _ h)
    ·rcases Jp.mp h with e|h
     ·cases e;rw[hl]at j;cases j;exact .inl Je
     ·exact .inr h
  ·rw[if_neg hk];refine dm j ?_
   rcases h with h|h
   ·exact .inl h
   ·rcases Jp.mp h with e|h
    ·cases e;exact absurd rfl hk
    ·exact .inr h
theorem cZ:∀(names:List (Str×MN)) (n:Nat) (acc acc':List (Str×Ub)),LP n names (acc++acc')=LP n names acc++acc'
 |[],_,_,_=>rfl
 |(x,k)::r,n,acc,acc'=>by
  unfold LP
  by_cases j:(k==LG)=N2
  ·rw[if_pos j,if_pos j];exact cZ r (n+1) ((x,n)::acc) acc'
  ·rw[if_neg j,if_neg j];exact cZ r n acc acc'
theorem de:∀{names:List (Str×MN)} {n:Nat} {acc:List (Str×Ub)} {y:Str} {c:Ub},(y,c)∈LP n names acc->(y,c)∈acc∨(n<=c/\(y,LG)∈names)
 |[],_,_,_,_,h=>.inl h
 |(x,k)::r,n,acc,y,c,h=>by
  unfold LP at h
  by_cases hk:(k==LG)=N2
  ·rw[if_pos hk]at h;have j:k=.cell:=beq_iff_eq.mp hk;subst j
   rcases de h with z|⟨q,B⟩
   ·rcases Jp.mp z with e|z
    ·cases e;exact .inr ⟨J6 _,Je⟩
    ·exact .inl z
   ·exact .inr ⟨Nat.le_of_succ_le q,J3 _ B⟩
  ·rw[if_neg hk]at h
   rcases de h with z|⟨q,B⟩
   ·exact .inl z
   ·exact .inr ⟨q,J3 _ B⟩
structure bp(sc osc:Scope)(oN N':List Str)(fr:List (Option Nat)):Prop where
 kind:sc.kind=.function
 nd:(sc.names.map (·.1)).Nodup
 ndN:N'.Nodup
 free:∀x∈sc.names,x.2=.free->osc.names.lookup x.1=Z .cell∨osc.names.lookup x.1=Z .free
 len:fr.length=N'.length
 fr:∀(i j:Nat) (x:Str),N'[i]?=Z x->fr[i]?=Z (Z j)->oN[j]?=Z x/\(x,JT)∈sc.names
noncomputable def inh(fr:List (Option Nat))(σ:St):St:=fr.map λo=>o.bind λj=>(σ[j]?).join
noncomputable def bq(X:Cx)(sc:Scope)(L:Ub):Env:={scope:=relabel sc X.env,locals:=L,globals:=X.env.globals,cells:=LP (L+1) sc.names (aZ X.env.cells sc.names []),qual:=X.env.qual,func:=Y,code:=X.env.code,frame:=X.env.frame,builtins:=X.env.builtins}
noncomputable def aM(X:Cx)(sc:Scope)(N':List Str)(s:I7)(H:Hp)(fp:List Ub):Cx:={X with N:=N',s₀:=s,H₀:=H,env:=bq X sc s.heap.objs.size,outer:=X.stack,stack:=X.stack,ex:=fp,fn:=λx=>sc.names.lookup x==Z .cell,pn:=[],xe:=λ_ _=>False}
theorem aX:∀{l:List (Str×MN)} {x:Str} {k:MN},(l.map (·.1)).Nodup->(x,k)∈l->l.lookup x=Z k
 |(y,k')::r,x,k,nd,h=>by
  have nd':(y::r.map (·.1)).Nodup:=nd;obtain⟨q,z⟩:=KA.mp nd';rw[Me]
  rcases Jp.mp h with e|hm
  ·cases e;simp
  ·have j:(x==y)=Ua:=by
    refine beq_eq_false_iff_ne.mpr λe=>?_;subst e;exact q (J8.mpr ⟨(x,k),hm,rfl⟩)
   rw[j];exact aX z hm
theorem cB{env:Env}:∀{names:List (Str×MN)} {x:Str},
 (names.map fun (n,k)=>if(k==JT&&env.scope.kind==.function&&env.kindOf n==Z .cell)then(n,LG)else(n,k)).lookup x =
   (names.lookup x).map λk=>if(k==JT&&env.scope.kind==.function&&env.kindOf x==Z .cell)then LG else k
 |[],_=>rfl
 |(n,k)::r,x=>by
  have ih:=cB (env:=env) (names:=r) (x:=x);show List.lookup x ((if(k==JT&&env.scope.kind==.function&&env.kindOf n==Z .cell)=N2 then(n,LG)else(n,k))::_)=_
  rw[Me (a:=x) (b:=k)]
  by_cases hx:x=n
  ·subst hx;simp only[beq_self_eq_true];show _=Z (if(k==JT&&env.scope.kind==.function&&env.kindOf x==Z .cell)=N2 then LG else k)
   by_cases j:(k==JT&&env.scope.kind==.function&&env.kindOf x==Z .cell)=N2
   ·rw[if_pos j,if_pos j,Me];simp only[beq_self_eq_true]
   ·rw[if_neg j,if_neg j,Me];simp only[beq_self_eq_true]
  ·have q:(x==n)=Ua:=beq_eq_false_iff_ne.mpr hx;rw[q]
   by_cases j:(k==JT&&env.scope.kind==.function&&env.kindOf n==Z .cell)=N2
   ·rw[if_pos j,Me,q];exact ih
   ·rw[if_neg j,Me,q];exact ih
section
variable{pins:List (Ub×Obj)}{σ:St}{H:Hp}{s:I7}{sc:Scope}{N':List Str}{fr:List (Option Nat)}{fp:List Ub}
theorem fZ(I:Inv X pins σ H s)(B:bp sc X.env.scope X.N N' fr):∀x∈sc.names,x.2=.free->(X.env.cells.lookup x.1).isSome=N2:=λx hx e=>by obtain⟨c,j⟩:=I.ok.has x.1 (B.free x hx e);rw[j];rfl
theorem tR(I:Inv X pins σ H s)(f2:∀b∈fp,cj X pins H b)(fv:∀b∈fp,b<s.heap.objs.size)(B:bp sc X.env.scope X.N N' fr):
 Inv (aM X sc N' s H fp) [] (inh fr σ) H {s with heap:=Sg (s.heap.push {cls:=.type "dict",data:=.dict #[]}) sc.names}:=by
 have G:∀b o,s.heap.get? b=Z o->(Sg (s.heap.push {cls:=.type "dict",data:=.dict #[]}) sc.names).get? b=Z o:=λb o e=>Qq _ _ b o (D0 _ e);have ok:=cellsFrom_ok sc.names (s.heap.push {cls:=.type "dict",data:=.dict #[]}) (s.heap.objs.size+1) [] ⟨λ_ _ hm=>(nomatch hm),Pu⟩ (by rw[Lm];exact J6 _)
 rw[Lm]at ok;have capp:LP (s.heap.objs.size+1) sc.names (aZ X.env.cells sc.names [])=LP (s.heap.objs.size+1) sc.names []++aZ X.env.cells sc.names []:=cZ sc.names _ [] _;have cof:∀x c,(bq X sc s.heap.objs.size).cells.lookup x=Z c->((x,c)∈LP (s.heap.objs.size+1) sc.names []/\s.heap.objs.size<c)∨(X.env.cells.lookup x=Z c/\(x,JT)∈sc.names):=λx c e=>by
  have m:=L8 e;have m':(x,c)∈LP (s.heap.objs.size+1) sc.names (aZ X.env.cells sc.names []):=m;rw[capp]at m'
  rcases Ja.mp m' with z|z
  ·exact .inl ⟨z,(ok.empty x c z).2⟩
  ·rcases dl z with q|q
   ·simp at q
   ·exact .inr q
 have cOld:∀x c,X.env.cells.lookup x=Z c->c<s.heap.objs.size:=λx c e=>by obtain⟨v,q⟩:=I.cell x c e;exact q.lt
 have kindF:∀x,(x,JT)∈sc.names->(bq X sc s.heap.objs.size).kindOf x=Z .cell∨(bq X sc s.heap.objs.size).kindOf x=Z .free:=λx hx=>by
  have e1:sc.names.lookup x=Z .free:=aX B.nd hx;have O:(bq X sc s.heap.objs.size).kindOf x=_:=cB (env:=X.env) (names:=sc.names) (x:=x);rw[e1]at O;rw[O]
  by_cases J:(JT==JT&&X.env.scope.kind==.function&&X.env.kindOf x==Z .cell)=N2
  ·exact .inl (by simp only[N7,if_pos J])
  ·exact .inr (by simp only[N7,if_neg J])
 have cellF:∀x c,(x,JT)∈sc.names->X.env.cells.lookup x=Z c->(bq X sc s.heap.objs.size).cells.lookup x=Z c:=λx c hx J=>by
  have m:=dm (acc:=[]) J (.inr hx);have m2:(x,c)∈(bq X sc s.heap.objs.size).cells:=by show(x,c)∈LP (s.heap.objs.size+1) sc.names (aZ X.env.cells sc.names []);rw[capp];exact Jx _ m
  cases F:(bq X sc s.heap.objs.size).cells.lookup x with
  |none=>
   exfalso
   have:∀{l:List (Str×Ub)},(x,c)∈l->l.lookup x=Y->False:=by
    intro l
    induction l with
    |nil=>intro h;simp at h
    |cons a r ih=>
     intro h e;obtain⟨y,d⟩:=a;rw[Me]at e
     rcases Jp.mp h with z|z
     ·cases z;simp at e
     ·by_cases hxy:(x==y)=N2
      ·rw[hxy]at e;cases e
      ·simp only[Oj]at hxy;rw[hxy]at e;exact ih z e
   exact this m2 F
  |some c'=>
   rcases cof x c' F with⟨z,_⟩|⟨z,_⟩
   ·rcases de z with q|⟨_,q⟩
    ·simp at q
    ·have a1:=aX B.nd hx;have a2:=aX B.nd q;rw[a1]at a2;cases a2
   ·rw[J]at z;rw[z]
 have kindC:∀x,(bq X sc s.heap.objs.size).kindOf x=Z .cell->(x,LG)∈sc.names∨(x,JT)∈sc.names:=λx e=>by
  have O:(bq X sc s.heap.objs.size).kindOf x=_:=cB (env:=X.env) (names:=sc.names) (x:=x);rw[O]at e
  cases F:sc.names.lookup x with
  |none=>rw[F]at e;cases e
  |some k=>
   rw[F]at e;have m:=L8 F
   cases k with
   |cell=>exact .inl m
   |free=>exact .inr m
   |«local»=>simp at e
   |globalImplicit=>simp at e
   |globalExplicit=>simp at e
 have kindFr:∀x,(bq X sc s.heap.objs.size).kindOf x=Z .free->(x,JT)∈sc.names:=λx e=>by
  have O:(bq X sc s.heap.objs.size).kindOf x=_:=cB (env:=X.env) (names:=sc.names) (x:=x);rw[O]at e
  cases F:sc.names.lookup x with
  |none=>rw[F]at e;cases e
  |some k=>
   rw[F]at e;have m:=L8 F
   cases k with
   |free=>exact m
   |cell=>simp at e
   |«local»=>simp at e
   |globalImplicit=>simp at e
   |globalExplicit=>simp at e
 refine⟨⟨I.ok.mod,B.kind,I.ok.glob,I.ok.blt,J6 _,λy z c h1 h2=>?_,λy hy=>?_,λy c hf h=>?_,I.ok.hd,I.ok.frames,.inl rfl,λb U=>⟨?_,λx c e=>?_⟩,λb o e=>I.bs b o e,?_,λb o e U=>?_,λb U=>?_,I.stack,I.stkFree⟩,
  rfl,I.bare,Un.kept G,⟨_,(Heap.Ns.new s.heap (.type "dict")).keeps (Qq _ _),λi x v h1 h2 h3=>?_⟩,λy c h=>?_,I.hok.fresh (J6 _),λy c h=>?_,λp hp=>absurd (show p∈([]:List (Ub×Obj))from hp) (by simp),I.hok.kept G,?_⟩
 ·rcases cof y c h1 with⟨a1,a2⟩|⟨a1,a2⟩
  ·rcases cof z c h2 with⟨b1,b2⟩|⟨b1,b2⟩
   ·exact name_of_addr ok.apart a1 b1
   ·exact absurd (cOld z c b1) (Th.mpr (Nr a2))
  ·rcases cof z c h2 with⟨b1,b2⟩|⟨b1,b2⟩
   ·exact absurd (cOld y c a1) (Th.mpr (Nr b2))
   ·exact I.ok.inj y z c a1 b1
 ·have GC:(y,LG)∈sc.names∨(y,JT)∈sc.names:=by
   rcases hy with hy|hy
   ·exact kindC y hy
   ·exact .inr (kindFr y hy)
  rcases GC with q|q
  ·exact Mz.mp (NT sc.names _ _ (.inl (aX B.nd q)))
  ·obtain⟨c,J⟩:=Mz.mp (fZ I B _ q rfl);exact⟨c,cellF y c q J⟩
 ·have GD:(sc.names.lookup y==Z .cell)=N2:=hf;have GA:sc.names.lookup y=Z .cell:=by simpa using GD
  rcases cof y c h with⟨_,a2⟩|⟨_,a2⟩
  ·exact Nr a2
  ·rw[aX B.nd a2]at GA;cases GA
 ·exact JU (fv b U)
 ·rcases cof x c e with⟨_,a2⟩|⟨a1,_⟩
  ·exact Ma (Nat.lt_trans (fv b U) a2)
  ·exact(f2 b U).2.2.2.2.1 x c a1
 ·exact K0 I.ok.bsz I.sz
 ·obtain⟨f0,f1,f3,f4,f5,f6⟩:=f2 b U
  rcases f4 with z|z
  ·exact I.ok.noex b o e z
  ·exact absurd (JP (JP (Jl e) I.ok.bsz) z) (La _)
 ·obtain⟨f0,f1,f3,f4,f5,f6⟩:=f2 b U;exactλz=>(Jp.mp (I.stkSub b z)).elim f1 f3
 ·have hi:∃j,fr[i]?=Z (Z j)/\σ[j]?=Z (Z v):=by
   unfold inh at h2;rw[Jj]at h2
   cases e:fr[i]? with
   |none=>rw[e]at h2;cases h2
   |some o=>
    rw[e]at h2
    cases o with
    |none=>cases h2
    |some j=>
     refine⟨j,rfl,?_⟩;have L:Z ((σ[j]?).join)=Z (Z v):=h2
     cases e':σ[j]? with
     |none=>rw[e']at L;cases L
     |some w=>rw[e']at L;cases L;rfl
  obtain⟨j,e1,O⟩:=hi;obtain⟨n1,n2⟩:=B.fr i j x h1 e1;obtain⟨m,hn,F⟩:=I.loc;have hv:Vis X.env.scope x:=.inr (B.free (x,.free) n2 rfl);obtain⟨u,ru,lk⟩:=F j x v n1 O hv;refine⟨u,ru,.inr ⟨kindF x n2,?_⟩⟩
  rcases lk with⟨k1,_⟩|⟨_,c,J,F2⟩
  ·have GB:X.env.scope.names.lookup x=Z .local:=k1
   rcases B.free (x,.free) n2 rfl with z|z
   ·rw[GB]at z;cases z
   ·rw[GB]at z;cases z
  ·exact⟨c,cellF x c n2 J,F2.keeps G⟩
 ·rcases cof y c h with⟨a1,a2⟩|⟨a1,a2⟩
  ·exact⟨_,(ok.empty y c a1).1⟩
  ·obtain⟨v,q⟩:=I.cell y c a1;exact⟨v,q.keeps G⟩
 ·rcases cof y c h with⟨a1,a2⟩|⟨a1,a2⟩
  ·exact I.hok.fresh (Nr a2)
  ·exact I.freeC y c a1
 ·show(inh fr σ).length=N'.length;unfold inh;rw[h7];exact B.len
theorem kR{σ':St}{s':I7}(I:Inv X pins σ H s)(f2:∀b∈fp,cj X pins H b)(J:Inv (aM X sc N' s H fp) [] σ' H' s')(hs:Lc s.heap.objs.size s'.heap h'):
 Inv X pins σ H' {s' with heap:=h'}:=by
 have u:Un (frs X.stack) fp H H' s.heap s'.heap:=J.base;have ne:∀b o,s.heap.get? b=Z o->b≠s.heap.objs.size:=λb o e=>JU (Jl e);refine I.call' (s':={s' with heap:=h'}) (ch:=fp) J.os ⟨λb o e n j hx=>?_,λb o e n j hx=>?_,u.free,λb o e hx=>?_,u.tups,u.frzs,u.tbls⟩ (λb v e=>?_) J.bare λb j=>?_
 ·exact(hs.2 b (ne b o e)).trans (u.keep b o e n j hx)
 ·obtain⟨sl,q⟩:=u.slot b o e n j hx;exact⟨sl,(hs.2 b (ne b o e)).trans q⟩
 ·obtain⟨o',q⟩:=u.there b o e hx;exact⟨o',(hs.2 b (ne b o e)).trans q⟩
 ·refine(J.hok b v e).stay (λc w F q=>(hs.2 c ?_).trans q) (λ_ q=>q) λ_ _ q=>q;have fr:H' s.heap.objs.size=Y:=J.free
  rcases F with z|z
  ·rw[z];intro B;rw[B,fr]at e;cases e
  ·intro B;rw[B,fr]at z;cases z
 ·obtain⟨f0,f1,O,f4,G,L⟩:=f2 b j;exact⟨f4,f1,G,L⟩
theorem lZ {Q:Env->I7->Prop}{E:hH->I7->Prop}{M:Oy}(h:Q {scope:=sc,locals:=s.heap.objs.size,globals:=X.env.globals,cells:=LP (s.heap.objs.size+1) sc.names (aZ X.env.cells sc.names []),qual:=X.env.qual,func:=Y,code:=X.env.code,frame:=X.env.frame,builtins:=X.env.builtins}
   {s with heap:=Sg (s.heap.push {cls:=.type "dict",data:=.dict #[]}) sc.names}):
 Jm M A (QG sc X.env.globals (aZ X.env.cells sc.names []) [] X.env.qual Y .none (Z X.env)) Q E s:=by
 simp only[QG,Rx,if_true];refine gV (wpAny_alloc ?_);refine gV (wpAny_layCells _ (λname kind cells=>by cases hkc:kind==LG<;>simp[hkc]) _ _ _ _ ?_)
 rw[show({s with heap:=s.heap.push {cls:=.type "dict",data:=.dict #[]}}:I7).heap.objs.size=s.heap.objs.size+1 from Lm ..]
 exact gV (D2 (D2 h))
theorem n9(hc:X.calm=N2){rest:List Kk}{E:hH->I7->Prop}(hx:∀e s,X.xe e s->False)(B:bp sc X.env.scope X.N N' fr)(ha:∀g',rest[0]?=Z g'->g'.is_async=0)(hi:PI X target iter wi){tb:Ub->TC}(hg:∀s H fp,PG (aM X sc N' s H fp) target g)(j:∀s H fp p,PB (aM X sc N' s H fp) (λk=>bB ifs (aM X sc N' s H fp).env>>=λok=>if ok=N2 then bo elt (⟨target,iter,ifs,0⟩::rest) sc pos 0 (.ref p) (aM X sc N' s H fp).env k else k) (tb p)){Nn:Ub->St->Hp->Prop}{RR:hH->Ub->Result->I7->Prop}(I:Inv X pins σ H s)(h:wi σ H λJ H1=>∀p,H1 p=Y->cA J g (tb p) (Nn p) (inh fr σ) (upd H1 p (.lst [])))(hR:∀p fp s3 L s' σ' H' f,Inv X pins σ L s3->(∀b∈fp,cj X pins L b)->Inv (aM X sc N' s3 L fp) [] σ' H' s'->Nn p σ' H'->RR (.ref p) s3.heap.objs.size (.ok f) s'):
 Jm (model X.prog X.w) X.A (eval iter X.env) (λx s₁=>Jm (model X.prog X.w) X.A (Rt x) (λit s₂=>Jm (model X.prog X.w) X.A (newList []) (λacc s₃=>
  Jm (model X.prog X.w) X.A (QG sc X.env.globals (aZ X.env.cells sc.names []) [] X.env.qual Y .none (Z X.env)) (λcenv s₄=>Ow (model X.prog X.w) X.A (.compStart (.ListComp elt (⟨target,iter,ifs,0⟩::rest) sc pos) 0 it acc {cenv with scope:=relabel sc X.env}) (RR acc cenv.locals) s₄) E s₃) E s₂) E s₁) E s:=by
 refine nox hx (thn (hi pins s σ H _ I h) λv s1 h1=>nox hx (thn h1 λitv s2 h2=>?_));obtain⟨it,fp,tn,J,H2,e,fv,T,q,f2,hw⟩:=h2;subst e;have hf:H2 s2.heap.objs.size=Y:=fv.hok.fresh (J6 _);refine PF ?_;have I3:Inv X pins σ (upd H2 s2.heap.objs.size (.lst [])) {s2 with heap:=s2.heap.push {cls:=.type "list",dict:=Y,data:=.seq ([]:List hH).toArray}}:=fv.laid (t':=s2.toks) (λb u e=>D0 _ e) (J6 _) ⟨Ku _,[],0,.nil,Jf _ rfl⟩
 have fneq:∀b∈fp,b≠s2.heap.objs.size:=λb j z=>by obtain⟨o,e,_⟩:=T.obj _ _ q b j;exact absurd (Jl e) (by rw[z];exact La _)
 have O:∀b∈fp,cj X pins (upd H2 s2.heap.objs.size (.lst [])) b:=λb j=>⟨by rw[am (fneq b j)];exact(f2 b j).1,(f2 b j).2⟩
 have U:∀b∈fp,b<(s2.heap.push {cls:=.type "list",dict:=Y,data:=.seq ([]:List hH).toArray}).objs.size:=λb j=>by obtain⟨o,e,_⟩:=T.obj _ _ q b j;rw[Lm];exact Nat.lt_succ_of_lt (Jl e)
 have F2:tn 0 (s2.heap.push {cls:=.type "list",dict:=Y,data:=.seq ([]:List hH).toArray}):=T.keep _ _ _ q λb _ o e=>D0 _ e;refine lZ ?_;have G:=tR (N':=N') I3 O U B;have F:=T.keep _ (h':=Sg (({s2 with heap:=s2.heap.push {cls:=.type "list",dict:=Y,data:=.seq ([]:List hH).toArray}}:I7).heap.push {cls:=.type "dict",data:=.dict #[]}) sc.names) _ F2 λb _ o e=>Qq _ _ b o (D0 _ e)
 have f4:∀b∈fp,cj (aM X sc N' {s2 with heap:=s2.heap.push {cls:=.type "list",dict:=Y,data:=.seq ([]:List hH).toArray}} (upd H2 s2.heap.objs.size (.lst [])) fp) [] (upd H2 s2.heap.objs.size (.lst [])) b:=λb j=>⟨(O b j).1,(G.ok.exf b j).1,G.ok.exfs b j,.inl j,(G.ok.exf b j).2,λp hp=>absurd (show p∈([]:List (Ub×Obj))from hp) (by simp)⟩
 have loop:=kP (X:=aM X sc N' {s2 with heap:=s2.heap.push {cls:=.type "list",dict:=Y,data:=.seq ([]:List hH).toArray}} (upd H2 s2.heap.objs.size (.lst [])) fp) (λ_ _ z=>z) hc
  (elt:=elt) (pos:=pos) (scope:=sc) (gens:=⟨target,iter,ifs,0⟩::rest) (d:=0) (acc:=.ref s2.heap.objs.size) rfl (λg' e=>ha g' (by simpa using e)) (hg _ _ _) (j _ _ _ _) G T F f4 (hw _ hf)
 refine NS (je (R:=λr s'=>match r with|.ok _=>∃σ' H',Inv (aM X sc N' {s2 with heap:=s2.heap.push {cls:=.type "list",dict:=Y,data:=.seq ([]:List hH).toArray}} (upd H2 s2.heap.objs.size (.lst [])) fp) [] σ' H' s'/\Nn s2.heap.objs.size σ' H'|.error _=>False)
  (gens:=⟨target,iter,ifs,0⟩::rest) (d:=0) rfl loop (T.self _ 0 _ _ _ F loop)) λr s5 hr=>?_
 cases r with
 |error e=>exact hr.elim
 |ok f=>obtain⟨σ5,H5,I5,n5⟩:=hr;exact hR _ fp _ _ s5 σ5 H5 f I3 O I5 n5
noncomputable def rC(wi:TI)(g:TG)(tb:Ub->TC)(fr:List (Option Nat)):TE:=λσ H Q=>wi σ H λJ H1=>∀p,H1 p=Y->cA J g (tb p) (λ_ H2=>Q (.ref p) H2) (inh fr σ) (upd H1 p (.lst []))
theorem kS(B:bp sc X.env.scope X.N N' fr):∀x∈sc.names,x.2=.local->sc.names.lookup x.1=Z .local:=λx hx e=>by obtain⟨n,k⟩:=x;have e':k=.local:=e;subst e';exact aX B.nd hx
theorem iw(z:X.calm=N2){rest:List Kk}(hx:∀e s,X.xe e s->False)(B:bp sc X.env.scope X.N N' fr)(F:∀g',rest[0]?=Z g'->g'.is_async=0)(hi:PI X target iter wi){tb:Ub->TC}(G:∀s H fp,PG (aM X sc N' s H fp) target g)(L:∀s H fp p,PB (aM X sc N' s H fp) (λk=>bB ifs (aM X sc N' s H fp).env>>=λok=>if ok=N2 then bo elt (⟨target,iter,ifs,0⟩::rest) sc pos 0 (.ref p) (aM X sc N' s H fp).env k else k) (tb p))(hs:∀x,LO iter X.env x=pure x):
 PE X (.ListComp elt (⟨target,iter,ifs,0⟩::rest) sc pos) (rC wi g tb fr):=by
 intro pins s σ H Q I h;rw[eval_ListComp];refine PH (use:=Y) rfl hs (jf (fZ I B)) B.kind (kS B) (n9 (Nn:=λp _ H2=>Q (.ref p) H2) (RR:=λacc C=>compPost (model X.prog X.w) X.A X.xe Y (EP X pins σ Q) acc C) z hx B F hi G L I h ?_);intro p fp s3 fv s' σ' H' f O U J q;obtain⟨m,F2,_⟩:=J.loc;exact⟨m,F2,λh' j=>⟨.ref p,H',kR O U J j,rfl,q⟩⟩
theorem jg(hc:X.calm=N2){rest:List Kk}{spos:Pos}{x:Str}{i:Nat}(hx:∀e s,X.xe e s->False)(B:bp sc X.env.scope X.N N' fr)(ha:∀g',rest[0]?=Z g'->g'.is_async=0)(hi:PI X target iter wi){tb:Ub->TC}(hg:∀s H fp,PG (aM X sc N' s H fp) target g)(F:∀s H fp p,PB (aM X sc N' s H fp) (λk=>bB ifs (aM X sc N' s H fp).env>>=λok=>if ok=N2 then bo elt (⟨target,iter,ifs,0⟩::rest) sc pos 0 (.ref p) (aM X sc N' s H fp).env k else k) (tb p))(hs:∀x,LO iter X.env x=pure x)(G:PG X (.Name x pos') (j5 i))(L:NL (.ListComp elt (⟨target,iter,ifs,0⟩::rest) sc pos) (Z (.Name x pos')) spos.line X.env=pure N2):
 PS X (.Assign [.Name x pos'] (.ListComp elt (⟨target,iter,ifs,0⟩::rest) sc pos) spos) (r8 (rC wi g tb fr) (j5 i)):=by
 intro pins s σ H D I h;rw[exec_Assign_Name_used _ _ _ _ L];refine gV (Nc (gV ?_));show Jm _ X.A (do let _ <-comprehension (.ListComp elt (⟨target,iter,ifs,0⟩::rest) sc pos) sc X.env _ (newList []) Ua (eval iter X.env) (Z (assign (.Name x pos') X.env))) _ _ s
 refine gV (LA (PH (use:=Z (assign (.Name x pos') X.env)) (Q:=λ_ s'=>SP X pins D .next s') rfl hs (jf (fZ I B)) B.kind (kS B)
  (n9 (Nn:=λp _ H2=>D.nx (σ.set i (Z (.ref p))) H2) (RR:=λacc C=>compPost (model X.prog X.w) X.A X.xe (Z (assign (.Name x pos') X.env)) (λ_ s'=>SP X pins D .next s') acc C) hc hx B ha hi hg F I h ?_)) (λ_ s' hq=>D2 (D2 hq)) λ_ _ e=>e)
 intro p fp s3 H3 s' σ' H' f j f3 J q;obtain⟨m,⟨o,es,ep,ho,hd,hk,hm⟩,_⟩:=J.loc;have I4:Inv X pins σ H' s':=kR (h':=s'.heap) j f3 J ⟨rfl,λ_ _=>rfl⟩;have hL:(aM X sc N' s3 H3 fp).env.locals=s3.heap.objs.size:=rfl;rw[hL]at ho;have O:H' s3.heap.objs.size=Y:=J.free;have neL:s3.heap.objs.size≠X.env.locals:=Ma j.lt;have nfs:s3.heap.objs.size∉X.fs:=j.nofs (J6 _);have I5:Inv X (pins++[(s3.heap.objs.size,o)]) σ H' s':=I4.pins_of λpr U=>by
  rcases Ja.mp U with z|z
  ·exact I4.pin pr (Jx _ z)
  ·have e:pr=(s3.heap.objs.size,o):=by simpa using z
   subst e;exact⟨ho,O,neL,nfs,λv z=>by rw[hd]at z;cases z⟩
 show Jm _ X.A (assign (.Name x pos') X.env (.ref p)) _ _ _;refine thn (G _ s' σ H' (.ref p) (.ref p) D.nx I5 rfl q) λ_ s6 g9=>?_;obtain⟨σ6,H6,I6,q6⟩:=g9;obtain⟨F2,fv,_⟩:=I6.pin (s3.heap.objs.size,o) (Jx _ (Jx _ (by simp)))
 refine⟨m,⟨o,es,ep,F2,hd,hk,hm⟩,λh' GA=>⟨σ6,H6,?_,q6⟩⟩;refine(I6.unpinned).turned (t':=s6.toks) (it:=s3.heap.objs.size) (λb o F e=>(GA.2 b F).trans e) fv neL (.inr j.sz) (λy c e z=>?_) λpr U z=>?_
 ·obtain⟨v,q⟩:=j.cell y c e;exact absurd q.lt (by rw[z];exact La _)
 ·exact absurd (Jl (j.pin pr U).1) (by rw[z];exact La _)
end
end
end
namespace Zp
def At(t:Bool)(h:Heap)(i l:Ub)(k:Nat):Prop:=match t with|true=>h.IsTupleIter i l k|false=>h.IsListIter i l k
def Sq(t:Bool)(h:Heap)(l:Ub)(xs:Array hH):Prop:=match t with|true=>h.IsTuple l xs|false=>h.IsList l xs
variable{h:Heap}{i l:Ub}
theorem At.up{t:Bool}{h':Heap}{k:Nat}(x:At t h i l k)(e:∀o,h.get? i=Z o->h'.get? i=Z o):At t h' i l k:=by cases t<;>(obtain⟨o,ho,r⟩:=x;exact⟨o,e o ho,r⟩)
variable{xs:Array hH}
theorem Sq.up{t:Bool}{h':Heap}(x:Sq t h l xs)(e:∀o,h.get? l=Z o->h'.get? l=Z o):Sq t h' l xs:=by cases t<;>(obtain⟨o,ho,r⟩:=x;exact⟨o,e o ho,r⟩)
theorem At.lt{t:Bool}{k:Nat}(x:At t h i l k):∃o,h.get? i=Z o/\∀v,o.data≠.cell v:=by cases t<;>(obtain⟨o,ho,j,hd⟩:=x;exact⟨o,ho,λv z=>by rw[hd]at z;cases z⟩)
variable{x r:hH}{z T j a b:Ub}{u:Bool}{ys:Array hH}
section
variable{prog:JB}{w:K1}{A:Kh}{E:hH->I7->Prop}{s:I7}
open Builtin.SmallTypes in
theorem wp{k:Nat}{Q:hH->I7->Prop}(hi:s.heap.IsTupleIter i l k)(L:s.heap.IsTuple l xs)(hx:xs[k]?=Z x)(q:∀h',h'.IsTupleIter i l (k+1)->Lc i s.heap h'->Q x {s with heap:=h'}):Jm (model prog w) A (nextOf (.ref i)) Q E s:=by
 obtain⟨ob,z,B,j⟩:=id hi;obtain⟨oq,G,_,nq,J⟩:=L;unfold nextOf;refine gV (JY (name:=JN "__next__") hi.typeIs Mj (K7 Mj hi.typeIs OS ?_ (OJ _)));refine gV (m:=field (.ref i) 0) (Kg z j (x:=.ref l) rfl ?_);refine(if_neg (c:=(KY l==Nl)=N2) Jg)▸?_;refine gV (m:=field (.ref i) 1) (Kg z j (x:=.int k 0) rfl ?_);refine gV (m:=seqItems? (.ref l)) (LJ G J ?_);simp only[Jd,hx];refine gV (wpAny_setField z j (by simp) (D2 ⟨x,rfl,D2 (q _ ⟨_,Qu _ z (Obj.isFreed_of_fields (Ry j _)),(Obj.cls_mapFields ..).trans B,?_⟩ (R8 ..))⟩))
 rw[Ry j];simp[Pz]
open Builtin.SmallTypes in
theorem zp{k:Nat}{Q:hH->I7->Prop}(J:A.handled=Y)(hi:s.heap.IsTupleIter i l k)(L:s.heap.IsTuple l xs)(hx:xs[k]?=Y)(q:∀h' e,SH i s.heap h'->(∃o,h'.get? e=Z o/\o.cls=.type "StopIteration")->E (.ref e) {s with heap:=h'}):Jm (model prog w) A (nextOf (.ref i)) Q E s:=by
 obtain⟨ob,j,O,z⟩:=id hi;obtain⟨oq,B,_,nq,G⟩:=L;unfold nextOf;refine gV (JY (name:=JN "__next__") hi.typeIs Mj (K7 Mj hi.typeIs OS ?_ (OJ _)));refine gV (m:=field (.ref i) 0) (Kg j z (x:=.ref l) rfl ?_);refine(if_neg (c:=(KY l==Nl)=N2) Jg)▸?_;refine gV (m:=field (.ref i) 1) (Kg j z (x:=.int k 0) rfl ?_);refine gV (m:=seqItems? (.ref l)) (LJ B G ?_);simp only[Jd,hx];refine gV (Ll (gV (wpAny_setField j z (by simp) ?_)))
 refine gV (m:=newExc (.type "StopIteration") []) ?_;simp only[newExc,newTuple];refine gV (L9 ?_ (by size_fits))
 refine gV (m:=Pb _ _) (MU (a:=Nl) (by first|rfl|(simp only[Pb];rfl)) (L9 ?_ (by size_fits)))
 simp only[raiseNew];refine gV (wpAny_handled ?_)
 first|rw[show A.in1.handled=Y from J]|rw[J]
 exact gV (D2 (SI (q _ _ (((R8 ..).extBut.push _).push _) ⟨_,Jf _ rfl,rfl⟩)))
open Builtin.SmallTypes in
theorem nx_item{t:Bool}{k:Nat}{Q:hH->I7->Prop}(hi:At t s.heap i l k)(j:Sq t s.heap l xs)(hx:xs[k]?=Z x)(q:∀h',At t h' i l (k+1)->Lc i s.heap h'->Q x {s with heap:=h'}):Jm (model prog w) A (nextOf (.ref i)) Q E s:=by
 cases t with
 |true=>exact wp hi j hx q
 |false=>exact wpAny_nextOf_list_item hi j hx q
open Builtin.SmallTypes in
theorem nx_end{t:Bool}{k:Nat}{Q:hH->I7->Prop}(j:A.handled=Y)(hi:At t s.heap i l k)(z:Sq t s.heap l xs)(hx:xs[k]?=Y)(q:∀h' e,SH i s.heap h'->(∃o,h'.get? e=Z o/\o.cls=.type "StopIteration")->E (.ref e) {s with heap:=h'}):Jm (model prog w) A (nextOf (.ref i)) Q E s:=by
 cases t with
 |true=>exact zp j hi z hx q
 |false=>exact wpAny_nextOf_list_end j hi z hx q
open Builtin.SmallTypes in
theorem Bq {O:Ub}{t:Bool}{k:Nat}{y p:hH}{Q:hH->I7->Prop}(D:QH z T O i j a b)(G:Pw s.heap z T O .none)(hT:MD s.heap T (.ref i) (.ref j))(hO:MD s.heap O p r)(hi:At t s.heap i a k)(hj:At u s.heap j b k)(ha:Sq t s.heap a xs)(hb:Sq u s.heap b ys)(hx:xs[k]?=Z x)(hy:ys[k]?=Z y)(q:∀h',Pw h' z T O (Pz s.heap.objs.size)->MD h' O x y->At t h' i a (k+1)->At u h' j b (k+1)->MD h' s.heap.objs.size x y->
   (∀c o,c≠z->c≠O->c≠i->c≠j->s.heap.get? c=Z o->h'.get? c=Z o)->Q (.ref s.heap.objs.size) {s with heap:=h'}):
 Jm (model prog w) A (LR.«zip.__next__» ⟨[.ref z],[]⟩) (λfin s'=>∃v,fin=.done (.ret v)/\Q v s') E s:=by
 refine gV (m:=field (.ref z) 2) (Kg G rfl (x:=.bool Ua) rfl ?_);refine gV (m:=field (.ref z) 3) (Kg G rfl (x:=.ref T) rfl ?_);refine gV (LJ hT rfl ?_);refine gV (m:=ownedTupleIsFree (.ref z)) ?_;unfold ownedTupleIsFree;refine gV (Kg G rfl (x:=.none) rfl (D2 ?_));simp only[if_true];refine gV (Ll (gV (Kg G rfl (x:=.ref O) rfl (gV (K5 G (by simp) λg1 z1 s1=>?_)))))
 have Z1:Pw g1 z T O .ellipsis:=z1;clear z1;refine gV ?_;simp only[PV,SW,Mq,QI];refine gV (gV (PJ (gV (m:=nextOf (.ref i)) ?_)));refine nx_item (hi.up λo e=>s1.extBut _ o D.i1z e) (ha.up λo e=>s1.extBut _ o D.l1z e) hx λg2 U s2=>D2 ?_;have O2:MD g2 O p r:=s2.extBut _ _ D.TOi1 (s1.extBut _ _ D.TOz hO);refine gV (LJ O2 rfl (gV (OA O2 λg3 o3 s3=>?_)));have O3:MD g3 O x r:=o3;clear o3;refine gV (Px (D2 (gV (gV (PJ (gV (m:=nextOf (.ref j)) ?_))))));refine nx_item (hj.up λo e=>s3.extBut _ o D.TOi2.symm (s2.extBut _ o D.i12.symm (s1.extBut _ o D.i2z e))) (hb.up λo e=>s3.extBut _ o D.l2TO (s2.extBut _ o D.l2i1 (s1.extBut _ o D.l2z e))) hy λg4 F2 s4=>D2 ?_;have O4:MD g4 O x r:=s4.extBut _ _ D.TOi2 O3;refine gV (LJ O4 rfl (gV (OA O4 λB o5 s5=>?_)));have O5:MD B O x y:=o5;clear o5;refine gV (Px (D2 (D2 (gV (LJ O5 rfl (gV (QJ ?_)))))));have sz:B.objs.size=s.heap.objs.size:=by rw[s5.1,s4.1,s3.1,s2.1,s1.1]
 have k5:∀c o,c≠z->c≠O->c≠i->c≠j->s.heap.get? c=Z o->B.get? c=Z o:=λc o F J fv c4 e=>s5.extBut _ _ J (s4.extBut _ _ c4 (s3.extBut _ _ J (s2.extBut _ _ fv (s1.extBut _ _ F e))))
 have Z5:Pw B z T O .ellipsis:=s5.extBut _ _ D.TOz.symm (s4.extBut _ _ D.i2z.symm (s3.extBut _ _ D.TOz.symm (s2.extBut _ _ D.i1z.symm Z1)));have I5:At t B i a (k+1):=U.up λo e=>s5.extBut _ o D.TOi1.symm (s4.extBut _ o D.i12 (s3.extBut _ o D.TOi1.symm e));have J5:At u B j b (k+1):=F2.up λo e=>s5.extBut _ o D.TOi2.symm e;have zl:z<B.objs.size:=Jl Z5;refine gV (m:=ownedTupleHandOut (.ref z) (.ref B.objs.size)) ?_;unfold ownedTupleHandOut;refine gV (K5 (D0 _ Z5) (by simp) λg7 z7 s7=>?_)
 have Z7:Pw g7 z T O (Pz B.objs.size):=z7;clear z7;refine K5 Z7 (by simp) λL z8 s8=>?_
 have Z8:Pw L z T O (Pz B.objs.size):=z8;clear z8;have up:∀c o,c≠z->B.get? c=Z o->L.get? c=Z o:=λc o F e=>s8.extBut _ _ F (s7.extBut _ _ F (D0 _ e));have P8:MD L B.objs.size x y:=s8.extBut _ _ (Ma zl) (s7.extBut _ _ (Ma zl) (Jf _ rfl));rw[sz]at Z8 P8;refine D2 ⟨_,rfl,?_⟩;show Q (.ref B.objs.size) _;rw[sz];exact q L Z8 (up _ _ D.TOz O5) (I5.up λo e=>up _ o D.i1z e) (J5.up λo e=>up _ o D.i2z e) P8 λc o F J fv c4 e=>up c o F (k5 c o F J fv c4 e)
open Builtin.SmallTypes in
theorem De{O:Ub}{t:Bool}{k:Nat}{p:hH}{Q:Fin->I7->Prop}(hn:A.handled=Y)(D:QH z T O i j a b)(G:Pw s.heap z T O .none)(hT:MD s.heap T (.ref i) (.ref j))(hO:MD s.heap O p r)(hi:At t s.heap i a k)(hj:At u s.heap j b k)(ha:Sq t s.heap a xs)(hb:Sq u s.heap b ys)(J:xs[k]?=Y∨ys[k]?=Y)(q:∀h' e,(∀c o,c≠z->c≠O->c≠i->c≠j->s.heap.get? c=Z o->h'.get? c=Z o)->(∃o,h'.get? e=Z o/\o.cls=.type "StopIteration")->E (.ref e) {s with heap:=h'}):
 Jm (model prog w) A (LR.«zip.__next__» ⟨[.ref z],[]⟩) Q E s:=by
 refine gV (m:=field (.ref z) 2) (Kg G rfl (x:=.bool Ua) rfl ?_);refine gV (m:=field (.ref z) 3) (Kg G rfl (x:=.ref T) rfl ?_);refine gV (LJ hT rfl ?_);refine gV (m:=ownedTupleIsFree (.ref z)) ?_;unfold ownedTupleIsFree;refine gV (Kg G rfl (x:=.none) rfl (D2 ?_));simp only[if_true];refine gV (Ll (gV (Kg G rfl (x:=.ref O) rfl (gV (K5 G (by simp) λg1 z1 s1=>?_)))))
 have Z1:Pw g1 z T O .ellipsis:=z1;clear z1;refine gV ?_;simp only[PV,SW,Mq,QI];refine gV (gV (PJ (gV (m:=nextOf (.ref i)) ?_)));have L:At t g1 i a k:=hi.up λo e=>s1.extBut _ o D.i1z e;have U:Sq t g1 a xs:=ha.up λo e=>s1.extBut _ o D.l1z e
 cases hx:xs[k]? with
 |none=>
  refine nx_end hn L U hx λg2 e s2 he=>?_;obtain⟨oe,B,F⟩:=he;have Z2:Pw g2 z T O .ellipsis:=s2 _ _ D.i1z.symm Z1;have ez:e≠z:=λx=>by subst x;rw[Z2]at B;cases B;simp at F
  exact K5 Z2 (by simp) λg3 _ s3=>q g3 e (λc o F2 _ fv _ x=>s3.extBut _ _ F2 (s2 _ _ fv (s1.extBut _ _ F2 x))) ⟨oe,s3.extBut _ _ ez B,F⟩
 |some x=>
  have hy:ys[k]?=Y:=J.elim (λz=>by rw[hx]at z;cases z) id
  refine nx_item L U hx λg2 GA s2=>D2 ?_;have O2:MD g2 O p r:=s2.extBut _ _ D.TOi1 (s1.extBut _ _ D.TOz hO);refine gV (LJ O2 rfl (gV (OA O2 λg3 o3 s3=>?_)));refine gV (Px (D2 (gV (gV (PJ (gV (m:=nextOf (.ref j)) ?_))))));refine nx_end hn (hj.up λo e=>s3.extBut _ o D.TOi2.symm (s2.extBut _ o D.i12.symm (s1.extBut _ o D.i2z e))) (hb.up λo e=>s3.extBut _ o D.l2TO (s2.extBut _ o D.l2i1 (s1.extBut _ o D.l2z e))) hy λg4 e s4 he=>?_;obtain⟨oe,B,F⟩:=he;have Z4:Pw g4 z T O .ellipsis:=s4 _ _ D.i2z.symm (s3.extBut _ _ D.TOz.symm (s2.extBut _ _ D.i1z.symm Z1));have ez:e≠z:=λx=>by subst x;rw[Z4]at B;cases B;simp at F
  exact K5 Z4 (by simp) λg5 _ s5=>q g5 e (λc o F2 c2 fv c4 x=>s5.extBut _ _ F2 (s4 _ _ c4 (s3.extBut _ _ c2 (s2.extBut _ _ fv (s1.extBut _ _ F2 x))))) ⟨oe,s5.extBut _ _ ez B,F⟩
theorem nxt_item {O:Ub}{t:Bool}{k:Nat}{y p:hH}{Q:Option hH->I7->Prop}(D:QH z T O i j a b)(B:Pw s.heap z T O .none)(G:MD s.heap T (.ref i) (.ref j))(J:MD s.heap O p r)(hi:At t s.heap i a k)(L:At u s.heap j b k)(U:Sq t s.heap a xs)(F2:Sq u s.heap b ys)(hx:xs[k]?=Z x)(fv:ys[k]?=Z y)(q:∀h',Pw h' z T O (Pz s.heap.objs.size)->MD h' O x y->At t h' i a (k+1)->At u h' j b (k+1)->MD h' s.heap.objs.size x y->
   (∀c o,c≠z->c≠O->c≠i->c≠j->s.heap.get? c=Z o->h'.get? c=Z o)->Q (Z (.ref s.heap.objs.size)) {s with heap:=h'}):
 Jm (model prog w) A (NR (.ref z)) Q E s:=by
 have ty:s.TypeIs (.ref z) "zip":=⟨_,B,rfl⟩;unfold NR;exact gV (MJ (JY (name:=JN "__next__") ty OK (K7 OK ty Si
  (Bq D B G J hi L U F2 hx fv λh' a1 a2 a3 a4 a5 a6=>D2 (q h' a1 a2 a3 a4 a5 a6)) (RW _))))
theorem nxt_end{O:Ub}{t:Bool}{k:Nat}{p:hH}{Q:Option hH->I7->Prop}(J:A.handled=Y)(D:QH z T O i j a b)(G:Pw s.heap z T O .none)(L:MD s.heap T (.ref i) (.ref j))(U:MD s.heap O p r)(hi:At t s.heap i a k)(F2:At u s.heap j b k)(fv:Sq t s.heap a xs)(hb:Sq u s.heap b ys)(B:xs[k]?=Y∨ys[k]?=Y)(q:∀h',(∀c o,c≠z->c≠O->c≠i->c≠j->s.heap.get? c=Z o->h'.get? c=Z o)->Q Y {s with heap:=h'}):Jm (model prog w) A (NR (.ref z)) Q E s:=by
 have ty:s.TypeIs (.ref z) "zip":=⟨_,G,rfl⟩;unfold NR;refine gV (MJ (JY (name:=JN "__next__") ty OK (K7 OK ty Si
  (De J D G L U hi F2 fv hb B λh' e hk he=>?_) (RW _))))
 obtain⟨o,ho,hc⟩:=he;exact gV (Mf (T:="StopIteration") (b:=N2) ⟨o,ho,hc⟩ QK (D2 (q _ hk)))
noncomputable def itO(t:Bool)(l:Ub):Obj:=match t with|true=>{cls:=.type "tuple_iterator",data:=.fields #[.ref l,.int 0 0]}|false=>{cls:=.type "list_iterator",data:=.fields #[.ref l,.int 0 0]}
noncomputable def zH1(h:Heap)(t:Bool)(a:Ub):Heap:=h.push (itO t a)
noncomputable def zH2(h:Heap)(t u:Bool)(a b:Ub):Heap:=(zH1 h t a).push (itO u b)
noncomputable def zH3(h:Heap)(t u:Bool)(a b:Ub):Heap:=(zH2 h t u a b).push {cls:=.type "tuple",data:=.seq #[.ref h.objs.size,.ref (zH1 h t a).objs.size]}
noncomputable def zH4(h:Heap)(t u:Bool)(a b:Ub):Heap:=(zH3 h t u a b).push {cls:=.type "tuple",data:=.seq #[.none,.none]}
noncomputable def zH5(h:Heap)(t u:Bool)(a b:Ub):Heap:=(zH4 h t u a b).push {cls:=.type "zip",data:=.fields #[.none,.bool Ua,.bool Ua,.ref (zH2 h t u a b).objs.size,.ref (zH3 h t u a b).objs.size]}
theorem tS(t u:Bool)(a b:Ub)(xs ys:Array hH):
 Meets (LR.«zip.__new__» ⟨[.type "zip",.ref a,.ref b],[]⟩) (λ_ R s=>Sq t s.heap a xs/\Sq u s.heap b ys/\R (.ok (.ret (.ref (zH4 s.heap t u a b).objs.size))) {s with heap:=zH5 s.heap t u a b}):=
 .of_wp λprog w A R s h=>by
  obtain⟨j,g,d,tk,os⟩:=s;obtain⟨B,F,h⟩:=h;have hs:=sub_zip
  cases t<;>cases u
  ·have q:QL (MV ⟨j,g,d,tk,os⟩) a xs:=B;have z:QL (MV ⟨j.push {cls:=.type "list_iterator",data:=.fields #[.ref a,.int 0 0]},g,d,tk,os⟩) b ys:=Sj F _
   wp_walk using LS q,LS z
   exact⟨_,rfl,h⟩
  ·have q:QL (MV ⟨j,g,d,tk,os⟩) a xs:=B;have z:OT (MV ⟨j.push {cls:=.type "list_iterator",data:=.fields #[.ref a,.int 0 0]},g,d,tk,os⟩) b ys:=RX F _
   wp_walk using LS q,Le z
   exact⟨_,rfl,h⟩
  ·have q:OT (MV ⟨j,g,d,tk,os⟩) a xs:=B;have z:QL (MV ⟨j.push {cls:=.type "tuple_iterator",data:=.fields #[.ref a,.int 0 0]},g,d,tk,os⟩) b ys:=Sj F _
   wp_walk using Le q,LS z
   exact⟨_,rfl,h⟩
  ·have q:OT (MV ⟨j,g,d,tk,os⟩) a xs:=B;have z:OT (MV ⟨j.push {cls:=.type "tuple_iterator",data:=.fields #[.ref a,.int 0 0]},g,d,tk,os⟩) b ys:=RX F _
   wp_walk using Le q,Le z
   exact⟨_,rfl,h⟩
theorem at_new{t:Bool}(e:h.get? i=Z (itO t l)):At t h i l 0:=by cases t<;>exact⟨_,e,rfl,rfl⟩
theorem call_zip {t:Bool}{Q:hH->I7->Prop}(ha:Sq t s.heap a xs)(hb:Sq u s.heap b ys)(q:∀h',Pw h' (s.heap.objs.size+4) (s.heap.objs.size+2) (s.heap.objs.size+3) .none->MD h' (s.heap.objs.size+2) (.ref s.heap.objs.size) (.ref (s.heap.objs.size+1))->
   MD h' (s.heap.objs.size+3) .none .none->At t h' s.heap.objs.size a 0->At u h' (s.heap.objs.size+1) b 0->h'.objs.size=s.heap.objs.size+5->
   (∀c o,s.heap.get? c=Z o->h'.get? c=Z o)->Q (.ref (s.heap.objs.size+4)) {s with heap:=h'}):
 Jm (model prog w) A (call (.type "zip") [.ref a,.ref b]) Q E s:=by
 refine callType_new F.called_zip (by decide) (F.typeCall_zip_2 _ _) (F.newCall_zip_2 _ _) (λobj=>F.args_object_init_3 obj _ _) F.entry_zip_new (tS t u a b xs ys) ⟨ha,hb,?_⟩
 have B:(zH1 s.heap t a).objs.size=s.heap.objs.size+1:=Lm ..;have G:(zH2 s.heap t u a b).objs.size=s.heap.objs.size+2:=by unfold zH2;rw[Lm,B]
 have J:(zH3 s.heap t u a b).objs.size=s.heap.objs.size+3:=by unfold zH3;rw[Lm,G]
 have L:(zH4 s.heap t u a b).objs.size=s.heap.objs.size+4:=by unfold zH4;rw[Lm,J]
 have z5:(zH5 s.heap t u a b).objs.size=s.heap.objs.size+5:=by unfold zH5;rw[Lm,L]
 have j:∀{c o},(zH4 s.heap t u a b).get? c=Z o->(zH5 s.heap t u a b).get? c=Z o:=λe=>D0 _ e;have z:∀{c o},(zH3 s.heap t u a b).get? c=Z o->(zH4 s.heap t u a b).get? c=Z o:=λe=>D0 _ e;have O:∀{c o},(zH2 s.heap t u a b).get? c=Z o->(zH3 s.heap t u a b).get? c=Z o:=λe=>D0 _ e;have F2:∀{c o},(zH1 s.heap t a).get? c=Z o->(zH2 s.heap t u a b).get? c=Z o:=λe=>D0 _ e;have k1:∀{c o},s.heap.get? c=Z o->(zH1 s.heap t a).get? c=Z o:=λe=>D0 _ e;have f:∀t l,(itO t l).isFreed=Ua:=λt l=>by cases t<;>rfl
 have U:(zH5 s.heap t u a b).get? (zH4 s.heap t u a b).objs.size=Z _:=Jf _ rfl;have fv:(zH5 s.heap t u a b).get? (zH3 s.heap t u a b).objs.size=Z _:=j (Jf _ rfl);have g3:(zH5 s.heap t u a b).get? (zH2 s.heap t u a b).objs.size=Z _:=j (z (Jf _ rfl));have g2:(zH5 s.heap t u a b).get? (zH1 s.heap t a).objs.size=Z _:=j (z (O (Jf _ (f u b))));have g1:(zH5 s.heap t u a b).get? s.heap.objs.size=Z _:=j (z (O (F2 (Jf _ (f t a)))));show _/\_;rw[G,J,L]at U;rw[B,G]at g3;rw[J]at fv;rw[B]at g2;rw[L];exact⟨⟨_,U,rfl⟩,q _ U g3 fv (at_new g1) (at_new g2) z5 λc o x=>j (z (O (F2 (k1 x))))⟩
end
end Zp
variable{K:Frag}{elts:List Expr}
section
section
variable{X:Cx}{pins:List (Ub×Obj)}{σ:St}{H:Hp}{s:I7}{h':Heap}
theorem Inv.turnedL{fp:List Ub}(I:Inv X pins σ H s)(hf:∀b∈fp,cj X pins H b)(k:∀b o,b∉fp->s.heap.get? b=Z o->h'.get? b=Z o):Inv X pins σ H {s with heap:=h',toks:=t'}:=by
 have nit:∀b u,H b=Z u->b∉fp:=λb u e z=>by rw[(hf b z).1]at e;cases e
 refine I.step (g':=s.gens) (d':=s.drawn) (ch:=fp) (λb B=>?_) (λb o _ _ j e _=>k b o j e) (λb o _ _ j e _=>⟨o.slots,k b o j e⟩) (λ_ _ _ _ n=>n)
  (λb o j e=>⟨o,k b o j e⟩) (λ_ _ e=>e) (λ_ _ _ e=>e) (λb ps e=>⟨#[],by rw[e];simp⟩) (λm hm=>?_) (λb u e=>?_) I.bare
 ·obtain⟨_,f1,_,F,f4,G⟩:=hf b B;exact⟨F,f1,f4,G⟩
 ·obtain⟨o,es,ep,ho,r⟩:=hm;exact⟨o,es,ep,k _ o (λz=>(hf _ z).2.1 rfl) ho,r⟩
 ·refine(I.hok b u e).stay (λc v j q=>k c v ?_ q) (λ_ q=>q) λ_ _ q=>q
  rcases j with z|z
  ·rw[z];exact nit b u e
  ·exact nit c _ z
end
def SqV(K:Frag)(t:Bool)(H:Hp)(a:Ub)(xs:List V):Prop:=match t with|true=>SqT K H a xs|false=>SqL K H a xs
theorem Inv.sqv{t:Bool}{xs:List V}(I:Inv X pins σ H s)(h:SqV X.K t H a xs):∃its:List hH,Vals xs its/\Zp.Sq t s.heap a its.toArray:=by
 cases t with
 |true=>obtain⟨its,r,p,_⟩:=I.tuple h;exact⟨its,r,p⟩
 |false=>obtain⟨its,r,p,_⟩:=I.list h;exact⟨its,r,p.isList⟩
theorem Inv.sqv_inj{t:Bool}{xs ys:List V}(I:Inv X pins σ H s)(h:SqV X.K t H a xs)(h':SqV X.K t H a ys):xs=ys:=by
 cases t with
 |true=>exact I.tuple_inj h h'
 |false=>exact I.list_inj h h'
noncomputable def Itz(K:Frag)(t u:Bool)(a b:Ub):It:=
 ⟨λi H=>∃xs ys x y,SqV K t H a xs/\SqV K u H b ys/\xs[i]?=Z x/\ys[i]?=Z y,
  λi H v H'=>∃p x y,H p=Y/\v=.ref p/\H'=upd H p (.tup [x,y])/\∀xs ys,SqV K t H a xs->SqV K u H b ys->xs[i]?=Z x/\ys[i]?=Z y,
  λi H=>∃xs ys,SqV K t H a xs/\SqV K u H b ys/\(xs.length<=i∨ys.length<=i)⟩
theorem wq{cx}{t u:Bool}{z T O i j:Ub}(D:QH z T O i j a b):
 fW P w K (.Tuple elts cx pos) (Itz K t u a b) [z,T,O,i,j] z (λk h=>Pw h z T O .none/\MD h T (.ref i) (.ref j)/\(∃p r,MD h O p r)/\Zp.At t h i a k/\Zp.At u h j b k) where
 mem:=by simp
 obj:=λk h ⟨B,F,⟨p,r,G⟩,hi,J⟩ c q=>by
  simp only[Jp,K8,or_false]at q
  rcases q with rfl|rfl|rfl|rfl|rfl
  ·exact⟨_,B,λv e=>by cases e⟩
  ·exact⟨_,F,λv e=>by cases e⟩
  ·exact⟨_,G,λv e=>by cases e⟩
  ·exact hi.lt
  ·exact J.lt
 keep:=λk h h' g9 kk=>(by obtain⟨B,F,⟨p,r,G⟩,hi,J⟩:=g9;exact⟨kk z (by simp) _ B,kk T (by simp) _ F,⟨p,r,kk O (by simp) _ G⟩,hi.up λo e=>kk i (by simp) o e,J.up λo e=>kk j (by simp) o e⟩)
 item:=by
  intro X F2 hw fv q k pins s σ H E I hf st hg;subst F2 hw fv;obtain⟨B,F,⟨p,r,G⟩,hi,J⟩:=st;obtain⟨xs,ys,x,y,qx,qy,ex,ey⟩:=hg;obtain⟨is,rx,px⟩:=I.sqv qx;obtain⟨js,ry,py⟩:=I.sqv qy;obtain⟨ux,GA,rux⟩:=rx.get ex;obtain⟨uy,GB,ruy⟩:=ry.get ey;refine Zp.nxt_item D B F G hi J px py (by simpa using GA) (by simpa using GB) λh1 z1 o1 i1 j1 p1 U=>⟨_,rfl,?_⟩
  refine wpAny_letOwnedTupleGo_zip (s:={s with heap:=h1}) z1 λh2 z2 s2=>?_
  have lt:∀{c o},s.heap.get? c=Z o->c≠s.heap.objs.size:=λe=>JU (Jl e);have nz:s.heap.objs.size≠z:=(lt B).symm;have GC:∃o,s.heap.get? i=Z o:=hi.lt.imp λ_ h=>h.1;have GD:∃o,s.heap.get? j=Z o:=J.lt.imp λ_ h=>h.1;have up:∀c o,c≠z->h1.get? c=Z o->h2.get? c=Z o:=λc o n e=>s2.extBut _ _ n e;have IL:Inv X pins σ (upd H s.heap.objs.size (.tup [x,y])) {s with heap:=s.heap.push {cls:=.type "tuple",data:=.seq #[ux,uy]},toks:=s.toks}:=I.laid (λb o e=>D0 _ e) (J6 _) ⟨by rw[r4];simp,[ux,uy],.cons rux (.cons ruy .nil),OZ _ _⟩
  have fr:∀c∈[z,T,O,i,j],c≠s.heap.objs.size:=λc q=>by
   simp only[Jp,K8,or_false]at q
   rcases q with rfl|rfl|rfl|rfl|rfl
   ·exact lt B
   ·exact lt F
   ·exact lt G
   ·obtain⟨o,e⟩:=GC;exact lt e
   ·obtain⟨o,e⟩:=GD;exact lt e
  have un:∀c∈[z,T,O,i,j],upd H s.heap.objs.size (.tup [x,y]) c=Y:=λc q=>by rw[am (fr c q)];exact(hf c q).1
  have kk:∀c o,c∉[z,T,O,i,j]->(s.heap.push {cls:=.type "tuple",data:=.seq #[ux,uy]}).get? c=Z o->h2.get? c=Z o:=λc o q e=>by
   simp only[Jp,K8,or_false,not_or]at q
   rcases QM e with⟨rfl,rfl⟩|e
   ·exact up _ _ nz p1
   ·exact up _ _ q.1 (U c o q.1 q.2.2.1 q.2.2.2.1 q.2.2.2.2 e)
  have I2:Inv X pins σ (upd H s.heap.objs.size (.tup [x,y])) {s with heap:=h2,toks:=s.toks}:=(Inv.turnedL (s:={s with heap:=s.heap.push {cls:=.type "tuple",data:=.seq #[ux,uy]},toks:=s.toks}) (h':=h2) (t':=s.toks) (fp:=[z,T,O,i,j]) IL (λc q=>⟨un c q,(hf c q).2⟩) kk)
  refine⟨.ref s.heap.objs.size,_,I2,rfl,⟨_,x,y,I.hok.fresh (J6 _),rfl,rfl,λxs' ys' q1 q2=>?_⟩,⟨z2,up _ _ D.TIz (U _ _ D.TIz D.TITO D.TIi1 D.TIi2 F),⟨_,_,up _ _ D.TOz o1⟩,i1.up λo e=>up _ o D.i1z e,j1.up λo e=>up _ o D.i2z e⟩,un⟩;rw[I.sqv_inj q1 qx,I.sqv_inj q2 qy];exact⟨ex,ey⟩
 done:=by
  intro X F2 hw fv q k pins s σ H E I hf st hg;subst F2 hw fv;obtain⟨B,F,⟨p,r,G⟩,hi,J⟩:=st;obtain⟨xs,ys,qx,qy,L⟩:=hg;obtain⟨is,rx,px⟩:=I.sqv qx;obtain⟨js,ry,py⟩:=I.sqv qy;have lx:=rx.length;have ly:=ry.length;refine Zp.nxt_end (I.ok.hd q) D B F G hi J px py (L.imp (λe=>by simp;lia) (λe=>by simp;lia)) λh1 U=>⟨rfl,I.turnedL (t':=s.toks) hf λc o q e=>?_⟩
  simp only[Jp,K8,or_false,not_or]at q;exact U c o q.1 q.2.2.1 q.2.2.2.1 q.2.2.2.2 e
 self:=λA k s Q E st h=>Sk st.1 h
section
variable{X:Cx}
noncomputable def Er(K:Frag)(ta:TA):TI:=λσ H R=>ta σ H λvs H1=>∃a b t u xs ys,vs=[.ref a,.ref b]/\SqV K t H1 a xs/\SqV K u H1 b ys/\R (Itz K t u a b) H1
theorem Br{cx}{p:Pos}{a b:Expr}{ta:TA}(G:Gl X "zip")(hm:X.mg "zip"=Y)(J:PA X [a,b] ta)(hs:JJ [a,b] X.env=[(Ua,eval a X.env),(Ua,eval b X.env)])(j:JJ [b] X.env=[(Ua,eval b X.env)]):
 PI X (.Tuple elts cx pos) (.Call (.Name "zip" p) [a,b] [] pos') (Er X.K ta):=by
 intro pins s σ H R I h;refine Call_ (eQ I G hm (u:=.type "zip") (by decide +kernel) (Li (thn (J pos' pins s σ H _ I h) λus s1 g9=>?_) (by rw[hs,j]) (by rw[j];rfl)));obtain⟨vs,H1,z,L,O⟩:=g9
 obtain⟨a',b',t,u,xs,ys,rfl,qx,qy,q⟩:=O
 cases L with
 |cons r rr=>
  cases rr with
  |cons r' rr=>
   cases rr
   cases r
   cases r'
   obtain⟨is,rx,px⟩:=z.sqv qx;obtain⟨js,ry,py⟩:=z.sqv qy;refine Zp.call_zip px py λh1 B t1 U F2 fv sz k1=>?_;refine Sk B ?_;have la:a'<s1.heap.objs.size:=by cases t<;>(obtain⟨o,e,_⟩:=px;exact Jl e)
   have lb:b'<s1.heap.objs.size:=by cases u<;>(obtain⟨o,e,_⟩:=py;exact Jl e)
   have D:QH (s1.heap.objs.size+4) (s1.heap.objs.size+2) (s1.heap.objs.size+3) s1.heap.objs.size (s1.heap.objs.size+1) a' b':=by constructor<;>(intro e;subst_vars;first|lia|(simp only[Ub]at *;lia))
   refine⟨_,_,_,_,H1,rfl,z.kept (t':=s1.toks) k1,wq (t:=t) (u:=u) D,⟨B,t1,⟨_,_,U⟩,F2,fv⟩,λc F=>?_,q⟩;have hle:s1.heap.objs.size<=c:=by
    simp only[Jp,K8,or_false]at F
    rcases F with rfl|rfl|rfl|rfl|rfl<;>lia
   exact z.fpOk hle (z.hok.fresh hle)
end
end
namespace Zp
end Zp
namespace En
variable{z i a:Ub}{xs:Array hH}{old:hH}
section
variable{prog:JB}{w:K1}{A:Kh}{E:hH->I7->Prop}{s:I7}
open Builtin.SmallTypes Zp in
theorem Bt {t:Bool}{k:Nat}{x:hH}{Q:hH->I7->Prop}(U:Qj s.heap z i k old)(hi:At t s.heap i a k)(ha:Sq t s.heap a xs)(hx:xs[k]?=Z x)(j:z≠i)(q:∀h',Sl h' z i ((k:Int)+1) x s.heap.objs.size->At t h' i a (k+1)->h'.get? s.heap.objs.size=Z {cls:=.type "tuple",data:=.seq #[.int k s.toks,x]}->
   (∀b o,b≠z->b≠i->s.heap.get? b=Z o->h'.get? b=Z o)->Q (.ref s.heap.objs.size) {s with heap:=h',toks:=s.toks+1}):
 Jm (model prog w) A (LR.«enumerate.__next__» ⟨[.ref z],[]⟩) (λfin s'=>∃v,fin=.done (.ret v)/\Q v s') E s:=by
 obtain⟨B,g,d,tk,os⟩:=s;refine gV (m:=field (.ref z) 2) (Kg U rfl (x:=.ref i) rfl (gV (nx_item hi ha hx λg1 i1 s1=>?_)));have S1:Lc i B g1:=s1;clear s1;have F2:Qj g1 z i k old:=(S1.2 z j).trans U;refine gV (m:=field (.ref z) 3) (Kg (s:=⟨g1,g,d,tk,os⟩) F2 rfl (x:=Pz k) rfl ?_);refine gV (m:=field (.ref z) 4) (Kg (s:=⟨g1,g,d,tk,os⟩) F2 rfl (x:=.none) rfl ?_);refine gV (m:=mkInt k) (wpAny_mkInt ?_);refine gV (m:=setField (.ref z) 3 (Pz ((k:Int)+1))) (K5 (s:=⟨g1,g,d,tk+1,os⟩) F2 (by simp) λg2 z2 s2=>?_)
 have fv:Lc z g1 g2:=s2;have Z2:Qj g2 z i ((k:Int)+1) old:=z2;clear s2 z2;refine gV (m:=setField (.ref z) 4 .none) (K5 (s:=⟨g2,g,d,tk+1,os⟩) Z2 (by simp) λg3 z3 s3=>?_)
 have S3:Lc z g2 g3:=s3;have Z3:Qj g3 z i ((k:Int)+1) old:=z3;clear s3 z3;refine gV (m:=newTuple [.int k tk,x]) (QJ ?_);have G:Qj (g3.push {cls:=.type "tuple",data:=.seq #[.int k tk,x]}) z i ((k:Int)+1) old:=D0 _ Z3;have sz:g3.objs.size=B.objs.size:=by rw[S3.1,fv.1,S1.1]
 have zl:z<B.objs.size:=Jl U;have T4:(g3.push {cls:=.type "tuple",data:=.seq #[.int k tk,x]}).get? B.objs.size=Z {cls:=.type "tuple",data:=.seq #[.int k tk,x]}:=by rw[<-sz];exact Jf _ rfl
 have K4:∀b o,b≠z->b≠i->B.get? b=Z o->(g3.push {cls:=.type "tuple",data:=.seq #[.int k tk,x]}).get? b=Z o:=λb o bz bi e=>D0 _ (S3.extBut b o bz (fv.extBut b o bz (S1.extBut b o bi e)))
 have I4:At t (g3.push {cls:=.type "tuple",data:=.seq #[.int k tk,x]}) i a (k+1):=i1.up λo e=>D0 _ (S3.extBut i o j.symm (fv.extBut i o j.symm e));rw[sz];generalize g3.push {cls:=.type "tuple",data:=.seq #[.int k tk,x]}=F at G T4 K4 I4;refine gV (m:=ownedTupleIsFree (.ref z)) ?_;unfold ownedTupleIsFree;refine gV (Kg (s:=⟨F,g,d,tk+1,os⟩) G rfl (x:=.none) rfl (D2 ?_));simp only[if_true];refine gV (Ll (gV (Kg (s:=⟨F,g,d,tk+1,os⟩) G rfl (x:=old) rfl (gV (K5 (s:=⟨F,g,d,tk+1,os⟩) G (by simp) λJ z5 s5=>?_)))))
 have S5:Lc z F J:=s5;have Z5:Qj J z i ((k:Int)+1) x:=z5;clear s5 z5;refine gV (m:=ownedTupleHandOut (.ref z) (.ref B.objs.size)) ?_;unfold ownedTupleHandOut;refine gV (K5 (s:=⟨J,g,d,tk+1,os⟩) Z5 (by simp) λL z6 s6=>?_)
 have S6:Lc z J L:=s6;have Z6:Sl L z i ((k:Int)+1) x B.objs.size:=z6;clear s6 z6;refine K5 (s:=⟨L,g,d,tk+1,os⟩) Z6 (by simp) λO z7 s7=>?_
 have S7:Lc z L O:=s7;have Z7:Sl O z i ((k:Int)+1) x B.objs.size:=z7;clear s7 z7;have up:∀b o,b≠z->F.get? b=Z o->O.get? b=Z o:=λb o bz e=>S7.extBut b o bz (S6.extBut b o bz (S5.extBut b o bz e));exact gV (Px (D2 ⟨_,rfl,q O Z7 (I4.up λo e=>up i o j.symm e) (up _ _ (Ma zl) T4) λb o bz bi e=>up b o bz (K4 b o bz bi e)⟩))
theorem nxt_item {t:Bool}{k:Nat}{x:hH}{Q:Option hH->I7->Prop}(B:Qj s.heap z i k old)(hi:Zp.At t s.heap i a k)(G:Zp.Sq t s.heap a xs)(hx:xs[k]?=Z x)(j:z≠i)(q:∀h',Sl h' z i ((k:Int)+1) x s.heap.objs.size->Zp.At t h' i a (k+1)->h'.get? s.heap.objs.size=Z {cls:=.type "tuple",data:=.seq #[.int k s.toks,x]}->
   (∀b o,b≠z->b≠i->s.heap.get? b=Z o->h'.get? b=Z o)->Q (Z (.ref s.heap.objs.size)) {s with heap:=h',toks:=s.toks+1}):
 Jm (model prog w) A (NR (.ref z)) Q E s:=by
 have ty:s.TypeIs (.ref z) "enumerate":=⟨_,B,rfl⟩;unfold NR;exact gV (MJ (JY (name:=JN "__next__") ty Ng (K7 Ng ty Qk
  (Bt B hi G hx j λh' a1 a2 J L=>D2 (q h' a1 a2 J L)) (PX _))))
theorem nxt_end{t:Bool}{k:Nat}{Q:Option hH->I7->Prop}(B:A.handled=Y)(j:Qj s.heap z i k old)(hi:Zp.At t s.heap i a k)(G:Zp.Sq t s.heap a xs)(hx:xs[k]?=Y)(q:∀h',SH i s.heap h'->Q Y {s with heap:=h'}):Jm (model prog w) A (NR (.ref z)) Q E s:=by have ty:s.TypeIs (.ref z) "enumerate":=⟨_,j,rfl⟩;unfold NR;refine gV (MJ (JY (name:=JN "__next__") ty Ng (K7 Ng ty Qk ?_ (PX _))));refine gV (m:=field (.ref z) 2) (Kg j rfl (x:=.ref i) rfl (gV (Zp.nx_end B hi G hx λh' x he hs=>?_)));obtain⟨o,ho,J⟩:=hs;exact gV (Mf (T:="StopIteration") (b:=N2) ⟨o,ho,J⟩ QK (D2 (q _ he)))
open AutoSeq1 (wpAny_loadPart') in
theorem zq(l:Ub)(items:Array hH)(n:Nat)(dct:Option Ub)(sl:Array (Option hH)):
 Meets (LR.«enumerate.__new__» ⟨[.type "enumerate",.ref l],[]⟩) (λ_ R s=>s.heap.get? l=Z {cls:=.type "tuple",dict:=dct,data:=.seq items n,slots:=sl} /\
  R (.ok (.ret (.ref (s.heap.push (Zp.itO N2 l)).objs.size))) {s with heap:=(s.heap.push (Zp.itO N2 l)).push {cls:=.type "enumerate",data:=.fields #[.none,.bool Ua,.ref s.heap.objs.size,Pz 0,.none,.none]}}):=
 .of_wp λprog w A R s h=>by
  obtain⟨B,g,d,tk,os⟩:=s;obtain⟨j,h⟩:=h;have q:=sub_enumerate;have z:OT (MV ⟨B,g,d,tk,os⟩) l items:=⟨_,j,rfl,n,rfl⟩
  wp_walk using N8 j
  refine wpAny_stack_any λst=>D2 ?_
  split
  ·rename_i c _ _ _ _ _
   cases(c==L3 "enumerate")<;>(wp_walk using N8 j,Le z;exact⟨_,rfl,h⟩)
  ·wp_walk using N8 j,Le z
   exact⟨_,rfl,h⟩
theorem call_enum{t:Bool}{l:Ub}{items:Array hH}{Q:hH->I7->Prop}(B:Zp.Sq t s.heap l items)(q:∀h',Qj h' (s.heap.objs.size+1) s.heap.objs.size 0 .none->Zp.At t h' s.heap.objs.size l 0->(∀b o,s.heap.get? b=Z o->h'.get? b=Z o)->Q (.ref (s.heap.objs.size+1)) {s with heap:=h'}):
 Jm (model prog w) A (call (.type "enumerate") [.ref l]) Q E s:=by
 cases t with
 |false=>exact call_enumerate_list B λh' a b _ k=>q h' a b k
 |true=>
  obtain⟨⟨c,dct,dt,sl⟩,J,L,n,hd⟩:=B;have j:c=.type "tuple":=L;have z:dt=.seq items n:=hd;subst j z;refine callType_new F.called_enumerate (by decide) (F.typeCall_enumerate_1 _) (F.newCall_enumerate_1 _) (λobj=>F.args_object_init_2 obj _) F.entry_enumerate_new (zq l items n dct sl) ⟨J,?_⟩
  have G:(s.heap.push (Zp.itO N2 l)).objs.size=s.heap.objs.size+1:=Lm ..;have e:((s.heap.push (Zp.itO N2 l)).push {cls:=.type "enumerate",data:=.fields #[.none,.bool Ua,.ref s.heap.objs.size,Pz 0,.none,.none]}).get? (s.heap.push (Zp.itO N2 l)).objs.size=Z _:=Jf _ rfl;rw[G]at e;show _/\_;rw[G];exact⟨⟨_,e,rfl⟩,q _ e (Zp.at_new (D0 _ (Jf _ rfl))) λb o x=>D0 _ (D0 _ x)⟩
end
end En
noncomputable def Ite(K:Frag)(t:Bool)(a:Ub):It:=
 ⟨λi H=>∃xs x,SqV K t H a xs/\xs[i]?=Z x,
  λi H v H'=>∃p x,H p=Y/\v=.ref p/\H'=upd H p (.tup [.int (i:Nat),x])/\∀xs,SqV K t H a xs->xs[i]?=Z x,
  λi H=>∃xs,SqV K t H a xs/\xs.length<=i⟩
theorem tT{cx}{t:Bool}{z i:Ub}(B:z≠i):
 fW P w K (.Tuple elts cx pos) (Ite K t a) [z,i] z (λk h=>(∃old,Qj h z i k old)/\Zp.At t h i a k) where
 mem:=by simp
 obj:=λk h ⟨⟨old,q⟩,hi⟩ c j=>by
  simp only[Jp,K8,or_false]at j
  rcases j with rfl|rfl
  ·exact⟨_,q,λv e=>by cases e⟩
  ·exact hi.lt
 keep:=λk h h' F kk=>(by obtain⟨⟨old,q⟩,hi⟩:=F;exact⟨⟨old,kk z (by simp) _ q⟩,hi.up λo e=>kk i (by simp) o e⟩)
 item:=by
  intro X G hw J j k pins s σ H E I hf st hg;subst G hw J;obtain⟨⟨old,q⟩,hi⟩:=st;obtain⟨xs,x,qx,ex⟩:=hg;obtain⟨is,rx,px⟩:=I.sqv qx;obtain⟨ux,L,rux⟩:=rx.get ex;refine En.nxt_item q hi px (by simpa using L) B λh1 fv i1 p1 O=>⟨_,rfl,?_⟩
  refine wpAny_letOwnedTupleGo_enum (s:={s with heap:=h1,toks:=s.toks+1}) fv λh2 z2 s2=>?_
  have lt:∀{c o},s.heap.get? c=Z o->c≠s.heap.objs.size:=λe=>JU (Jl e);have nz:s.heap.objs.size≠z:=(lt q).symm;have U:∃o,s.heap.get? i=Z o:=hi.lt.imp λ_ h=>h.1;have up:∀c o,c≠z->h1.get? c=Z o->h2.get? c=Z o:=λc o n e=>s2.extBut _ _ n e;have IL:Inv X pins σ (upd H s.heap.objs.size (.tup [.int (k:Nat),x])) {s with heap:=s.heap.push {cls:=.type "tuple",data:=.seq #[.int k s.toks,ux]},toks:=s.toks+1}:=I.laid (λb o e=>D0 _ e) (J6 _) ⟨by rw[r4];simp,[.int k s.toks,ux],.cons ⟨_,rfl⟩ (.cons rux .nil),OZ _ _⟩
  have fr:∀c∈[z,i],c≠s.heap.objs.size:=λc j=>by
   simp only[Jp,K8,or_false]at j
   rcases j with rfl|rfl
   ·exact lt q
   ·obtain⟨o,e⟩:=U;exact lt e
  have un:∀c∈[z,i],upd H s.heap.objs.size (.tup [.int (k:Nat),x]) c=Y:=λc j=>by rw[am (fr c j)];exact(hf c j).1
  have kk:∀c o,c∉[z,i]->(s.heap.push {cls:=.type "tuple",data:=.seq #[.int k s.toks,ux]}).get? c=Z o->h2.get? c=Z o:=λc o j e=>by
   simp only[Jp,K8,or_false,not_or]at j
   rcases QM e with⟨rfl,rfl⟩|e
   ·exact up _ _ nz p1
   ·exact up _ _ j.1 (O c o j.1 j.2 e)
  have I2:Inv X pins σ (upd H s.heap.objs.size (.tup [.int (k:Nat),x])) {s with heap:=h2,toks:=s.toks+1}:=Inv.turnedL (s:={s with heap:=s.heap.push {cls:=.type "tuple",data:=.seq #[.int k s.toks,ux]},toks:=s.toks+1}) (h':=h2) (t':=s.toks+1) (fp:=[z,i]) IL (λc j=>⟨un c j,(hf c j).2⟩) kk
  refine⟨.ref s.heap.objs.size,_,I2,rfl,⟨_,x,I.hok.fresh (J6 _),rfl,rfl,λxs' q1=>?_⟩,⟨⟨ux,by simpa using z2⟩,i1.up λo e=>up _ o B.symm e⟩,un⟩
  rw[I.sqv_inj q1 qx];exact ex
 done:=by
  intro X G hw J j k pins s σ H E I hf st hg;subst G hw J;obtain⟨⟨old,q⟩,hi⟩:=st;obtain⟨xs,qx,F2⟩:=hg;obtain⟨is,rx,px⟩:=I.sqv qx;have lx:=rx.length;refine En.nxt_end (I.ok.hd j) q hi px (by simp;lia) λh1 O=>⟨rfl,I.turnedL (t':=s.toks) hf λc o j e=>?_⟩
  simp only[Jp,K8,or_false,not_or]at j;exact O c o j.2 e
 self:=λA k s Q E F h=>(by obtain⟨⟨old,q⟩,_⟩:=F;exact RY q h)
section
variable{X:Cx}
noncomputable def Df(K:Frag)(ta:TA):TI:=λσ H R=>ta σ H λvs H1=>∃a t xs,vs=[.ref a]/\SqV K t H1 a xs/\R (Ite K t a) H1
theorem zr{cx}{p:Pos}{a:Expr}{ta:TA}(F:Gl X "enumerate")(hm:X.mg "enumerate"=Y)(G:PA X [a] ta)(hs:JJ [a] X.env=[(Ua,eval a X.env)]):
 PI X (.Tuple elts cx pos) (.Call (.Name "enumerate" p) [a] [] pos') (Df X.K ta):=by
 intro pins s σ H R I h;refine Call_ (eQ I F hm (u:=.type "enumerate") boot_enumerate (Li (thn (G pos' pins s σ H _ I h) λus s1 g9=>?_) hs rfl));obtain⟨vs,H1,j,J,L⟩:=g9;obtain⟨a',t,xs,rfl,qx,q⟩:=L
 cases J with
 |cons r rr=>
  cases rr
  cases r
  obtain⟨is,rx,px⟩:=j.sqv qx;refine En.call_enum px λh1 z O U=>?_;refine RY z ?_;refine⟨_,_,_,_,H1,rfl,j.kept (t':=s1.toks) U,tT (t:=t) (a:=a') (by simp),⟨⟨_,z⟩,O⟩,λc B=>?_,q⟩
  have hle:s1.heap.objs.size<=c:=by
   simp only[Jp,K8,or_false]at B
   rcases B with rfl|rfl<;>lia
  exact j.fpOk hle (j.hok.fresh hle)
end
namespace Rv
end Rv
section
noncomputable abbrev NK:=List (Int ⊕ List Int)
noncomputable def Dg(ks:List Int):Int:=reduceHash (Pj (ks.map hashInt))
noncomputable def Dh:Int ⊕ List Int->Int
 |.inl i=>hashInt i
 |.inr ks=>Dg ks
noncomputable def Di(ks:NK):Int:=reduceHash (Pj (ks.map Dh))
noncomputable def yu(a:Ub)(xs:List (NK×Ub×hH)):Heap->Prop:=λh=>xs.length<=J9/\(a==Ks)=Ua /\
 ∃o es ep,h.get? a=Z o/\o.ExactDict/\o.data=.dict es ep/\es.toList=xs.map (λx=>(⟨Di x.1,.ref x.2.1,x.2.2⟩:LQ))/\(xs.map (·.1)).Nodup
noncomputable def Kt1(H:Hp):Int ⊕ List Int->V->Prop
 |.inl i,v=>v=.int i
 |.inr ks,v=>∃b,v=.ref b/\H b=Z (.tup (ks.map V.int))
def Kt(H:Hp)(k:NK)(b:Ub):Prop:=∃vs,H b=Z (.tup vs)/\JX (Kt1 H) k vs
theorem Kt.keeps{k:NK}(x:Kt H k b)(j:∀b ys,H b=Z (.tup ys)->H' b=Z (.tup ys)):Kt H' k b:=by
 obtain⟨vs,e,p⟩:=x;refine⟨vs,j _ _ e,TN p λq v z=>?_⟩
 cases q with
 |inl i=>exact z
 |inr ks=>obtain⟨c,e,q⟩:=z;exact⟨c,e,j _ _ q⟩
end
namespace Mi
variable{a:Ub}{K:Frag}{H H':Hp}{xs vs:List V}{i:Nat}{v:V}{x:Str}{σ:St}{ho:HO}{X:Cx}{e:Expr}
section
inductive D where
 |non|bl (b:Bool)|int (i:Int)|str (x:Str)|tup (ds:List D)|con (ds:List D)|ref (a:Ub)|fn (x:Str)
inductive O where
 |lst (ds:List D)
 |dct (t:Bool) (kvs:List (D×D))
 |fdc (kvs:List (D×D))
 |dcn (kvs:List (NK×D))
 |fdn (kvs:List (NK×D))
noncomputable abbrev Mem:=Ub->Option O
noncomputable def fz:Option O->Bool
 |some (.lst _)=>Ua
 |some (.dct _ _)=>Ua
 |some (.dcn _)=>Ua
 |_=>N2
noncomputable abbrev ar:=List (Option D)
noncomputable def ah(M:Mem)(a:Ub)(o:O):Mem:=λb=>if b=a then Z o else M b
theorem aa{M:Mem}{o:O}:ah M a o a=Z o:=by unfold ah;rw[if_pos rfl]
theorem au{M:Mem}{b:Ub}{o:O}(h:b≠a):ah M a o b=M b:=by unfold ah;rw[if_neg h]
def SqF(K:Frag)(H:Hp)(a:Ub)(xs:List V):Prop:=
 (∃o,H a=Z (.frz o (.lst xs))) ∨
  ∃(o:Obj) (its:Array hH) (n:Nat),K.lookup a=Z o/\o.cls=.type "list"/\o.dict=Y/\o.data=.seq its n/\its.size<=J9/\Vals xs its.toList
theorem SqF.sq(h:SqF K H a xs):SqL K H a xs:=by
 rcases h with⟨o,h⟩|h
 ·exact .inl (.inr ⟨o,h⟩)
 ·exact .inr h
noncomputable def fk2:Bool:=N2
noncomputable def fk3:Bool:=N2
noncomputable def fk:List D->Bool
 |[.int _,.int _,.int _]=>N2
 |[.tup _,_]=>N2
 |[.int _,_]=>fk2
 |[]=>Ua
 |_=>fk3
def TupR(K:Frag)(H:Hp)(ds:List D)(a:Ub)(vs:List V):Prop:=H a=Z (.tup vs)∨(fk ds=Ua/\SqT K H a vs)
theorem TupR.sq{ds:List D}(h:TupR K H ds a vs):SqT K H a vs:=h.elim SqT.of (·.2)
mutual
noncomputable def RD(K:Frag)(H:Hp):D->V->Prop
 |.non,v=>v=.non
 |.bl b,v=>v=.bl b
 |.int i,v=>v=.int i
 |.str x,v=>v=.str x
 |.tup ds,v=>∃a vs,v=.ref a/\TupR K H ds a vs/\RDs K H ds vs
 |.con ds,v=>∃a vs,v=.ref a/\SqF K H a vs/\RDs K H ds vs
 |.ref a,v=>v=.ref a
 |.fn x,v=>∃f,v=.ref f/\NX K KQ x=Z (Z (.ref f))
noncomputable def RDs(K:Frag)(H:Hp):List D->List V->Prop
 |[],vs=>vs=[]
 |d::ds,vs=>∃v r,vs=v::r/\RD K H d v/\RDs K H ds r
end
structure Stab(H H':Hp):Prop where
 tup:∀a xs,H a=Z (.tup xs)->H' a=Z (.tup xs)
 frz:∀a o u,H a=Z (.frz o u)->H' a=Z (.frz o u)
theorem Stab.sqT(st:Stab H H')(h:SqT K H a xs):SqT K H' a xs:=by
 rcases h with(h|⟨o,h⟩)|h
 ·exact .inl (.inl (st.tup _ _ h))
 ·exact .inl (.inr ⟨o,st.frz _ _ _ h⟩)
 ·exact .inr h
theorem Stab.sqF(st:Stab H H')(h:SqF K H a xs):SqF K H' a xs:=by
 rcases h with⟨o,h⟩|h
 ·exact .inl ⟨o,st.frz _ _ _ h⟩
 ·exact .inr h
mutual
theorem RD.mono{K:Frag}{H H':Hp}(st:Stab H H'):∀{d:D} {v:V},RD K H d v->RD K H' d v
 |.non,_,h=>h
 |.bl _,_,h=>h
 |.int _,_,h=>h
 |.str _,_,h=>h
 |.tup ds,v,h=>by unfold RD at h⊢;obtain⟨a,vs,e,q,r⟩:=h;exact⟨a,vs,e,q.imp (st.tup _ _) (λz=>⟨z.1,st.sqT z.2⟩),RDs.mono st r⟩
 |.con ds,v,h=>by unfold RD at h⊢;obtain⟨a,vs,e,q,r⟩:=h;exact⟨a,vs,e,st.sqF q,RDs.mono st r⟩
 |.ref _,_,h=>h
 |.fn _,_,h=>by unfold RD at h⊢;exact h
theorem RDs.mono{K:Frag}{H H':Hp}(st:Stab H H'):∀{ds:List D} {vs:List V},RDs K H ds vs->RDs K H' ds vs
 |[],_,h=>h
 |d::ds,vs,h=>by unfold RDs at h⊢;obtain⟨v,r,e,h1,h2⟩:=h;exact⟨v,r,e,RD.mono st h1,RDs.mono st h2⟩
end
section
variable{K:Frag}{H H':Hp}
theorem TJ{i:Int}:RD K H (.int i) v↔v=.int i:=by unfold RD;exact R5
theorem TM{b:Bool}:RD K H (.bl b) v↔v=.bl b:=by unfold RD;exact R5
theorem TV:RD K H .non v↔v=.non:=by unfold RD;exact R5
theorem TU:RD K H (.str x) v↔v=.str x:=by unfold RD;exact R5
theorem TK:RD K H (.ref a) v↔v=.ref a:=by unfold RD;exact R5
theorem TX{ds:List D}:RD K H (.tup ds) v↔∃a vs,v=.ref a/\TupR K H ds a vs/\RDs K H ds vs:=by rw[RD]
theorem U0{ds:List D}(h:∃a vs,v=.ref a/\H a=Z (.tup vs)/\RDs K H ds vs):RD K H (.tup ds) v:=TX.mpr (let⟨a,vs,e,h,r⟩:=h; ⟨a,vs,e,.inl h,r⟩)
theorem TR{ds:List D}(h:RD K H (.tup ds) v):∃a vs,v=.ref a/\SqT K H a vs/\RDs K H ds vs:=let⟨a,vs,e,h,r⟩:=TX.mp h; ⟨a,vs,e,h.sq,r⟩
theorem U2{ds:List D}(f:fk ds=N2)(h:RD K H (.tup ds) v):∃a vs,v=.ref a/\H a=Z (.tup vs)/\RDs K H ds vs:=let⟨a,vs,e,h,r⟩:=TX.mp h; ⟨a,vs,e,h.elim id λz=>(by rw[f]at z;cases z.1),r⟩
theorem TQ{ds:List D}:RD K H (.con ds) v↔∃a vs,v=.ref a/\SqF K H a vs/\RDs K H ds vs:=by rw[RD]
theorem RDs.nil_iff:RDs K H [] vs↔vs=[]:=by rw[RDs]
theorem TL{d:D}{ds:List D}:RDs K H (d::ds) vs↔∃v r,vs=v::r/\RD K H d v/\RDs K H ds r:=by rw[RDs]
theorem RDs.nil:RDs K H [] []:=RDs.nil_iff.mpr rfl
theorem RDs.cons{d:D}{ds:List D}{v:V}{vs:List V}(h:RD K H d v)(r:RDs K H ds vs):RDs K H (d::ds) (v::vs):=TL.mpr ⟨v,vs,rfl,h,r⟩
theorem RDs.length:∀{ds:List D} {vs:List V},RDs K H ds vs->vs.length=ds.length
 |[],_,h=>by rw[RDs.nil_iff.mp h];rfl
 |d::ds,_,h=>by obtain⟨v,r,rfl,_,h2⟩:=TL.mp h;simp[RDs.length h2]
theorem RDs.get:∀{ds:List D} {vs:List V} {i:Nat} {d:D},RDs K H ds vs->ds[i]?=Z d->∃v,vs[i]?=Z v/\RD K H d v
 |[],_,_,_,_,e=>by simp at e
 |d::ds,_,0,d',h,e=>by obtain⟨v,r,rfl,h1,h2⟩:=TL.mp h;simp at e;subst e;exact⟨v,rfl,h1⟩
 |d::ds,_,i+1,d',h,e=>by
  obtain⟨v,r,rfl,h1,h2⟩:=TL.mp h;obtain⟨u,j,q⟩:=RDs.get (i:=i) (d:=d') h2 (by simpa using e)
  exact⟨u,by simpa using j,q⟩
theorem RDs.getV{ds:List D}(h:RDs K H ds vs)(e:vs[i]?=Z v):∃d,ds[i]?=Z d/\RD K H d v:=by
 have z:=h.length;have hi:i<vs.length:=(J0.mp e).1;obtain⟨d,hd⟩:∃d,ds[i]?=Z d:=⟨ds[i]'∅,z4 ∅⟩
 obtain⟨u,j,q⟩:=h.get hd;rw[e]at j;cases j;exact⟨d,hd,q⟩
theorem RDs.append:∀{ds es:List D} {vs us:List V},RDs K H ds vs->RDs K H es us->RDs K H (ds++es) (vs++us)
 |[],_,_,_,h,q=>by rw[RDs.nil_iff.mp h];exact q
 |d::ds,_,_,_,h,q=>by obtain⟨v,r,rfl,h1,h2⟩:=TL.mp h;exact RDs.cons h1 (RDs.append h2 q)
theorem RDs.take:∀{ds:List D} {vs:List V} (n:Nat),RDs K H ds vs->RDs K H (ds.take n) (vs.take n)
 |[],_,n,h=>by rw[RDs.nil_iff.mp h];simp;exact RDs.nil
 |_::_,_,0,h=>by simp;exact RDs.nil
 |d::ds,_,n+1,h=>by obtain⟨v,r,rfl,h1,h2⟩:=TL.mp h;exact RDs.cons h1 (RDs.take n h2)
theorem RDs.drop:∀{ds:List D} {vs:List V} (n:Nat),RDs K H ds vs->RDs K H (ds.drop n) (vs.drop n)
 |[],_,n,h=>by rw[RDs.nil_iff.mp h];simp;exact RDs.nil
 |d::ds,_,0,h=>h
 |d::ds,_,n+1,h=>by obtain⟨v,r,rfl,h1,h2⟩:=TL.mp h;exact RDs.drop n h2
theorem RDs.set:∀{ds:List D} {vs:List V} (n:Nat) {d:D} {v:V},RD K H d v->RDs K H ds vs->RDs K H (ds.set n d) (vs.set n v)
 |[],_,n,_,_,_,h=>by rw[RDs.nil_iff.mp h];exact RDs.nil
 |d::ds,_,0,_,_,q,h=>by obtain⟨v,r,rfl,h1,h2⟩:=TL.mp h;exact RDs.cons q h2
 |d::ds,_,n+1,_,_,q,h=>by obtain⟨v,r,rfl,h1,h2⟩:=TL.mp h;exact RDs.cons h1 (RDs.set n q h2)
theorem RDs.rep{ds:List D}(h:RDs K H ds vs):∀k:Nat,RDs K H (IY k ds).flatten (IY k vs).flatten
 |0=>RDs.nil
 |k+1=>by rw[KR,KR,Ko,Ko];exact h.append (h.rep k)
theorem RDs.ints:∀(ns:List Int),RDs K H (ns.map D.int) (ns.map V.int)
 |[]=>RDs.nil
 |n::ns=>RDs.cons (TJ.mpr rfl) (RDs.ints ns)
end
mutual
noncomputable def D.eqb:D->D->Bool
 |.non,.non=>N2
 |.bl a,.bl b=>a==b
 |.int a,.int b=>decide (a=b)
 |.str a,.str b=>decide (a=b)
 |.tup a,.tup b=>D.eqbs a b
 |.con a,.con b=>D.eqbs a b
 |.ref a,.ref b=>decide (a=b)
 |.fn a,.fn b=>decide (a=b)
 |_,_=>Ua
noncomputable def D.eqbs:List D->List D->Bool
 |[],[]=>N2
 |a::r,b::s=>D.eqb a b&&D.eqbs r s
 |_,_=>Ua
end
mutual
theorem U7:∀(a b:D),D.eqb a b=N2->a=b
 |.non,b,h=>by cases b<;>first|rfl|cases h
 |.bl a,b,h=>by cases b<;>first|exact congrArg D.bl (Mo h)|cases h
 |.int a,b,h=>by cases b<;>first|exact congrArg D.int (of_decide_eq_true h)|cases h
 |.str a,b,h=>by cases b<;>first|exact congrArg D.str (of_decide_eq_true h)|cases h
 |.tup a,b,h=>by cases b<;>first|exact congrArg D.tup (U3 a _ h)|cases h
 |.con a,b,h=>by cases b<;>first|exact congrArg D.con (U3 a _ h)|cases h
 |.ref a,b,h=>by cases b<;>first|exact congrArg D.ref (of_decide_eq_true h)|cases h
 |.fn a,b,h=>by cases b<;>first|exact congrArg D.fn (of_decide_eq_true h)|cases h
theorem U3:∀(a b:List D),D.eqbs a b=N2->a=b
 |[],b,h=>by cases b<;>first|rfl|cases h
 |a::r,b,h=>by
  cases b with
  |nil=>cases h
  |cons b s=>have h:=(D1 _ _).mp h;rw[U7 a b h.1,U3 r s h.2]
end
mutual
theorem U5:∀(a:D),D.eqb a a=N2
 |.non=>rfl
 |.bl a=>beq_self_eq_true a
 |.int _=>decide_eq_true rfl
 |.str _=>decide_eq_true rfl
 |.tup a=>U1 a
 |.con a=>U1 a
 |.ref _=>decide_eq_true rfl
 |.fn _=>decide_eq_true rfl
theorem U1:∀(a:List D),D.eqbs a a=N2
 |[]=>rfl
 |a::r=>(D1 _ _).mpr ⟨U5 a,U1 r⟩
end
noncomputable instance:DecidableEq D:=λa b=>if h:D.eqb a b=N2 then isTrue (U7 a b h)else isFalse λe=>h (by rw[e];exact U5 b)
noncomputable def RKey:D->Key->Prop
 |.int i,k=>k=.inl i
 |.str x,k=>k=.inr x
 |_,_=>False
noncomputable def RKeys:D->List Key->Prop
 |.tup ds,ks=>JX RKey ds ks
 |_,_=>False
noncomputable def dget(kvs:List (D×D))(k:D):Option D:=(kvs.find? λp=>decide (p.1=k)).map (·.2)
noncomputable def bX(kvs:List (D×D))(k v:D):List (D×D):=if(kvs.any λp=>decide (p.1=k))=N2 then kvs.map (λp=>if p.1=k then(p.1,v)else p)else kvs++[(k,v)]
noncomputable def dq:D->Bool
 |.int _=>N2
 |.str _=>N2
 |_=>Ua
noncomputable def bK:D->Bool
 |.tup ds=>ds.all dq&&fk ds
 |_=>Ua
noncomputable def fC(t:Bool)(k:D):Bool:=if t then bK k else dq k
theorem ng{k:D}(h:dq k=N2):∃q,RKey k q:=by cases k<;>first|(simp[dq]at h;done)|exact⟨_,rfl⟩
theorem qh:∀{ds:List D},ds.all dq=N2->∃ks,JX RKey ds ks
 |[],_=>⟨[],.nil⟩
 |d::ds,h=>by simp only[MK,D1]at h;obtain⟨k,j⟩:=ng h.1;obtain⟨ks,hs⟩:=qh h.2;exact⟨k::ks,.cons j hs⟩
theorem gK{k:D}(h:bK k=N2):∃q,RKeys k q:=by cases k<;>first|(simp[bK]at h;done)|exact qh (QN.mp h).1
theorem gL{ds:List D}(h:bK (.tup ds)=N2):fk ds=N2:=(QN.mp h).2
noncomputable def RO(K:Frag)(H:Hp)(a:Ub):O->Prop
 |.lst ds=>∃vs,H a=Z (.lst vs)/\RDs K H ds vs
 |.dct Ua kvs=>∃ps,H a=Z (.dK ps)/\JX (λ(p:D×D) (q:Key×V)=>RKey p.1 q.1/\RD K H p.2 q.2) kvs ps
 |.dct N2 kvs=>∃ps,H a=Z (.dT ps)/\JX (λ(p:D×D) (q:List Key×V)=>RKeys p.1 q.1/\RD K H p.2 q.2) kvs ps
 |.fdc kvs=>∃o ps,H a=Z (.frz o (.dT ps))/\JX (λ(p:D×D) (q:List Key×V)=>RKeys p.1 q.1/\RD K H p.2 q.2) kvs ps
 |.dcn kvs=>∃xs,H a=Z (.ext (yu a xs))/\JX (λ(p:NK×D) (q:NK×Ub×hH)=>p.1=q.1/\Kt H q.1 q.2.1/\∃v,RelV v q.2.2/\RD K H p.2 v) kvs xs
 |.fdn kvs=>∃o xs,H a=Z (.frz o (.ext (yu a xs)))/\JX (λ(p:NK×D) (q:NK×Ub×hH)=>p.1=q.1/\Kt H q.1 q.2.1/\∃v,RelV v q.2.2/\RD K H p.2 v) kvs xs
def RM(K:Frag)(M:Mem)(H:Hp):Prop:=∀a o,M a=Z o->RO K H a o
def RS(K:Frag)(H:Hp)(σ:St)(ρ:ar):Prop:=σ.length=ρ.length/\∀(i:Nat) (d:D),ρ[i]?=Z (Z d)->∃v,σ[i]?=Z (Z v)/\RD K H d v
structure Ext(M:Mem)(H:Hp)(M':Mem)(H':Hp):Prop where
 kp:∀a o,fz (M a)=N2->H a=Z o->H' a=Z o
 nw:∀a o,fz (M a)=N2->H a=Z o->M' a=M a
section
variable{K:Frag}{M M' M'':Mem}{H H' H'':Hp}
theorem Ext.keep(x:Ext M H M' H')(a:Ub)(o:HO)(n:M a=Y)(e:H a=Z o):H' a=Z o:=x.kp a o (by rw[n];rfl) e
theorem Ext.new(x:Ext M H M' H')(a:Ub)(o:HO)(n:M a=Y)(e:H a=Z o):M' a=Y:=(x.nw a o (by rw[n];rfl) e).trans n
theorem Ext.refl:Ext M H M H:=⟨λ_ _ _ h=>h,λ_ _ _ _=>rfl⟩
theorem Ext.trans(a:Ext M H M' H')(b:Ext M' H' M'' H''):Ext M H M'' H'':=⟨λc o n h=>b.kp c o (by rw[a.nw c o n h];exact n) (a.kp c o n h),λc o n h=>(b.nw c o (by rw[a.nw c o n h];exact n) (a.kp c o n h)).trans (a.nw c o n h)⟩
theorem RM.mut(r:RM K M H){o:O}(h:M a=Z o):∃ho,H a=Z ho/\(∀xs,ho≠.tup xs)/\(fz (Z o)=Ua->Mut (Z ho)/\∀ob u,ho≠.frz ob u):=by
 have q:=r a o h
 cases o with
 |lst ds=>obtain⟨vs,e,_⟩:=q;exact⟨_,e,λ_ z=>(by cases z),λ_=>⟨trivial,λ_ _ z=>(by cases z)⟩⟩
 |dct t kvs=>
  cases t with
  |false=>obtain⟨ps,e,_⟩:=q;exact⟨_,e,λ_ z=>(by cases z),λ_=>⟨trivial,λ_ _ z=>(by cases z)⟩⟩
  |true=>obtain⟨ps,e,_⟩:=q;exact⟨_,e,λ_ z=>(by cases z),λ_=>⟨trivial,λ_ _ z=>(by cases z)⟩⟩
 |fdc kvs=>obtain⟨ob,ps,e,_⟩:=q;exact⟨_,e,λ_ z=>(by cases z),λz=>(by cases z)⟩
 |fdn kvs=>obtain⟨ob,ps,e,_⟩:=q;exact⟨_,e,λ_ z=>(by cases z),λz=>(by cases z)⟩
 |dcn kvs=>obtain⟨xs,e,_⟩:=q;exact⟨_,e,λ_ z=>(by cases z),λ_=>⟨trivial,λ_ _ z=>(by cases z)⟩⟩
theorem RM.fzT(r:RM K M H)(e:H a=Z (.tup xs)):M a=Y:=by
 cases q:M a with
 |none=>rfl
 |some o=>obtain⟨ho,j,z,_⟩:=r.mut q;rw[e]at j;cases j;exact absurd rfl (z xs)
theorem RM.fzF(r:RM K M H){ob:Obj}{u:HO}(e:H a=Z (.frz ob u)):fz (M a)=N2:=by
 cases q:M a with
 |none=>rfl
 |some o=>
  obtain⟨ho,j,_,B⟩:=r.mut q;rw[e]at j;cases j
  cases z:fz (Z o)with
  |true=>rfl
  |false=>exact absurd rfl ((B z).2 ob u)
theorem RM.out(r:RM K M H)(h:H a=Y):M a=Y:=by
 cases e:M a with
 |none=>rfl
 |some o=>obtain⟨ho,q,_⟩:=r.mut e;rw[h]at q;cases q
theorem Ext.stab(r:RM K M H)(x:Ext M H M' H'):Stab H H' where
 tup:=λa xs e=>x.keep a _ (r.fzT e) e
 frz:=λa o u e=>x.kp a _ (r.fzF e) e
theorem RS.mono(st:Stab H H'){ρ:ar}(h:RS K H σ ρ):RS K H' σ ρ:=⟨h.1,λi d e=>let⟨v,q,r⟩:=h.2 i d e; ⟨v,q,r.mono st⟩⟩
theorem RS.set{ρ:ar}(h:RS K H σ ρ)(i:Nat){d:D}(r:RD K H d v):RS K H (σ.set i (Z v)) (ρ.set i (Z d)):=by
 refine⟨by simp[h.1],λj e q=>?_⟩
 by_cases hij:i=j
 ·subst hij;have hi:i<ρ.length:=by
   have:=(J0.mp q).1;simpa using this
  rw[L6 hi]at q
  cases q
  exact⟨v,by rw[L6 (by rw[h.1];exact hi)],r⟩
 ·rw[LI hij]at q⊢;exact h.2 j e q
noncomputable def rE(fr:List (Option Nat))(ρ:ar):ar:=fr.map λo=>o.bind λj=>(ρ[j]?).join
theorem RS.inh{ρ:ar}(h:RS K H σ ρ)(fr:List (Option Nat)):RS K H (inh fr σ) (rE fr ρ):=by
 refine⟨by simp[L2.inh,rE],λi d e=>?_⟩
 unfold rE at e;unfold L2.inh;rw[Jj]at e⊢
 cases q:fr[i]? with
 |none=>rw[q]at e;cases e
 |some o=>
  rw[q]at e
  cases o with
  |none=>cases e
  |some j=>
   have e':Z ((ρ[j]?).join)=Z (Z d):=e
   cases q':ρ[j]? with
   |none=>rw[q']at e';cases e'
   |some w=>
    rw[q']at e'
    cases e'
    obtain⟨v,v1,v2⟩:=h.2 j d q';exact⟨v,by simp[v1],v2⟩
theorem RO.mono(st:Stab H H'){o:O}(h:RO K H a o)(e:∀ho,H a=Z ho->H' a=Z ho):RO K H' a o:=by
 cases o with
 |lst ds=>obtain⟨vs,q,r⟩:=h;exact⟨vs,e _ q,r.mono st⟩
 |dct t kvs=>
  cases t with
  |false=>obtain⟨ps,q,r⟩:=h;exact⟨ps,e _ q,TN r λ_ _ z=>⟨z.1,z.2.mono st⟩⟩
  |true=>obtain⟨ps,q,r⟩:=h;exact⟨ps,e _ q,TN r λ_ _ z=>⟨z.1,z.2.mono st⟩⟩
 |fdc kvs=>obtain⟨ob,ps,q,r⟩:=h;exact⟨ob,ps,e _ q,TN r λ_ _ z=>⟨z.1,z.2.mono st⟩⟩
 |fdn kvs=>obtain⟨ob,xs,q,r⟩:=h;exact⟨ob,xs,e _ q,TN r λ_ _ j=>(by obtain⟨B,F,v,G,J⟩:=j;exact⟨B,F.keeps st.tup,v,G,J.mono st⟩)⟩
 |dcn kvs=>obtain⟨xs,q,r⟩:=h;exact⟨xs,e _ q,TN r λ_ _ j=>(by obtain⟨B,F,v,G,J⟩:=j;exact⟨B,F.keeps st.tup,v,G,J.mono st⟩)⟩
theorem RM.new{p:Ub}(r:RM K M H)(n:H p=Y):RM K M (upd H p ho):=λa o e=>by
 have ne:a≠p:=λz=>by subst z;obtain⟨_,q,_⟩:=r.mut e;rw[n]at q;cases q
 refine(r a o e).mono ⟨λb xs q=>?_,λb o u q=>?_⟩ λj q=>by rw[am ne];exact q
 ·rw[am (bb q n)];exact q
 ·rw[am (bb q n)];exact q
theorem TZ{p:Ub}(n:H p=Y):Ext M H M (upd H p ho):=⟨λa o _ e=>by rw[am (bb e n)];exact e,λ_ _ _ _=>rfl⟩
theorem RM.lay{p:Ub}{o:O}(r:RM K M H)(n:H p=Y)(h:RO K (upd H p ho) p o):RM K (ah M p o) (upd H p ho):=λa o' e=>by
 by_cases z:a=p
 ·subst z;rw[aa]at e;cases e;exact h
 ·rw[au z]at e;exact r.new n a o' e
theorem Ext.lay{p:Ub}{o:O}(n:H p=Y):Ext M H (ah M p o) (upd H p ho):=⟨λa u _ e=>by rw[am (bb e n)];exact e,λa u m e=>by rw[au (bb e n)]⟩
theorem RM.put{p:Ub}{o o0:O}(r:RM K M H)(m:M p=Z o0)(h:RO K (upd H p ho) p o)(w:fz (Z o0)=Ua:=by rfl):RM K (ah M p o) (upd H p ho):=λa o' e=>by
 by_cases z:a=p
 ·subst z;rw[aa]at e;cases e;exact h
 ·rw[au z]at e;obtain⟨J,j,B,F⟩:=r.mut m;refine(r a o' e).mono ⟨λb xs q=>?_,λb o u q=>?_⟩ λG q=>by rw[am z];exact q
  ·rw[am (λz=>by subst z;rw[j]at q;cases q;exact B xs rfl)];exact q
  ·rw[am (λz=>by subst z;rw[j]at q;cases q;exact(F w).2 o u rfl)];exact q
theorem Ext.put{p:Ub}{o o0:O}(m:M p=Z o0)(w:fz (Z o0)=Ua:=by rfl):Ext M H (ah M p o) (upd H p ho):=⟨λa u n e=>by rw[am (λz=>by subst z;rw[m,w]at n;cases n)];exact e,λa u n e=>au (λz=>by subst z;rw[m,w]at n;cases n)⟩
theorem RM.stabPut{p:Ub}{o0:O}(r:RM K M H)(m:M p=Z o0)(w:fz (Z o0)=Ua:=by rfl):Stab H (upd H p ho):=(Ext.put (o:=o0) (ho:=ho) m w).stab r
end
noncomputable abbrev QD:=D->Mem->Prop
noncomputable abbrev TEd:=ar->Mem->QD->Prop
noncomputable abbrev TTd:=ar->Mem->(Bool->Mem->Prop)->Prop
noncomputable abbrev TAd:=ar->Mem->(List D->Mem->Prop)->Prop
structure bv where
 nx:ar->Mem->Prop
 rt:QD
 bk:ar->Mem->Prop:=λ_ _=>False
 ct:ar->Mem->Prop:=λ_ _=>False
noncomputable abbrev TSd:=bv->ar->Mem->Prop
def af(T:TEd):Prop:=∀ρ M Q Q',(∀d M',Q d M'->Q' d M')->T ρ M Q->T ρ M Q'
def aH(T:TTd):Prop:=∀ρ M Q Q',(∀d M',Q d M'->Q' d M')->T ρ M Q->T ρ M Q'
def bj(T:TAd):Prop:=∀ρ M Q Q',(∀d M',Q d M'->Q' d M')->T ρ M Q->T ρ M Q'
structure LeD(a b:bv):Prop where
 nx:∀ρ M,a.nx ρ M->b.nx ρ M
 rt:∀d M,a.rt d M->b.rt d M
 bk:∀ρ M,a.bk ρ M->b.bk ρ M
 ct:∀ρ M,a.ct ρ M->b.ct ρ M
def aI(T:TSd):Prop:=∀a b ρ M,LeD a b->T a ρ M->T b ρ M
noncomputable def KE'(K:Frag)(M:Mem)(H:Hp)(Q:VK):QD:=λd M'=>∀v H',Ext M H M' H'->RM K M' H'->RD K H' d v->Q v H'
noncomputable def KT'(K:Frag)(M:Mem)(H:Hp)(Q:Bool->Hp->Prop):Bool->Mem->Prop:=λb M'=>∀H',Ext M H M' H'->RM K M' H'->Q b H'
noncomputable def KA'(K:Frag)(M:Mem)(H:Hp)(Q:List V->Hp->Prop):List D->Mem->Prop:=λds M'=>∀vs H',Ext M H M' H'->RM K M' H'->RDs K H' ds vs->Q vs H'
noncomputable def lE(K:Frag)(T:TEd):TE:=λσ H Q=>∃ρ M,RS K H σ ρ/\RM K M H/\T ρ M (KE' K M H Q)
noncomputable def lT(K:Frag)(T:TTd):TT:=λσ H Q=>∃ρ M,RS K H σ ρ/\RM K M H/\T ρ M (KT' K M H Q)
noncomputable def lA(K:Frag)(T:TAd):TA:=λσ H Q=>∃ρ M,RS K H σ ρ/\RM K M H/\T ρ M (KA' K M H Q)
structure Link(K:Frag)(M:Mem)(H:Hp)(a:bv)(b:bN):Prop where
 nx:∀ρ M' σ H',Ext M H M' H'->RS K H' σ ρ->RM K M' H'->a.nx ρ M'->b.nx σ H'
 rt:∀d M' v H',Ext M H M' H'->RM K M' H'->RD K H' d v->a.rt d M'->b.rt v H'
 bk:∀ρ M' σ H',Ext M H M' H'->RS K H' σ ρ->RM K M' H'->a.bk ρ M'->b.bk σ H'
 ct:∀ρ M' σ H',Ext M H M' H'->RS K H' σ ρ->RM K M' H'->a.ct ρ M'->b.ct σ H'
noncomputable def lS(K:Frag)(T:TSd):TS:=λD σ H=>∃ρ M A,RS K H σ ρ/\RM K M H/\Link K M H A D/\T A ρ M
theorem Link.ext{M M':Mem}{a:bv}{b:bN}(l:Link K M H a b)(x:Ext M H M' H'):Link K M' H' a b:=⟨λρ M2 σ H2 y=>l.nx ρ M2 σ H2 (x.trans y),λd M2 v H2 y=>l.rt d M2 v H2 (x.trans y),λρ M2 σ H2 y=>l.bk ρ M2 σ H2 (x.trans y),λρ M2 σ H2 y=>l.ct ρ M2 σ H2 (x.trans y)⟩
theorem PE.imp{t t':TE}(h:PE X e t)(i:∀σ H Q,t' σ H Q->t σ H Q):PE X e t':=λpins s σ H Q I q=>h pins s σ H Q I (i _ _ _ q)
theorem PT.imp{t t':TT}(h:PT X e t)(i:∀σ H Q,t' σ H Q->t σ H Q):PT X e t':=λpins s σ H Q I q=>h pins s σ H Q I (i _ _ _ q)
theorem PW.imp{t t':TT}(h:PW X e t)(i:∀σ H Q,t' σ H Q->t σ H Q):PW X e t':=λwh pins s σ H Q I q=>h wh pins s σ H Q I (i _ _ _ q)
theorem PA.imp{e:List Expr}{t t':TA}(h:PA X e t)(i:∀σ H Q,t' σ H Q->t σ H Q):PA X e t':=λp pins s σ H Q I q=>h p pins s σ H Q I (i _ _ _ q)
theorem PS.imp{e:Stmt}{t t':TS}(h:PS X e t)(i:∀D σ H,t' D σ H->t D σ H):PS X e t':=λpins s σ H D I q=>h pins s σ H D I (i _ _ _ q)
theorem PSs.imp{e:List Stmt}{t t':TS}(h:PSs X e t)(i:∀D σ H,t' D σ H->t D σ H):PSs X e t':=λpins s σ H D I q=>h pins s σ H D I (i _ _ _ q)
end
variable{M M':Mem}{ds:List D}{d:D}{Q:VK}{ta:TEd}{tr:TAd}{j:Nat}{es:List Expr}
section
theorem KE'.ext{M2:Mem}{H2:Hp}(x:Ext M H M2 H2)(h:KE' K M H Q d M'):KE' K M2 H2 Q d M':=λv H' y=>h v H' (x.trans y)
theorem KT'.ext{M2:Mem}{H2:Hp}{Q:Bool->Hp->Prop}{d:Bool}(x:Ext M H M2 H2)(h:KT' K M H Q d M'):KT' K M2 H2 Q d M':=λH' y=>h H' (x.trans y)
noncomputable abbrev R2d:=D->D->Mem->QD->Prop
noncomputable abbrev R1d:=D->Mem->QD->Prop
noncomputable abbrev RAd:=List D->Mem->QD->Prop
def aJ(r:R2d):Prop:=∀x y M Q Q',(∀d M',Q d M'->Q' d M')->r x y M Q->r x y M Q'
def rF(r:R1d):Prop:=∀x M Q Q',(∀d M',Q d M'->Q' d M')->r x M Q->r x M Q'
def aV(r:RAd):Prop:=∀x M Q Q',(∀d M',Q d M'->Q' d M')->r x M Q->r x M Q'
noncomputable def l2(K:Frag)(rd:R2d):R2:=λv u H Q=>∃x y M,RM K M H/\RD K H x v/\RD K H y u/\rd x y M (KE' K M H Q)
noncomputable def l1(K:Frag)(rd:R1d):V->Hp->VK->Prop:=λv H Q=>∃x M,RM K M H/\RD K H x v/\rd x M (KE' K M H Q)
noncomputable def lR(K:Frag)(rd:RAd):List V->Hp->VK->Prop:=λvs H Q=>∃ds M,RM K M H/\RDs K H ds vs/\rd ds M (KE' K M H Q)
noncomputable def lMt(K:Frag)(rd:D->List D->Mem->QD->Prop):V->List V->Hp->VK->Prop:=λv vs H Q=>∃x ds M,RM K M H/\RD K H x v/\RDs K H ds vs/\rd x ds M (KE' K M H Q)
noncomputable def aY(i:Nat):TEd:=λρ M Q=>∃d,ρ[i]?=Z (Z d)/\Q d M
noncomputable def wC(d:D):TEd:=λ_ M Q=>Q d M
noncomputable def wOp(rd:R2d)(ta tb:TEd):TEd:=λρ M Q=>ta ρ M λx M1=>tb ρ M1 λy M2=>rd x y M2 Q
noncomputable def wUn(rd:R1d)(ta:TEd):TEd:=λρ M Q=>ta ρ M λx M1=>rd x M1 Q
noncomputable def bF:TAd:=λ_ M Q=>Q [] M
noncomputable def aN(ta:TEd)(tr:TAd):TAd:=λρ M Q=>ta ρ M λx M1=>tr ρ M1 λxs M2=>Q (x::xs) M2
noncomputable def wAr(rd:RAd)(t:TAd):TEd:=λρ M Q=>t ρ M λds M1=>rd ds M1 Q
theorem wt:af (aY i):=λ_ _ _ _ h j=>(by obtain⟨d,e,q⟩:=j;exact⟨d,e,h _ _ q⟩)
theorem ga:af (wC d):=λ_ _ _ _ h q=>h _ _ q
theorem eS{rd:R2d}{tb:TEd}(j:aJ rd)(z:af ta)(B:af tb):af (wOp rd ta tb):=λρ M Q Q' h q=>z _ _ _ _ (λx J F=>B _ _ _ _ (λy M2 G=>j _ _ _ _ _ h G) F) q
theorem zt{rd:R1d}(j:rF rd)(z:af ta):af (wUn rd ta):=λρ M Q Q' h q=>z _ _ _ _ (λx F B=>j _ _ _ _ h B) q
theorem az:bj bF:=λ_ _ _ _ h q=>h _ _ q
theorem ax(j:af ta)(z:bj tr):bj (aN ta tr):=λρ M Q Q' h q=>j _ _ _ _ (λx G B=>z _ _ _ _ (λxs M2 F=>h _ _ F) B) q
theorem gM{rd:RAd}{t:TAd}(j:aV rd)(z:bj t):af (wAr rd t):=λρ M Q Q' h q=>z _ _ _ _ (λds F B=>j _ _ _ _ h B) q
section
variable{X:Cx}{a b:Expr}{ta tb:TEd}{pos:Pos}
theorem Bu(B:X.N[i]?=Z x)(j:Vis X.env.scope x)(hd:(x==("__debug__":Str))=Ua)(z:(x==("__classdict__":Str))=Ua):PE X (.Name x pos) (lE X.K (aY i)):=by refine PE.imp (AN B j hd z) λσ H Q h=>?_;obtain⟨ρ,M,rs,rm,d,e,q⟩:=h;obtain⟨v,j,rd⟩:=rs.2 i d e;exact⟨v,j,q v H Ext.refl rm rd⟩
theorem le_int{i:Int}:PE X (.Constant (.int i) j pos) (lE X.K (wC (.int i))):=PE.imp AO λσ H Q g9=>(by obtain⟨ρ,M,rs,rm,q⟩:=g9;exact q _ H Ext.refl rm (TJ.mpr rfl))
theorem Dj{i:Bool}:PE X (.Constant (.bool i) j pos) (lE X.K (wC (.bl i))):=PE.imp CQ λσ H Q g9=>(by obtain⟨ρ,M,rs,rm,q⟩:=g9;exact q _ H Ext.refl rm (TM.mpr rfl))
theorem Bv:PE X (.Constant .none j pos) (lE X.K (wC .non)):=PE.imp AQ λσ H Q g9=>(by obtain⟨ρ,M,rs,rm,q⟩:=g9;exact q _ H Ext.refl rm (TV.mpr rfl))
theorem Bw:PE X (.Constant (.str x) j pos) (lE X.K (wC (.str x))):=PE.imp AR λσ H Q g9=>(by obtain⟨ρ,M,rs,rm,q⟩:=g9;exact q _ H Ext.refl rm (TU.mpr rfl))
theorem gN{rd:R2d}(L:aJ rd)(ma:af ta)(mb:af tb)(σ:St)(H:Hp)(Q:VK)(h:lE K (wOp rd ta tb) σ H Q):tOp (l2 K rd) (lE K ta) (lE K tb) σ H Q:=by obtain⟨ρ,M,rs,rm,q⟩:=h;refine⟨ρ,M,rs,rm,ma _ _ _ _ (λx O U v H1 G j z=>?_) q⟩;refine⟨ρ,O,rs.mono (G.stab rm),j,mb _ _ _ _ (λy M2 F2 u H2 J B F=>?_) U⟩;exact⟨x,y,M2,B,z.mono (J.stab j),F,L _ _ _ _ _ (λd M' k=>k.ext (G.trans J)) F2⟩
theorem Dl{op:NQ}{rd:R2d}(ho:OpR X (Lb op) (l2 X.K rd))(j:aJ rd)(ma:af ta)(mb:af tb)(q:PE X a (lE X.K ta))(z:PE X b (lE X.K tb)):PE X (.BinOp a op b pos) (lE X.K (wOp rd ta tb)):=PE.imp (D4 ho q z) (gN j ma mb)
theorem By{op:CmpOp}{rd:R2d}(ho:OpR X (KN op) (l2 X.K rd))(j:aJ rd)(ma:af ta)(mb:af tb)(q:PE X a (lE X.K ta))(z:PE X b (lE X.K tb))(hm:Nz op b=Ua):PE X (.Compare a [op] [b] pos) (lE X.K (wOp rd ta tb)):=PE.imp (zf ho q z hm) (gN j ma mb)
noncomputable def iF(t:TEd):TTd:=λρ M Q=>t ρ M λx M1=>∃k,x=.bl k/\Q k M1
theorem wu{t:TEd}(h:af t):aH (iF t):=λρ M Q Q' i q=>h _ _ _ _ (λx B j=>(by obtain⟨k,e,z⟩:=j;exact⟨k,e,i _ _ z⟩)) q
theorem wv{t:TEd}(m:af t)(σ:St)(H:Hp)(Q:Bool->Hp->Prop)(h:lT K (iF t) σ H Q):yi (lE K t) σ H Q:=by obtain⟨ρ,M,rs,rm,q⟩:=h;refine⟨ρ,M,rs,rm,m _ _ _ _ (λx G g9 v H1 F j z=>?_) q⟩;obtain⟨k,e,B⟩:=g9;subst e;exact⟨k,TM.mp z,B H1 F j⟩
theorem Bz{op:CmpOp}{rd:R2d}(ho:OpR X (KN op) (l2 X.K rd))(j:aJ rd)(ma:af ta)(mb:af tb)(q:PE X a (lE X.K ta))(z:PE X b (lE X.K tb))(hm:Nz op b=Ua):
 PT X (.Compare a [op] [b] pos) (lT X.K (iF (wOp rd ta tb))):=
 PT.imp (zg ho q z hm) λσ H Q h=>by have h1:=wv (eS j ma mb) σ H Q h;exact gN j ma mb σ H _ h1
theorem Dm{op:UnaryOp}{rd:R1d}(ho:UnR X (unaryOp op) (l1 X.K rd))(B:rF rd)(ma:af ta)(F:PE X a (lE X.K ta)):PE X (.UnaryOp op a pos) (lE X.K (wUn rd ta)):=PE.imp (D5 ho F) λσ H Q g9=>(by obtain⟨ρ,M,rs,rm,q⟩:=g9;exact⟨ρ,M,rs,rm,ma _ _ _ _ (λx G J v H1 L j z=>⟨x,G,j,z,B _ _ _ _ (λd M' k=>k.ext L) J⟩) q⟩)
theorem Dn{rd:R2d}(ho:IxR X (l2 X.K rd))(j:aJ rd)(ma:af ta)(mb:af tb)(q:PE X a (lE X.K ta))(z:PE X b (lE X.K tb))(hs:jR b):PE X (.Subscript a b pos) (lE X.K (wOp rd ta tb)):=PE.imp (Dc ho q z hs) (gN j ma mb)
theorem dR:PA X [] (lA X.K bF):=PA.imp Bg λσ H Q g9=>(by obtain⟨ρ,M,rs,rm,q⟩:=g9;exact q _ H Ext.refl rm RDs.nil)
theorem tU(ma:af ta)(mr:bj tr)(σ:St)(H:Hp)(Q:List V->Hp->Prop)(h:lA K (aN ta tr) σ H Q):yk (lE K ta) (lA K tr) σ H Q:=by obtain⟨ρ,M,rs,rm,q⟩:=h;refine⟨ρ,M,rs,rm,ma _ _ _ _ (λx L O v H1 G j z=>?_) q⟩;refine⟨ρ,L,rs.mono (G.stab rm),j,mr _ _ _ _ (λxs M2 U vs H2 J B F=>?_) O⟩;exact U (v::vs) H2 (G.trans J) B (RDs.cons (z.mono (J.stab j)) F)
theorem bT(ma:af ta)(mr:bj tr)(j:PE X e (lE X.K ta))(q:PA X es (lA X.K tr))(hs:JJ (e::es) X.env=(Ua,eval e X.env)::JJ es X.env):PA X (e::es) (lA X.K (aN ta tr)):=PA.imp (zh j q hs) (tU ma mr)
theorem bD{rd:RAd}{t:TAd}(B:aV rd)(mt:bj t)(σ:St)(H:Hp)(Q:VK)(h:lE K (wAr rd t) σ H Q):tCB (lR K rd) (lA K t) σ H Q:=by obtain⟨ρ,M,rs,rm,q⟩:=h;exact⟨ρ,M,rs,rm,mt _ _ _ _ (λds F G vs H1 J j z=>⟨ds,F,j,z,B _ _ _ _ (λd M' k=>k.ext J) G⟩) q⟩
noncomputable def nh:RAd:=λds M Q=>ds.length<=J9/\Q (.tup ds) M
noncomputable def rG:RAd:=λds M Q=>ds.length<=J9/\∀p,M p=Y->Q (.ref p) (ah M p (.lst ds))
theorem tV:aV nh:=λ_ _ _ _ h j=>(by obtain⟨z,q⟩:=j;exact⟨z,h _ _ q⟩)
theorem tW:aV rG:=λ_ _ _ _ h j=>(by obtain⟨z,q⟩:=j;exact⟨z,λp n=>h _ _ (q p n)⟩)
theorem dD{p:Ub}(rm:RM K M H)(rd:RDs K H ds vs)(q:KE' K M H Q (.tup ds) M)(n:H p=Y):Q (.ref p) (upd H p (.tup vs)):=by have x:Ext M H M (upd H p (.tup vs)):=TZ n;exact q (.ref p) _ x (rm.new n) (U0 ⟨p,vs,rfl,ay,rd.mono (x.stab rm)⟩)
theorem cH{p:Ub}(rm:RM K M H)(rd:RDs K H ds vs)(q:∀p,M p=Y->KE' K M H Q (.ref p) (ah M p (.lst ds)))(n:H p=Y):Q (.ref p) (upd H p (.lst vs)):=by have x:Ext M H (ah M p (.lst ds)) (upd H p (.lst vs)):=Ext.lay n;have x0:Ext M H M (upd H p (.lst vs)):=TZ n;exact q p (rm.out n) (.ref p) _ x (rm.lay n ⟨vs,ay,rd.mono (x0.stab rm)⟩) (TK.mpr rfl)
theorem BA{t:TAd}{k:Nat}(mt:bj t)(h:PA X es (lA X.K t)):PE X (.Tuple es k pos) (lE X.K (wAr nh t)):=PE.imp (Bh h) λσ H Q B=>(by obtain⟨ρ,M,rs,rm,q⟩:=B;exact⟨ρ,M,rs,rm,mt _ _ _ _ (λds L B vs H1 G F j=>(by obtain⟨z,J⟩:=B;exact⟨by rw[j.length];exact z,λp n=>dD F j (J.ext G) n⟩)) q⟩)
theorem BB{t:TAd}(mt:bj t)(h:PA X es (lA X.K t)):PE X (.List es pos) (lE X.K (wAr rG t)):=PE.imp (Bi h) λσ H Q B=>(by obtain⟨ρ,M,rs,rm,q⟩:=B;exact⟨ρ,M,rs,rm,mt _ _ _ _ (λds L B vs H1 G F j=>(by obtain⟨z,J⟩:=B;exact⟨by rw[j.length];exact z,λp n=>cH F j (λp' n'=>(J p' n').ext G) n⟩)) q⟩)
end
end
end Mi
namespace Mi
end Mi
section
theorem iG:fillsNumberSlot (.type "tuple") "mul"=pure Ua:=PyProof.Rows.fillsNumberSlot_seq (id:="tuple.__mul__") (r:=Z (.builtin "tuple.__rmul__")) F.slot_tuple_mul.lookup (by decide +kernel) F.slot_tuple_rmul.lookup (by decide +kernel)
theorem ni:seqRepeat? (.type "tuple")=pure (Z (.builtin "tuple.__mul__")):=by
 unfold seqRepeat?;rw[PY (T:="tuple") (name:="__mul__") (id:="tuple.__mul__") F.slot_tuple_mul.lookup (by decide +kernel),PY (T:="tuple") (name:="__rmul__") (id:="tuple.__rmul__") F.slot_tuple_rmul.lookup (by decide +kernel)]
 rfl
theorem jT(a:Int)(t:Tok)(l:Ub)(items:Array hH)(n:Nat)(d:Option Ub)(sl:Array (Option hH)):
 Meets (LR.«int.__rmul__» ⟨[.int a t,.ref l],[]⟩) (λ_ R s=>s.heap.get? l=Z {cls:=.type "tuple",dict:=d,data:=.seq items n,slots:=sl}/\R (.ok (.ret Value.notImplemented)) s):=
 .of_wp λprog w A R s h=>by obtain⟨j,g,d,tk,os⟩:=s;obtain⟨q,h⟩:=h;wp_walk;exact⟨_,rfl,h⟩
open AutoSeq1 (wpAny_loadPart') in
theorem tX(l:Ub)(items:Array hH)(n:Nat)(dd:Option Ub)(sl:Array (Option hH))(x:Int)(u:Tok)(h1:-(2^63)<=x)(h2:x<2^63)(B:items.size*x.toNat<=J9):
 Meets (LR.«tuple.__mul__» ⟨[.ref l,.int x u],[]⟩) (λ_ R s=>s.heap.get? l=Z {cls:=.type "tuple",dict:=dd,data:=.seq items n,slots:=sl} /\
  (if items.isEmpty || x==1 then R (.ok (.ret (.ref l))) s else R (.ok (.ret (.ref s.heap.objs.size))) {s with heap:=s.heap.push {cls:=.type "tuple",data:=.seq ((IY x.toNat items).foldl (· ++ ·) #[])}})):=
 .of_wp λprog w A R s h=>by
  obtain⟨U,g,d,tk,os⟩:=s;obtain⟨q,h⟩:=h;have f1:=AutoSeq1.idx_int;have F:(decide (x < -(2^63)) || decide (x≥2^63))=Ua:=by rw[decide_eq_false ∅,decide_eq_false ∅];rfl
  wp_walk using N8 q
  refine Qr (decide_eq_false (by rw[F];decide)) ?_
  dsimp only
  by_cases j:(items.isEmpty || x==1)=N2
  ·rw[if_pos j]at h
   wp_walk using N8 q
   exact⟨_,rfl,h⟩
  ·rw[if_neg j]at h
   wp_walk using N8 q
   simp only[Qs,not_or]at j
   by_cases e2:x<=0
   ·have z:(decide (x<=0) || items.isEmpty)=N2:=by rw[decide_eq_true e2];rfl
    rw[if_pos z];have G:x.toNat=0:=∅
    rw[G]at h
    wp_walk
    exact⟨_,rfl,h⟩
   ·have z:¬(decide (x<=0) || items.isEmpty)=N2:=by simp;exact⟨∅,by simpa using j.1⟩
    rw[if_neg z];have hx:((items.size:Nat):Int)*x=((items.size*x.toNat:Nat):Int):=by rw[Mr,Nw ∅]
    have hs:J9=16777216:=r4;have J:¬((items.size:Nat):Int)*x > (2^63-1) / 8:=by rw[hx];lia
    rw[if_neg J];have L:¬Pc (((items.size:Nat):Int)*x)=N2:=by rw[hx];unfold Pc;intro O;have F2:=of_decide_eq_true O;lia
    rw[if_neg L]
    wp_walk
    have hsz:((IY x.toNat items).foldl (· ++ ·) #[]).size<=J9:=by
     have:∀(k:Nat) (a:Array hH),((IY k items).foldl (· ++ ·) a).size=a.size+items.size*k:=by
      intro k;induction k with
      |zero=>intro a;simp
      |succ k ih=>intro a;rw[KR,L5,ih,Ni,Nat.mul_succ];lia
     rw[this];simpa using B
    refine Qr (decide_eq_false (Th.mpr hsz)) ?_
    wp_walk
    exact⟨_,rfl,h⟩
end
section
section
variable{X:Cx}
noncomputable def yv(K:Frag):R2:=λx y H Q=>∃l k xs,x=.ref l/\y=.int k/\SqT K H l xs /\ -(2^63)<=k/\k<2^63/\xs.length*k.toNat<=J9 /\
 ((xs=[]∨k=1)->Q (.ref l) H)/\(¬(xs=[]∨k=1)->∀p,H p=Y->Q (.ref p) (upd H p (.tup (IY k.toNat xs).flatten)))
theorem zu:OpR X (Lb .Mult) (yv X.K):=by
 intro pins s σ H x y v u Q I rx ry h;obtain⟨l,k,xs,rfl,rfl,G,h1,h2,j,J,L⟩:=h
 cases rx
 obtain⟨t,rfl⟩:=ry;obtain⟨its,r,O,_⟩:=I.tuple G;have F2:=r.length;obtain⟨⟨cls,dd,dat,sl⟩,e,B,n,hd⟩:=O;dsimp only at B hd;subst B hd;have hlen:its.toArray.size*k.toNat<=J9:=by rw[Ji,<-F2];exact j
 have f0:∀m:Nat,Og (λfv x2=>fv++x2) #[] (IY m its.toArray)=(IY m its).flatten.toArray:=λm=>by have:=fY its m [];rw[OH]at this;exact this
 refine Ph (T:="tuple") (U:="int") (by decide) ⟨_,e,rfl⟩ (λs'=>Qe s' k t) iG SV OI ni F.slot_int_index.lookup
  (P9 OI (Qe s k t) Se (RU _ _) (jT k t l its.toArray n dd sl)
    ⟨e,rfl,⟨_,e,rfl⟩,P9 F.slot_tuple_mul ⟨_,e,rfl⟩ F.entry_tuple_mul (F.args_tuple_mul_2 _ _) (tX l its.toArray n dd sl k t h1 h2 hlen) ⟨e,?_⟩⟩)
 have hi:(its.toArray.isEmpty || k==1)=N2↔(xs=[]∨k=1):=by rw[<-r.nil_iff];simp
 split
 ·next c=>exact⟨.ref l,H,I,rfl,J (hi.mp c)⟩
 ·next c=>rw[f0];refine⟨.ref s.heap.objs.size,_,I.laid (t':=s.toks) (o:=.tup (IY k.toNat xs).flatten) (λb ob q=>D0 _ q) (J6 _) ?_,rfl,L (λz=>c (hi.mpr z)) _ (I.hok.fresh (J6 _))⟩;exact⟨by rw[qg,NV];exact j,_,r.rep k.toNat,OZ _ _⟩
end
end
section
section
variable{X:Cx}
theorem zw:OpR X (Lb .Add) (λx y H Q=>∃a b ys,x=.ref a/\y=.ref b/\SqT X.K H a []/\SqT X.K H b ys/\Q (.ref b) H):=by
 intro pins s σ H x y v u Q I rx ry h;obtain⟨a,b,ys,rfl,rfl,U,F2,q⟩:=h
 cases rx
 cases ry
 obtain⟨its,fv,p1,_⟩:=I.tuple U;obtain⟨j,r2,p2,_⟩:=I.tuple F2;have e0:its=[]:=fv.nil_iff.mpr rfl;obtain⟨⟨cls,dd,data,sl⟩,ho,L,n,hd⟩:=id p1;obtain⟨⟨O,G,data2,J⟩,z,B,n2,hd2⟩:=id p2;simp only at L hd B hd2;subst L hd B hd2;exact RN ⟨_,ho,rfl⟩ ⟨_,z,rfl⟩ PR Rf NU NN (NB _ _)
  (tuple_addW0 a b its.toArray j.toArray n n2 dd G sl J (by simp[e0])) ⟨ho,z,⟨.ref b,H,I,rfl,q⟩⟩
end
end
namespace Mi
variable{K:Frag}{M:Mem}{H:Hp}{Q:VK}{v:V}
section
def MulOk(i j:Int):Prop:=(-(2^64)<i/\i<2^64)∨(-(2^64)<j/\j<2^64)∨(R9 i<=2^20/\R9 j<=2^20)
theorem MulOk.ok{i j:Int}(h:MulOk i j):IntMulOk i j:=by
 rcases h with h|h|h
 ·exact IntMulOk.of_left (intBits_le_64 h.1 h.2)
 ·exact IntMulOk.of_right (intBits_le_64 h.1 h.2)
 ·exact IntMulOk.of_bits h.1 h.2
noncomputable def dS:R2d
 |.int i,.int j,M,Q=>Q (.int (i+j)) M
 |.tup a,.tup b,M,Q=>(a≠[]∨True)/\a.length+b.length<=J9/\Q (.tup (a++b)) M
 |.ref a,.ref b,M,Q=>∃xs ys,M a=Z (.lst xs)/\M b=Z (.lst ys)/\xs.length+ys.length<=J9/\∀p,M p=Y->Q (.ref p) (ah M p (.lst (xs++ys)))
 |.str x,.str y,M,Q=>x.length+y.length<=J9/\Q (.str (x++y)) M
 |_,_,_,_=>False
noncomputable def jU:R2d
 |.int i,.int j,M,Q=>Q (.int (i-j)) M
 |_,_,_,_=>False
noncomputable def eN:R2d
 |.int i,.int j,M,Q=>MulOk i j/\Q (.int (i*j)) M
 |.ref a,.int k,M,Q=>∃xs,M a=Z (.lst xs) /\ -(2^63)<=k/\k<2^63/\xs.length*k.toNat<=J9/\∀p,M p=Y->Q (.ref p) (ah M p (.lst (IY k.toNat xs).flatten))
 |.tup ds,.int k,M,Q=>-(2^63)<=k/\k<2^63/\ds.length*k.toNat<=J9/\Q (.tup (IY k.toNat ds).flatten) M
 |_,_,_,_=>False
noncomputable def jh:R2d
 |.int i,.int j,M,Q=>0<j/\j<2^256/\Q (.int (i / j)) M
 |_,_,_,_=>False
noncomputable def gb:R2d
 |.int i,.int j,M,Q=>0<j/\Q (.int (i%j)) M
 |_,_,_,_=>False
noncomputable def nj:R2d
 |.int i,.int j,M,Q=>0<=j/\j<=1000000/\i.natAbs<2^64/\Q (.int (i^j.toNat)) M
 |_,_,_,_=>False
theorem ww:aJ dS:=by
 intro x y M Q Q' h q
 cases x<;>cases y<;>first
  |exact q.elim
  |exact h _ _ q
  |exact⟨q.1,h _ _ q.2⟩
  |exact⟨q.1,q.2.1,h _ _ q.2.2⟩
  |(obtain⟨xs,ys,j,B,z,q⟩:=q;exact⟨xs,ys,j,B,z,λp n=>h _ _ (q p n)⟩)
theorem wx:aJ jU:=by
 intro x y M Q Q' h q
 cases x<;>cases y<;>first|exact q.elim|exact h _ _ q
theorem wy:aJ eN:=by
 intro x y M Q Q' h q
 cases x<;>cases y<;>first
  |exact q.elim
  |exact⟨q.1,h _ _ q.2⟩
  |exact⟨q.1,q.2.1,q.2.2.1,h _ _ q.2.2.2⟩
  |(obtain⟨xs,j,z,B,F,q⟩:=q;exact⟨xs,j,z,B,F,λp n=>h _ _ (q p n)⟩)
theorem tY:aJ jh:=by
 intro x y M Q Q' h q
 cases x<;>cases y<;>first|exact q.elim|exact⟨q.1,q.2.1,h _ _ q.2.2⟩
theorem wz:aJ gb:=by
 intro x y M Q Q' h q
 cases x<;>cases y<;>first|exact q.elim|exact⟨q.1,h _ _ q.2⟩
theorem wB:aJ nj:=by
 intro x y M Q Q' h q
 cases x<;>cases y<;>first|exact q.elim|exact⟨q.1,q.2.1,q.2.2.1,h _ _ q.2.2.2⟩
section
variable{X:Cx}
theorem OpR.of{f:hH->hH->Sem hH}{r r':R2}(h:OpR X f r)(i:∀v u H Q,r' v u H Q->r v u H Q):OpR X f r':=λpins s σ H x y v u Q I rx ry q=>h pins s σ H x y v u Q I rx ry (i _ _ _ _ q)
theorem IxR.of{r r':R2}(h:IxR X r)(i:∀v u H Q,r' v u H Q->r v u H Q):IxR X r':=λa b pins s σ H x y v u Q I rx ry q=>h a b pins s σ H x y v u Q I rx ry (i _ _ _ _ q)
theorem CallR.of{f:hH}{r r':List V->Hp->VK->Prop}(h:CallR X f r)(i:∀vs H Q,r' vs H Q->r vs H Q):CallR X f r':=λpins s σ H xs us Q I rx q=>h pins s σ H xs us Q I rx (i _ _ _ q)
theorem Do{a b:List D}{u:V}(rm:RM K M H)(rx:RD K H (.tup a) v)(ry:RD K H (.tup b) u)(q:dS (.tup a) (.tup b) M (KE' K M H Q)):yn K v u H Q∨∃a b ys,v=.ref a/\u=.ref b/\SqT K H a []/\SqT K H b ys/\Q (.ref b) H:=by
 obtain⟨a',vs,rfl,z,j⟩:=TR rx;obtain⟨b',us,rfl,B,F⟩:=TR ry;obtain⟨_,J,q⟩:=q;have l1:=j.length;have l2:=F.length
 by_cases G:a=[]
 ·subst G;have:vs=[]:=RDs.nil_iff.mp j;subst this;exact .inr ⟨a',b',us,rfl,rfl,z,B,q _ H Ext.refl rm ry⟩
 refine .inl ⟨a',b',vs,us,rfl,rfl,z,B,λe=>G (JL.mp (by rw[<-l1,e];rfl)),∅,λe=>?_,λ_ p n=>dD rm (j.append F) q n⟩
 have eb:b=[]:=JL.mp (by rw[<-l2,e];rfl)
 subst eb;rw[K9]at q;exact q _ H Ext.refl rm rx
theorem wD:OpR X (Lb .Add) (l2 X.K dS):=by
 refine OpR.of (op_add.or ((op_catT.or zw).or (op_cat.or rj))) λv u H Q h=>?_;obtain⟨x,y,M,rm,rx,ry,q⟩:=h
 cases x<;>cases y<;>first
  |exact q.elim
  |(cases TJ.mp rx;cases TJ.mp ry;exact .inl ⟨_,_,rfl,rfl,q _ H Ext.refl rm (TJ.mpr rfl)⟩)
  |exact .inr (.inl (Do rm rx ry q))
  | (cases TK.mp rx;cases TK.mp ry
     obtain⟨xs,ys,F,G,z,q⟩:=q;obtain⟨vs,h1,j⟩:=rm _ _ F;obtain⟨us,h2,B⟩:=rm _ _ G;have l1:=j.length;have l2:=B.length;refine .inr (.inr (.inl ⟨_,_,vs,us,rfl,rfl,h1,h2,∅,λp n=>cH rm (j.append B) q n⟩)))
  |(cases TU.mp rx;cases TU.mp ry;exact .inr (.inr (.inr ⟨_,_,rfl,rfl,q.1,q.2 _ H Ext.refl rm (TU.mpr rfl)⟩)))
theorem wF:OpR X (Lb .Sub) (l2 X.K jU):=by
 refine OpR.of B9 λv u H Q h=>?_;obtain⟨x,y,M,rm,rx,ry,q⟩:=h
 cases x<;>cases y<;>first
  |exact q.elim
  |(cases TJ.mp rx;cases TJ.mp ry;exact⟨_,_,rfl,rfl,q _ H Ext.refl rm (TJ.mpr rfl)⟩)
theorem op_mul_i:OpR X (Lb .Mult) (rI MulOk λi j=>.int (i*j)):=opI λ_ _ _ _ _ _ _ z q=>mul_int q z.ok
theorem Dp{a:List D}{k:Int}{u:V}(rm:RM K M H)(rx:RD K H (.tup a) v)(ry:RD K H (.int k) u)(q:eN (.tup a) (.int k) M (KE' K M H Q)):yv K v u H Q:=by
 obtain⟨a',vs,rfl,z,j⟩:=TR rx
 cases TJ.mp ry
 obtain⟨B,F,G,q⟩:=q;have l1:=j.length;refine⟨a',k,vs,rfl,rfl,z,B,F,by rw[l1];exact G,λe=>?_,λ_ p n=>dD rm (j.rep _) q n⟩
 have ea:(IY k.toNat a).flatten=a:=by
  rcases e with e|e
  ·have:a=[]:=JL.mp (by rw[<-l1,e];rfl)
   subst this;simp
  ·subst e;simp
 rw[ea]at q;exact q _ H Ext.refl rm rx
theorem wG:OpR X (Lb .Mult) (l2 X.K eN):=by
 refine OpR.of (op_mul_i.or (op_rep.or zu)) λv u H Q h=>?_;obtain⟨x,y,M,rm,rx,ry,q⟩:=h
 cases x<;>cases y<;>first
  |exact q.elim
  |(cases TJ.mp rx;cases TJ.mp ry;exact .inl ⟨_,_,rfl,rfl,q.1,q.2 _ H Ext.refl rm (TJ.mpr rfl)⟩)
  | (cases TK.mp rx;cases TJ.mp ry
     obtain⟨xs,z,B,F,G,q⟩:=q;obtain⟨vs,h1,j⟩:=rm _ _ z;have l1:=j.length;exact .inr (.inl ⟨_,_,vs,rfl,rfl,h1,B,F,by rw[l1];exact G,λp n=>cH rm (j.rep _) q n⟩))
  |exact .inr (.inr (Dp rm rx ry q))
theorem wH:OpR X (Lb .FloorDiv) (rI (λ_ j=>0<j/\j<2^256) λi j=>.int (i / j)):=L2.opI λi j _ _ _ _ _ z q=>by
 have h1:(0:Int)<j:=z.1;have h2:j<2^256:=z.2;have B:j.natAbs.log2<256:=(Nat.log2_lt ∅).mpr ∅
 exact floordiv_int ∅ (by rw[Int.fdiv_eq_ediv_of_nonneg i ∅];exact q) (.inl (PyProof.noPylong_of_log2 ∅))
theorem tZ:OpR X (Lb .FloorDiv) (l2 X.K jh):=by
 refine OpR.of wH λv u H Q h=>?_;obtain⟨x,y,M,rm,rx,ry,q⟩:=h
 cases x<;>cases y<;>first
  |exact q.elim
  |(cases TJ.mp rx;cases TJ.mp ry;exact⟨_,_,rfl,rfl,⟨q.1,q.2.1⟩,q.2.2 _ H Ext.refl rm (TJ.mpr rfl)⟩)
theorem wJ:OpR X (Lb .Mod) (l2 X.K gb):=by
 refine OpR.of Ba λv u H Q h=>?_;obtain⟨x,y,M,rm,rx,ry,q⟩:=h
 cases x<;>cases y<;>first
  |exact q.elim
  |(cases TJ.mp rx;cases TJ.mp ry;exact⟨_,_,rfl,rfl,q.1,q.2 _ H Ext.refl rm (TJ.mpr rfl)⟩)
theorem wK:OpR X (Lb .Pow) (l2 X.K nj):=by
 refine OpR.of Bb λv u H Q h=>?_;obtain⟨x,y,M,rm,rx,ry,q⟩:=h
 cases x<;>cases y<;>first
  |exact q.elim
  |(cases TJ.mp rx;cases TJ.mp ry;exact⟨_,_,rfl,rfl,⟨q.1,q.2.1,q.2.2.1⟩,q.2.2.2 _ H Ext.refl rm (TJ.mpr rfl)⟩)
noncomputable def nk:R1d
 |.int i,M,Q=>Q (.int (-i)) M
 |_,_,_=>False
theorem nr:rF nk:=by
 intro x M Q Q' h q
 cases x<;>first|exact q.elim|exact h _ _ q
theorem UnR.of{f:hH->Sem hH}{r r':V->Hp->VK->Prop}(h:UnR X f r)(i:∀v H Q,r' v H Q->r v H Q):UnR X f r':=λpins s σ H x v Q I rx q=>h pins s σ H x v Q I rx (i _ _ _ q)
theorem wL:UnR X (unaryOp .USub) (l1 X.K nk):=by
 refine UnR.of Bc λv H Q h=>?_;obtain⟨x,M,rm,rx,q⟩:=h
 cases x<;>first
  |exact q.elim
  |(cases TJ.mp rx;exact⟨_,rfl,q _ H Ext.refl rm (TJ.mpr rfl)⟩)
noncomputable def aF{α β:Type}(f:α->Option β):List α->Option (List β)
 |[]=>Z []
 |x::xs=>(f x).bind λy=>(aF f xs).map (y :: ·)
noncomputable def rb:Nat->Mem->D->Option KH
 |_,_,.non=>Z .none
 |_,_,.bl b=>Z (.bool b)
 |_,_,.int i=>Z (.int i)
 |_,_,.str x=>if Ql x=N2 then Z (.str x)else Y
 |n+1,M,.tup ds=>(aF (rb n M) ds).map PyData.tuple
 |n+1,M,.con ds=>(aF (rb n M) ds).map SJ
 | n+1,M,.ref a=>match M a with
   |some (.lst ds)=>(aF (rb n M) ds).map SJ
   |_=>Y
 |0,_,.tup _=>Y
 |0,_,.con _=>Y
 |0,_,.ref _=>Y
 |_,_,.fn _=>Y
theorem dr{n:Nat}{M:Mem}(ih:∀d p,rb n M d=Z p->p.depth<=n/\p.canLay0=N2):∀{ds:List D} {ps:List KH},aF (rb n M) ds=Z ps->LW ps<=n/\KS ps=N2
 |[],ps,h=>by simp[aF]at h;subst h;exact⟨Ku _,rfl⟩
 |d::ds,ps,h=>by
  simp only[aF]at h
  cases e1:rb n M d with
  |none=>rw[e1]at h;cases h
  |some p=>
   rw[e1]at h
   cases e2:aF (rb n M) ds with
   |none=>simp[e2]at h
   |some qs=>
    simp[e2]at h;subst h;obtain⟨a1,a2⟩:=ih d p e1;obtain⟨b1,b2⟩:=dr ih e2;refine⟨?_,?_⟩
    ·show max p.depth (LW qs)<=n;lia
    ·show(p.canLay0&&KS qs)=N2;rw[a2,b2];rfl
theorem cv{M:Mem}:∀(n:Nat) (d:D) (p:KH),rb n M d=Z p->p.depth<=n/\p.canLay0=N2
 |n,.non,p,h=>by simp[rb]at h;subst h;exact⟨Ku _,rfl⟩
 |n,.bl b,p,h=>by simp[rb]at h;subst h;exact⟨Ku _,rfl⟩
 |n,.int b,p,h=>by simp[rb]at h;subst h;exact⟨Ku _,rfl⟩
 |n,.str x,p,h=>by simp[rb]at h;obtain⟨h1,h2⟩:=h;subst h2;exact⟨Ku _,h1⟩
 |0,.tup _,p,h=>by simp[rb]at h
 |0,.con _,p,h=>by simp[rb]at h
 |0,.ref _,p,h=>by simp[rb]at h
 |n,.fn _,p,h=>by simp[rb]at h
 |n+1,.tup ds,p,h=>by
  simp only[rb]at h
  cases e:aF (rb n M) ds with
  |none=>rw[e]at h;cases h
  |some ps=>rw[e]at h;cases h;obtain⟨a,b⟩:=dr (cv n) e;exact⟨PZ a,b⟩
 |n+1,.con ds,p,h=>by
  simp only[rb]at h
  cases e:aF (rb n M) ds with
  |none=>rw[e]at h;cases h
  |some ps=>rw[e]at h;cases h;obtain⟨a,b⟩:=dr (cv n) e;exact⟨PZ a,b⟩
 |n+1,.ref a,p,h=>by
  simp only[rb]at h
  cases e0:M a with
  |none=>rw[e0]at h;cases h
  |some o=>
   rw[e0]at h
   cases o with
   |dct _ _=>cases h
   |fdc _=>cases h
   |dcn _=>cases h
   |fdn _=>cases h
   |lst ds=>
    simp only at h
    cases e:aF (rb n M) ds with
    |none=>rw[e]at h;cases h
    |some ps=>rw[e]at h;cases h;obtain⟨a,b⟩:=dr (cv n) e;exact⟨PZ a,b⟩
theorem du{K:Frag}{H:Hp}{n:Nat}{M:Mem}{h:Heap}(ih:∀d p v u,rb n M d=Z p->RD K H d v->RelV v u->∃as,NY h u p as):
 ∀{ds:List D} {ps:List KH} {vs:List V} {us:List hH},aF (rb n M) ds=Z ps->RDs K H ds vs->Vals vs us->∃as,QO h us ps as
 |[],ps,vs,us,hm,r,rv=>by
  simp[aF]at hm;subst hm;rw[RDs.nil_iff.mp r]at rv
  cases rv
  exact⟨_,.nil⟩
 |d::ds,ps,vs,us,hm,r,rv=>by
  obtain⟨v,vr,rfl,j,q⟩:=TL.mp r
  cases rv with
  |cons z B=>
   simp only[aF]at hm
   cases e1:rb n M d with
   |none=>rw[e1]at hm;cases hm
   |some p=>
    rw[e1]at hm
    cases e2:aF (rb n M) ds with
    |none=>simp[e2]at hm
    |some qs=>simp[e2]at hm;subst hm;obtain⟨as,ra⟩:=ih d p v _ e1 j z;obtain⟨bs,rbs⟩:=du ih e2 q B;exact⟨_,.cons ra rbs⟩
theorem bY{pins:List (Ub×Obj)}{σ:St}{H:Hp}{s:I7}{M:Mem}(I:Inv X pins σ H s)(rm:RM X.K M H):∀(n:Nat) (d:D) (p:KH) (v:V) (u:hH),rb n M d=Z p->RD X.K H d v->RelV v u->∃as,NY s.heap u p as
 |n,.non,p,v,u,h,r,q=>by simp[rb]at h;subst h;cases TV.mp r;cases q;exact⟨_,.none⟩
 |n,.bl b,p,v,u,h,r,q=>by simp[rb]at h;subst h;cases TM.mp r;cases q;exact⟨_,.bool b⟩
 |n,.int b,p,v,u,h,r,q=>by simp[rb]at h;subst h;cases TJ.mp r;obtain⟨t,rfl⟩:=q;exact⟨_,.int b t⟩
 |n,.str x,p,v,u,h,r,q=>by simp[rb]at h;obtain⟨_,h2⟩:=h;subst h2;cases TU.mp r;obtain⟨t,rfl⟩:=q;exact⟨_,.str x t⟩
 |0,.tup _,p,_,_,h,_,_=>by simp[rb]at h
 |0,.con _,p,_,_,h,_,_=>by simp[rb]at h
 |0,.ref _,p,_,_,h,_,_=>by simp[rb]at h
 |n,.fn _,p,_,_,h,_,_=>by simp[rb]at h
 |n+1,.tup ds,p,v,u,h,r,q=>by
  simp only[rb]at h
  cases e:aF (rb n M) ds with
  |none=>rw[e]at h;cases h
  |some ps=>
   rw[e]at h;cases h;obtain⟨a,vs,rfl,j,rs⟩:=TR r
   cases q
   obtain⟨its,rv,⟨o,ho,z,k,hd⟩,_⟩:=I.tuple j;obtain⟨as,ra⟩:=du (bY I rm n) e rs rv;exact⟨_,.tuple ho z hd (by simpa using ra)⟩
 |n+1,.con ds,p,v,u,h,r,q=>by
  simp only[rb]at h
  cases e:aF (rb n M) ds with
  |none=>rw[e]at h;cases h
  |some ps=>
   rw[e]at h;cases h;obtain⟨a,vs,rfl,j,rs⟩:=TQ.mp r
   cases q
   obtain⟨its,rv,⟨o,k,ho,z,_,hd⟩,_⟩:=I.list j.sq;obtain⟨as,ra⟩:=du (bY I rm n) e rs rv;exact⟨_,.list ho z hd (by simpa using ra)⟩
 |n+1,.ref a,p,v,u,h,r,q=>by
  simp only[rb]at h
  cases e0:M a with
  |none=>rw[e0]at h;cases h
  |some o=>
   rw[e0]at h
   cases o with
   |dct _ _=>cases h
   |fdc _=>cases h
   |dcn _=>cases h
   |fdn _=>cases h
   |lst ds=>
    simp only at h
    cases e:aF (rb n M) ds with
    |none=>rw[e]at h;cases h
    |some ps=>
     rw[e]at h;cases h
     cases TK.mp r
     cases q
     obtain⟨vs,j,rs⟩:=rm _ _ e0;obtain⟨its,rv,⟨o,k,ho,z,_,hd⟩,_⟩:=I.list (SqL.of j);obtain⟨as,ra⟩:=du (bY I rm n) e rs rv;exact⟨_,.list ho z hd (by simpa using ra)⟩
noncomputable def wEq:R2d:=λx y M Q=>∃p q,rb 16 M x=Z p/\rb 16 M y=Z q/\Q (.bl (Km p q)) M
noncomputable def wNe:R2d:=λx y M Q=>∃p q,rb 16 M x=Z p/\rb 16 M y=Z q/\Q (.bl (!PyData.eqv p q)) M
theorem zx:aJ wEq:=λ_ _ _ _ _ h j=>(by obtain⟨p,q,a,b,c⟩:=j;exact⟨p,q,a,b,h _ _ c⟩)
theorem zy:aJ wNe:=λ_ _ _ _ _ h j=>(by obtain⟨p,q,a,b,c⟩:=j;exact⟨p,q,a,b,h _ _ c⟩)
theorem zz(F:X.A.units+16<LF):OpR X (KN .Eq) (l2 X.K wEq):=by intro pins s σ H x y v u Q I rx ry h;obtain⟨d,e,M,rm,rd,re,p,q,j,z,k⟩:=h;obtain⟨as,ra⟩:=bY I rm _ _ _ _ _ j rd rx;obtain⟨bs,rb'⟩:=bY I rm _ _ _ _ _ z re ry;obtain⟨G,p2⟩:=cv _ _ _ j;obtain⟨J,B⟩:=cv _ _ _ z;exact SeqAt.compareEq_reads ra rb' p2 B ∅ ⟨.bl _,H,I,rfl,k _ H Ext.refl rm (TM.mpr rfl)⟩
theorem zA(F:X.A.units+16<LF):OpR X (KN .NotEq) (l2 X.K wNe):=by intro pins s σ H x y v u Q I rx ry h;obtain⟨d,e,M,rm,rd,re,p,q,j,z,k⟩:=h;obtain⟨as,ra⟩:=bY I rm _ _ _ _ _ j rd rx;obtain⟨bs,rb'⟩:=bY I rm _ _ _ _ _ z re ry;obtain⟨G,p2⟩:=cv _ _ _ j;obtain⟨J,B⟩:=cv _ _ _ z;exact SeqAt.compareNe_reads ra rb' p2 B ∅ ⟨.bl _,H,I,rfl,k _ H Ext.refl rm (TM.mpr rfl)⟩
noncomputable def wLt:R2d
 |.int i,.int j,M,Q=>Q (.bl (decide (i<j))) M
 |_,_,_,_=>False
noncomputable def wLe:R2d
 |.int i,.int j,M,Q=>Q (.bl (decide (i<=j))) M
 |_,_,_,_=>False
noncomputable def wGt:R2d
 |.int i,.int j,M,Q=>Q (.bl (decide (j<i))) M
 |_,_,_,_=>False
noncomputable def wGe:R2d
 |.int i,.int j,M,Q=>Q (.bl (decide (j<=i))) M
 |_,_,_,_=>False
theorem zB:aJ wLt:=by
 intro x y M Q Q' h q
 cases x<;>cases y<;>first|exact q.elim|exact h _ _ q
theorem zC:aJ wLe:=by
 intro x y M Q Q' h q
 cases x<;>cases y<;>first|exact q.elim|exact h _ _ q
theorem zD:aJ wGt:=by
 intro x y M Q Q' h q
 cases x<;>cases y<;>first|exact q.elim|exact h _ _ q
theorem zE:aJ wGe:=by
 intro x y M Q Q' h q
 cases x<;>cases y<;>first|exact q.elim|exact h _ _ q
theorem zF:OpR X (KN .Lt) (l2 X.K wLt):=by
 refine OpR.of D6 λv u H Q h=>?_;obtain⟨x,y,M,rm,rx,ry,q⟩:=h
 cases x<;>cases y<;>first
  |exact q.elim
  |(cases TJ.mp rx;cases TJ.mp ry;exact⟨_,_,rfl,rfl,q _ H Ext.refl rm (TM.mpr rfl)⟩)
theorem zG:OpR X (KN .LtE) (l2 X.K wLe):=by
 refine OpR.of D7 λv u H Q h=>?_;obtain⟨x,y,M,rm,rx,ry,q⟩:=h
 cases x<;>cases y<;>first
  |exact q.elim
  |(cases TJ.mp rx;cases TJ.mp ry;exact⟨_,_,rfl,rfl,q _ H Ext.refl rm (TM.mpr rfl)⟩)
theorem zH:OpR X (KN .Gt) (l2 X.K wGt):=by
 refine OpR.of D8 λv u H Q h=>?_;obtain⟨x,y,M,rm,rx,ry,q⟩:=h
 cases x<;>cases y<;>first
  |exact q.elim
  |(cases TJ.mp rx;cases TJ.mp ry;exact⟨_,_,rfl,rfl,q _ H Ext.refl rm (TM.mpr rfl)⟩)
theorem zI:OpR X (KN .GtE) (l2 X.K wGe):=by
 refine OpR.of D9 λv u H Q h=>?_;obtain⟨x,y,M,rm,rx,ry,q⟩:=h
 cases x<;>cases y<;>first
  |exact q.elim
  |(cases TJ.mp rx;cases TJ.mp ry;exact⟨_,_,rfl,rfl,q _ H Ext.refl rm (TM.mpr rfl)⟩)
end
end
variable{a:Ub}{ds:List D}{vs:List V}{d x:D}{kvs:List (D×D)}
section
noncomputable def wIx:R2d:=λx y M Q=>match x with
 |.tup ds=>∃i d,y=.int i/\atI ds i=Z d/\Q d M
 |.con ds=>∃i d,y=.int i/\atI ds i=Z d/\Q d M
 |.ref a=>(∃ds i d,M a=Z (.lst ds)/\y=.int i/\atI ds i=Z d/\Q d M)∨(∃t kvs d,M a=Z (.dct t kvs)/\fC t y=N2/\dget kvs y=Z d/\Q d M)∨∃kvs d,M a=Z (.fdc kvs)/\bK y=N2/\dget kvs y=Z d/\Q d M
 |_=>False
theorem qi:aJ wIx:=by
 intro x y M Q Q' h q
 cases x with
 |tup ds=>obtain⟨i,d,e,j,q⟩:=q;exact⟨i,d,e,j,h _ _ q⟩
 |con ds=>obtain⟨i,d,e,j,q⟩:=q;exact⟨i,d,e,j,h _ _ q⟩
 |ref a=>
  rcases q with⟨ds,i,d,z,j,B,q⟩|⟨t,kvs,d,z,j,B,q⟩|⟨kvs,d,z,j,B,q⟩
  ·exact .inl ⟨ds,i,d,z,j,B,h _ _ q⟩
  ·exact .inr (.inl ⟨t,kvs,d,z,j,B,h _ _ q⟩)
  ·exact .inr (.inr ⟨kvs,d,z,j,B,h _ _ q⟩)
 |_=>exact q.elim
theorem nv{i:Int}(r:RDs K H ds vs)(e:atI ds i=Z d):∃v,atI vs i=Z v/\RD K H d v:=by
 unfold atI at e⊢;rw[r.length]
 cases q:ixN ds.length i with
 |none=>rw[q]at e;cases e
 |some j=>rw[q]at e;exact r.get e
theorem jV{k:D}{q:Key}(r:RKey k q)(h:RD K H k v):v=kV q:=by
 cases k<;>first
  |exact r.elim
  |(cases(show q=_ from r);first|exact TJ.mp h|exact TU.mp h)
theorem dU{K:Frag}{H:Hp}:∀{ds:List D} {ks:List Key} {vs:List V},JX RKey ds ks->RDs K H ds vs->vs=ks.map kV
 |_,_,vs,.nil,h=>by rw[RDs.nil_iff.mp h];rfl
 |_,_,vs,.cons r t,h=>by obtain⟨v,vr,rfl,h1,h2⟩:=TL.mp h;rw[jV r h1,dU t h2];rfl
theorem RKey.inj{e:D}{k:Key}(a:RKey d k)(b:RKey e k):d=e:=by
 cases d<;>first
  |exact a.elim
  |(cases e<;>first|exact b.elim|(cases(show k=_ from a);injection (show _=_ from b)with z;rw[z])|(cases(show k=_ from a);cases(show _=_ from b)))
theorem RKeysP.inj:∀{d e:List D} {k:List Key},JX RKey d k->JX RKey e k->d=e
 |_,_,_,.nil,.nil=>rfl
 |_,_,_,.cons r t,.cons r' t'=>by rw[r.inj r',RKeysP.inj t t']
theorem RKeys.inj{e:D}{k:List Key}(a:RKeys d k)(b:RKeys e k):d=e:=by
 cases d<;>first
  |exact a.elim
  |(cases e<;>first|exact b.elim|exact congrArg D.tup (RKeysP.inj a b))
theorem RKey.fun{k k':Key}(a:RKey d k)(b:RKey d k'):k=k':=by
 cases d<;>first
  |exact a.elim
  |(cases(show k=_ from a);cases(show k'=_ from b);rfl)
theorem RKeysP.fun:∀{d:List D} {k k':List Key},JX RKey d k->JX RKey d k'->k=k'
 |_,_,_,.nil,.nil=>rfl
 |_,_,_,.cons r t,.cons r' t'=>by rw[r.fun r',RKeysP.fun t t']
theorem RKeys.fun{k k':List Key}(a:RKeys d k)(b:RKeys d k'):k=k':=by
 cases d<;>first
  |exact a.elim
  |exact RKeysP.fun a b
section
variable{κ:Type}[DecidableEq κ]{K:Frag}{H:Hp}{RK:D->κ->Prop}(inj:∀{d e:D} {k:κ},RK d k->RK e k->d=e)(fn:∀{d:D} {k k':κ},RK d k->RK d k'->k=k')
include inj fn
theorem fD{k:D}{q:κ}(j:RK k q):∀{kvs:List (D×D)} {ps:List (κ×V)},JX (λp r=>RK p.1 r.1/\RD K H p.2 r.2) kvs ps->
 (∀d,dget kvs k=Z d->∃v,bW ps q=Z v/\RD K H d v)/\(dget kvs k=Y->bW ps q=Y)
 |_,_,.nil=>⟨λd e=>by simp[dget]at e,λ_=>rfl⟩
 |_,_,.cons (a:=p) (b:=r) (l₂:=ps) B t=>by
  obtain⟨F,G⟩:=fD j t
  by_cases e:p.1=k
  ·have e':r.1=q:=by
    have h1:=B.1;rw[e]at h1;exact fn h1 j
   refine⟨λd he=>?_,λhe=>?_⟩
   ·simp[dget,Lv,e]at he;subst he;exact⟨r.2,fA e',B.2⟩
   ·simp[dget,Lv,e]at he
  ·have e':¬r.1=q:=fun z=>e (by
    have h1:=B.1;rw[z]at h1;exact inj h1 j)
   have eq1:∀l:List (D×D),dget (p::l) k=dget l k:=λl=>by simp[dget,Lv,e]
   have eq2:bW (r::ps) q=bW ps q:=fB e';refine⟨λd he=>?_,λhe=>?_⟩
   ·rw[eq1]at he;rw[eq2];exact F d he
   ·rw[eq1]at he;rw[eq2];exact G he
end
section
variable{X:Cx}
theorem ny{ps:List (List Key×V)}{k:D}(B:Rd H a (.dT ps))(pr:JX (λ(p:D×D) (q:List Key×V)=>RKeys p.1 q.1/\RD K H p.2 q.2) kvs ps)(ok:bK k=N2)(rk:RD K H k v):
 ∃o,DGet H a v o/\(∀d,dget kvs k=Z d->∃w,o=Z w/\RD K H d w)/\(dget kvs k=Y->o=Y):=by
 obtain⟨q,j⟩:=gK ok;obtain⟨g1,g2⟩:=fD (RK:=RKeys) RKeys.inj RKeys.fun j pr;refine⟨bW ps q,?_,g1,g2⟩
 cases k<;>first
  |exact j.elim
  | (obtain⟨b,us,rfl,z,ru⟩:=U2 (gL ok) rk
     rw[dU j ru]at z;exact .inr ⟨ps,q,b,B,rfl,z,rfl⟩)
theorem jW{t:Bool}{k:D}(rm:RM K M H)(e:M a=Z (.dct t kvs))(ok:fC t k=N2)(rk:RD K H k v):
 ∃o,DGet H a v o/\(∀d,dget kvs k=Z d->∃w,o=Z w/\RD K H d w)/\(dget kvs k=Y->o=Y):=by
 have ro:=rm a _ e
 cases t with
 |false=>obtain⟨ps,j,pr⟩:=ro;obtain⟨q,z⟩:=ng (show dq k=N2 from ok);obtain⟨g1,g2⟩:=fD (RK:=RKey) RKey.inj RKey.fun z pr;refine⟨bW ps q,?_,g1,g2⟩;rw[jV z rk];exact DGet.k j
 |true=>obtain⟨ps,j,pr⟩:=ro;exact ny (.inl j) pr ok rk
theorem zJ(j:X.A.units+1<LF):IxR X (λx y H Q=>∃a v,x=.ref a/\DGet H a y (Z v)/\Q v H):=by
 intro value slice pins s σ H x y v u Q I rx ry h hs;obtain⟨a,w,rfl,g,q⟩:=h
 cases rx
 have hd:IsD H a:=by
  rcases g with⟨kvs,k,e,_⟩|⟨kvs,k,b,e,_⟩
  ·exact .inl ⟨kvs,e⟩
  ·exact .inr ⟨kvs,e⟩
 obtain⟨z,_⟩:=jb I hd;exact tail_any z PySem.F.slot_dict_getitem.lookup (tP j I g ry λw' s' I' r'=>⟨w,H,I',r',q⟩) hs
theorem Es(G:X.A.units+1<LF):IxR X (l2 X.K wIx):=by
 refine IxR.of (ix_list.or (ix_tup.or (zJ G))) λv u H Q h=>?_;obtain⟨x,y,M,rm,rx,ry,q⟩:=h
 cases x with
 |tup ds=>
  obtain⟨i,d,rfl,e,q⟩:=q;obtain⟨a,vs,rfl,j,rs⟩:=TR rx
  cases TJ.mp ry
  obtain⟨w,hw,rw'⟩:=nv rs e;exact .inr (.inl ⟨a,vs,i,w,rfl,rfl,j,hw,q w H Ext.refl rm rw'⟩)
 |con ds=>
  obtain⟨i,d,rfl,e,q⟩:=q;obtain⟨a,vs,rfl,j,rs⟩:=TQ.mp rx
  cases TJ.mp ry
  obtain⟨w,hw,rw'⟩:=nv rs e;exact .inl ⟨a,vs,i,w,rfl,rfl,j.sq,hw,q w H Ext.refl rm rw'⟩
 |ref a=>
  cases TK.mp rx
  rcases q with⟨ds,i,d,z,rfl,B,q⟩|⟨t,kvs,d,z,F,B,q⟩|⟨kvs,d,z,F,B,q⟩
  ·cases TJ.mp ry
   obtain⟨vs,j,rs⟩:=rm _ _ z;obtain⟨w,hw,rw'⟩:=nv rs B;exact .inl ⟨a,vs,i,w,rfl,rfl,SqL.of j,hw,q w H Ext.refl rm rw'⟩
  ·obtain⟨o,g,g1,_⟩:=jW rm z F ry;obtain⟨w,rfl,rw'⟩:=g1 d B;exact .inr (.inr ⟨a,w,rfl,g,q w H Ext.refl rm rw'⟩)
  ·obtain⟨ob,ps,J,pr⟩:=rm _ _ z;obtain⟨o,g,g1,_⟩:=ny (.inr ⟨ob,J⟩) pr F ry;obtain⟨w,rfl,rw'⟩:=g1 d B;exact .inr (.inr ⟨a,w,rfl,g,q w H Ext.refl rm rw'⟩)
 |_=>exact q.elim
noncomputable def iH(M:Mem):D->Option Nat
 |.tup ds=>Z ds.length
 |.con ds=>Z ds.length
 |.ref a=>match M a with
  |some (.lst ds)=>Z ds.length
  |_=>Y
 |_=>Y
noncomputable def fE:RAd:=λxs M Q=>∃x n,xs=[x]/\iH M x=Z n/\Q (.int n) M
theorem nA:aV fE:=λ_ _ _ _ h j=>(by obtain⟨x,n,e,l,q⟩:=j;exact⟨x,n,e,l,h _ _ q⟩)
theorem RDs.one(h:RDs K H [d] vs):∃v,vs=[v]/\RD K H d v:=by obtain⟨v,r,rfl,h1,h2⟩:=TL.mp h;rw[RDs.nil_iff.mp h2];exact⟨v,rfl,h1⟩
theorem RDs.two{e:D}(h:RDs K H [d,e] vs):∃v u,vs=[v,u]/\RD K H d v/\RD K H e u:=by obtain⟨v,r,rfl,h1,h2⟩:=TL.mp h;obtain⟨u,rfl,j⟩:=RDs.one h2;exact⟨v,u,rfl,h1,j⟩
theorem rH:CallR X (.builtin "len") (lR X.K fE):=by
 refine CallR.of w9 λvs H Q h=>?_;obtain⟨ds,M,rm,rs,x,n,rfl,l,q⟩:=h;obtain⟨v,rfl,r⟩:=rs.one;refine⟨v,n,rfl,?_,q _ H Ext.refl rm (TJ.mpr rfl)⟩
 cases x with
 |tup ds=>
  cases l
  obtain⟨a,us,rfl,j,ru⟩:=TR r;exact .inr ⟨us,j,ru.length.symm⟩
 |con ds=>
  cases l
  obtain⟨a,us,rfl,j,ru⟩:=TQ.mp r;exact .inl ⟨us,j.sq,ru.length.symm⟩
 |ref a=>
  cases TK.mp r
  simp only[iH]at l
  cases e:M a with
  |none=>rw[e]at l;cases l
  |some o=>
   rw[e]at l
   cases o with
   |dct _ _=>cases l
   |fdc _=>cases l
   |dcn _=>cases l
   |fdn _=>cases l
   |lst ds=>
    cases l
    obtain⟨us,j,ru⟩:=rm _ _ e;exact .inl ⟨us,SqL.of j,ru.length.symm⟩
 |_=>cases l
noncomputable def jX:RAd:=λxs M Q=>∃i,xs=[.int i]/\Q (.int (if i<0 then -i else i)) M
noncomputable def ji:RAd:=λxs M Q=>∃i j,xs=[.int i,.int j]/\Q (.int (if j > i then j else i)) M
noncomputable def jj:RAd:=λxs M Q=>∃i j,xs=[.int i,.int j]/\Q (.int (if j<i then j else i)) M
noncomputable def jY:RAd:=λxs M Q=>(∃i,xs=[.int i]/\Q (.int i) M)∨∃k,xs=[.bl k]/\Q (.int (if k then 1 else 0)) M
theorem nB:aV jX:=λ_ _ _ _ h j=>(by obtain⟨i,e,q⟩:=j;exact⟨i,e,h _ _ q⟩)
theorem kT:aV ji:=λ_ _ _ _ h z=>(by obtain⟨i,j,e,q⟩:=z;exact⟨i,j,e,h _ _ q⟩)
theorem kU:aV jj:=λ_ _ _ _ h z=>(by obtain⟨i,j,e,q⟩:=z;exact⟨i,j,e,h _ _ q⟩)
theorem nC:aV jY:=λ_ _ _ _ h q=>q.elim (λj=>(by obtain⟨i,e,q⟩:=j;exact .inl ⟨i,e,h _ _ q⟩)) λj=>(by obtain⟨i,e,q⟩:=j;exact .inr ⟨i,e,h _ _ q⟩)
theorem rJ:CallR X (.builtin "abs") (lR X.K jX):=by
 refine CallR.of w8 λvs H Q h=>?_;obtain⟨ds,M,rm,rs,i,rfl,q⟩:=h;obtain⟨v,rfl,r⟩:=rs.one
 cases TJ.mp r
 exact⟨i,rfl,q _ H Ext.refl rm (TJ.mpr rfl)⟩
theorem pO(z:X.calm=N2):CallR X (.builtin "max") (lR X.K ji):=by
 refine CallR.of (tH z) λvs H Q h=>?_;obtain⟨ds,M,rm,rs,i,j,rfl,q⟩:=h;obtain⟨v,u,rfl,B,F⟩:=rs.two
 cases TJ.mp B
 cases TJ.mp F
 exact⟨i,j,rfl,q _ H Ext.refl rm (TJ.mpr rfl)⟩
theorem pP(z:X.calm=N2):CallR X (.builtin "min") (lR X.K jj):=by
 refine CallR.of (tI z) λvs H Q h=>?_;obtain⟨ds,M,rm,rs,i,j,rfl,q⟩:=h;obtain⟨v,u,rfl,B,F⟩:=rs.two
 cases TJ.mp B
 cases TJ.mp F
 exact⟨i,j,rfl,q _ H Ext.refl rm (TJ.mpr rfl)⟩
theorem rK:CallR X (.type "int") (lR X.K jY):=by
 refine CallR.of tJ λvs H Q h=>?_;obtain⟨ds,M,rm,rs,⟨i,rfl,q⟩|⟨i,rfl,q⟩⟩:=h
 ·obtain⟨v,rfl,r⟩:=rs.one
  cases TJ.mp r
  exact .inl ⟨i,rfl,q _ H Ext.refl rm (TJ.mpr rfl)⟩
 ·obtain⟨v,rfl,r⟩:=rs.one
  cases TM.mp r
  exact .inr ⟨i,rfl,q _ H Ext.refl rm (TJ.mpr rfl)⟩
noncomputable def aR(M:Mem):D->Option (List D)
 |.tup ds=>Z ds
 |.con ds=>Z ds
 |.ref a=>match M a with
  |some (.lst ds)=>Z ds
  |_=>Y
 |_=>Y
theorem u4(rm:RM K M H)(r:RD K H x v)(e:aR M x=Z ds):∃p vs,v=.ref p/\(SqL K H p vs∨SqT K H p vs)/\RDs K H ds vs:=by
 cases x with
 |tup es=>
  cases e
  obtain⟨a,us,rfl,j,ru⟩:=TR r;exact⟨a,us,rfl,.inr j,ru⟩
 |con es=>
  cases e
  obtain⟨a,us,rfl,j,ru⟩:=TQ.mp r;exact⟨a,us,rfl,.inl j.sq,ru⟩
 |ref a=>
  cases TK.mp r
  simp only[aR]at e
  cases e0:M a with
  |none=>rw[e0]at e;cases e
  |some o=>
   rw[e0]at e
   cases o with
   |dct _ _=>cases e
   |fdc _=>cases e
   |dcn _=>cases e
   |fdn _=>cases e
   |lst es=>
    cases e
    obtain⟨us,j,ru⟩:=rm _ _ e0;exact⟨a,us,rfl,.inl (SqL.of j),ru⟩
 |_=>cases e
noncomputable def m9:RAd:=λxs M Q=>∃x ds,xs=[x]/\aR M x=Z ds/\∀p,M p=Y->Q (.ref p) (ah M p (.lst ds))
noncomputable def gc:RAd:=λxs M Q=>∃x ds,xs=[x]/\aR M x=Z ds/\Q (.tup ds) M
theorem kW:aV m9:=λ_ _ _ _ h j=>(by obtain⟨x,ds,e,l,q⟩:=j;exact⟨x,ds,e,l,λp n=>h _ _ (q p n)⟩)
theorem jk:aV gc:=λ_ _ _ _ h j=>(by obtain⟨x,ds,e,l,q⟩:=j;exact⟨x,ds,e,l,h _ _ q⟩)
theorem pQ:CallR X (.type "list") (lR X.K m9):=by refine CallR.of mW λvs H Q h=>?_;obtain⟨ds,M,rm,rs,x,es,rfl,l,q⟩:=h;obtain⟨v,rfl,r⟩:=rs.one;obtain⟨p,us,rfl,sq,ru⟩:=u4 rm r l;exact⟨p,us,rfl,sq,λl' n=>cH rm ru q n⟩
theorem nD:CallR X (.type "tuple") (lR X.K gc):=by
 refine CallR.of lW λvs H Q h=>?_;obtain⟨ds,M,rm,rs,x,es,rfl,l,q⟩:=h;obtain⟨v,rfl,r⟩:=rs.one
 cases x with
 |tup ds'=>
  cases l
  obtain⟨a,us,rfl,j,ru⟩:=TR r;exact⟨a,us,rfl,.inr ⟨j,q _ H Ext.refl rm r⟩⟩
 |con ds'=>
  cases l
  obtain⟨a,us,rfl,j,ru⟩:=TQ.mp r;exact⟨a,us,rfl,.inl ⟨j.sq,λl' n=>dD rm ru q n⟩⟩
 |ref a=>
  cases TK.mp r
  simp only[aR]at l
  cases e0:M a with
  |none=>rw[e0]at l;cases l
  |some o=>
   rw[e0]at l
   cases o with
   |dct _ _=>cases l
   |fdc _=>cases l
   |dcn _=>cases l
   |fdn _=>cases l
   |lst es'=>
    cases l
    obtain⟨us,j,ru⟩:=rm _ _ e0;exact⟨a,us,rfl,.inl ⟨SqL.of j,λl' n=>dD rm ru q n⟩⟩
 |_=>cases l
end
end
variable{e:Expr}{tA:TTd}
section
section
variable{X:Cx}
noncomputable def rL(M:Mem):D->Option Bool
 |.non=>Z Ua
 |.bl b=>Z b
 |.int i=>Z (i != 0)
 |.tup ds=>Z (!ds.isEmpty)
 |.con ds=>Z (!ds.isEmpty)
 |.ref a=>match M a with
  |some (.lst ds)=>Z (!ds.isEmpty)
  |_=>Y
 |_=>Y
noncomputable def rM(t:TEd):TTd:=λρ M Q=>t ρ M λx M1=>∃b,rL M1 x=Z b/\Q b M1
theorem wM{t:TEd}(h:af t):aH (rM t):=λρ M Q Q' i q=>h _ _ _ _ (λx B j=>(by obtain⟨k,e,z⟩:=j;exact⟨k,e,i _ _ z⟩)) q
theorem BC{b:Bool}(rm:RM K M H)(r:RD K H x v)(e:rL M x=Z b):w5 K v H b:=by
 have emp:∀{ds:List D} {vs:List V},RDs K H ds vs->(!ds.isEmpty) = !vs.isEmpty:=λ{ds vs} h=>by
  have l:=h.length
  cases ds<;>cases vs<;>first|rfl|(simp at l)
 cases x with
 |non=>cases e;cases TV.mp r;rfl
 |bl k=>cases e;cases TM.mp r;rfl
 |int i=>cases e;cases TJ.mp r;rfl
 |tup ds=>
  cases e
  obtain⟨a,vs,rfl,j,rs⟩:=TR r;exact .inr (.inl ⟨vs,j,emp rs⟩)
 |con ds=>
  cases e
  obtain⟨a,vs,rfl,j,rs⟩:=TQ.mp r;exact .inl ⟨vs,j.sq,emp rs⟩
 |ref a=>
  cases TK.mp r
  simp only[rL]at e
  cases e0:M a with
  |none=>rw[e0]at e;cases e
  |some o=>
   rw[e0]at e
   cases o with
   |dct _ _=>cases e
   |fdc _=>cases e
   |dcn _=>cases e
   |fdn _=>cases e
   |lst ds=>
    cases e
    obtain⟨vs,j,rs⟩:=rm _ _ e0;exact .inl ⟨vs,SqL.of j,emp rs⟩
 |str _=>cases e
 |fn _=>cases e
variable{a b:Expr}{ta tb:TEd}{pos:Pos}
theorem BD(m:af ta)(B:PE X a (lE X.K ta))(he:∀whole,isTrue a X.env whole=(do let v <-whole;Pt a.pos;holding [v] (truthy v))):PT X a (lT X.K (rM ta)):=by refine PT.imp (w6 B he) λσ H Q h=>?_;obtain⟨ρ,M,rs,rm,q⟩:=h;exact⟨ρ,M,rs,rm,m _ _ _ _ (λx L F v H1 G j z=>(by obtain⟨k,e,J⟩:=F;exact⟨k,BC j z e,J H1 G j⟩)) q⟩
noncomputable def md(t:TTd):TTd:=λρ M Q=>t ρ M λc M1=>Q (!c) M1
theorem u5{t:TTd}(h:aH t):aH (md t):=λρ M Q Q' i q=>h _ _ _ _ (λc z j=>i _ _ j) q
theorem BE(m:aH tA)(j:PT X a (lT X.K tA)):PT X (.UnaryOp .Not a pos) (lT X.K (md tA)):=by refine PT.imp (AU j) λσ H Q h=>?_;obtain⟨ρ,M,rs,rm,q⟩:=h;exact⟨ρ,M,rs,rm,m _ _ _ _ (λc B z=>z) q⟩
noncomputable def mf(t u:TTd):TTd:=λρ M Q=>t ρ M λc M1=>if c=N2 then u ρ M1 Q else Q Ua M1
noncomputable def rN(t u:TTd):TTd:=λρ M Q=>t ρ M λc M1=>if c=N2 then Q N2 M1 else u ρ M1 Q
theorem u6{t u:TTd}(h:aH t)(k:aH u):aH (mf t u):=λρ M Q Q' i q=>h _ _ _ _ (λc z j=>by
 cases c with
 |true=>rw[if_pos rfl]at j⊢;exact k _ _ _ _ i j
 |false=>rw[if_neg Jg]at j⊢;exact i _ _ j) q
theorem wN{t u:TTd}(h:aH t)(k:aH u):aH (rN t u):=λρ M Q Q' i q=>h _ _ _ _ (λc z j=>by
 cases c with
 |true=>rw[if_pos rfl]at j⊢;exact i _ _ j
 |false=>rw[if_neg Jg]at j⊢;exact k _ _ _ _ i j) q
theorem zK(j:PT X a (lT X.K tA)):PW X (.BoolOp .And [a] pos) (lT X.K tA):=yX j
theorem BG(j:PT X a (lT X.K tA)):PW X (.BoolOp .Or [a] pos) (lT X.K tA):=AS j
theorem BH{tB:TTd}{rest:List Expr}(mA:aH tA)(mB:aH tB)(F:PT X a (lT X.K tA))(G:PW X (.BoolOp .And (b::rest) pos) (lT X.K tB)):PW X (.BoolOp .And (a::b::rest) pos) (lT X.K (mf tA tB)):=by
 refine PW.imp (AT F G) λσ H Q h=>?_;obtain⟨ρ,M,rs,rm,q⟩:=h;refine⟨ρ,M,rs,rm,mA _ _ _ _ (λc J z H1 B j=>?_) q⟩
 cases c with
 |true=>rw[if_pos rfl]at z⊢;exact⟨ρ,J,rs.mono (B.stab rm),j,mB _ _ _ _ (λd M2 k=>k.ext B) z⟩
 |false=>rw[if_neg Jg]at z⊢;exact z H1 B j
theorem Dq{tB:TTd}{rest:List Expr}(mA:aH tA)(mB:aH tB)(F:PT X a (lT X.K tA))(G:PW X (.BoolOp .Or (b::rest) pos) (lT X.K tB)):PW X (.BoolOp .Or (a::b::rest) pos) (lT X.K (rN tA tB)):=by
 refine PW.imp (CS F G) λσ H Q h=>?_;obtain⟨ρ,M,rs,rm,q⟩:=h;refine⟨ρ,M,rs,rm,mA _ _ _ _ (λc J z H1 B j=>?_) q⟩
 cases c with
 |true=>rw[if_pos rfl]at z⊢;exact z H1 B j
 |false=>rw[if_neg Jg]at z⊢;exact⟨ρ,J,rs.mono (B.stab rm),j,mB _ _ _ _ (λd M2 k=>k.ext B) z⟩
noncomputable def mj(ta tb:TEd):TEd:=λρ M Q=>ta ρ M λx M1=>∃c,x=.bl c/\if c=N2 then tb ρ M1 Q else Q (.bl Ua) M1
noncomputable def rO(ta tb:TEd):TEd:=λρ M Q=>ta ρ M λx M1=>∃c,x=.bl c/\if c=N2 then Q (.bl N2) M1 else tb ρ M1 Q
noncomputable def mm(ta:TEd):TEd:=λρ M Q=>ta ρ M λx M1=>∃c,x=.bl c/\Q (.bl (!c)) M1
theorem u7(h:af ta)(k:af tb):af (mj ta tb):=λρ M Q Q' i q=>h _ _ _ _ (λx z ⟨c,e,j⟩=>⟨c,e,by
 cases c with
 |true=>rw[if_pos rfl]at j⊢;exact k _ _ _ _ i j
 |false=>rw[if_neg Jg]at j⊢;exact i _ _ j⟩) q
theorem wP(h:af ta)(k:af tb):af (rO ta tb):=λρ M Q Q' i q=>h _ _ _ _ (λx z ⟨c,e,j⟩=>⟨c,e,by
 cases c with
 |true=>rw[if_pos rfl]at j⊢;exact i _ _ j
 |false=>rw[if_neg Jg]at j⊢;exact k _ _ _ _ i j⟩) q
theorem u8(h:af ta):af (mm ta):=λρ M Q Q' i q=>h _ _ _ _ (λx B j=>(by obtain⟨c,e,z⟩:=j;exact⟨c,e,i _ _ z⟩)) q
theorem u9{op:BoolOp}{t:TEd}(h:PE X a (lE X.K t)):PE X (.BoolOp op [a] pos) (lE X.K t):=AV h
theorem BI{rest:List Expr}(ma:af ta)(mb:af tb)(G:PE X a (lE X.K ta))(J:PE X (.BoolOp .And (b::rest) pos) (lE X.K tb)):PE X (.BoolOp .And (a::b::rest) pos) (lE X.K (mj ta tb)):=by
 refine PE.imp (AW G J) λσ H Q h=>?_;obtain⟨ρ,M,rs,rm,q⟩:=h;refine⟨ρ,M,rs,rm,ma _ _ _ _ (λx L g9 v H1 B j F=>?_) q⟩;obtain⟨c,e,z⟩:=g9;subst e;refine⟨c,TM.mp F,?_⟩
 cases c with
 |true=>rw[if_pos rfl]at z⊢;exact⟨ρ,L,rs.mono (B.stab rm),j,mb _ _ _ _ (λd M2 k=>k.ext B) z⟩
 |false=>rw[if_neg Jg]at z⊢;exact z _ H1 B j (TM.mpr rfl)
theorem Dr{rest:List Expr}(ma:af ta)(mb:af tb)(G:PE X a (lE X.K ta))(J:PE X (.BoolOp .Or (b::rest) pos) (lE X.K tb)):PE X (.BoolOp .Or (a::b::rest) pos) (lE X.K (rO ta tb)):=by
 refine PE.imp (CV G J) λσ H Q h=>?_;obtain⟨ρ,M,rs,rm,q⟩:=h;refine⟨ρ,M,rs,rm,ma _ _ _ _ (λx L g9 v H1 B j F=>?_) q⟩;obtain⟨c,e,z⟩:=g9;subst e;refine⟨c,TM.mp F,?_⟩
 cases c with
 |true=>rw[if_pos rfl]at z⊢;exact z _ H1 B j (TM.mpr rfl)
 |false=>rw[if_neg Jg]at z⊢;exact⟨ρ,L,rs.mono (B.stab rm),j,mb _ _ _ _ (λd M2 k=>k.ext B) z⟩
theorem BJ(ma:af ta)(B:PE X a (lE X.K ta)):PE X (.UnaryOp .Not a pos) (lE X.K (mm ta)):=by refine PE.imp (AX B) λσ H Q h=>?_;obtain⟨ρ,M,rs,rm,q⟩:=h;refine⟨ρ,M,rs,rm,ma _ _ _ _ (λx J g9 v H1 G j z=>?_) q⟩;obtain⟨c,e,F⟩:=g9;subst e;exact⟨c,TM.mp z,F _ H1 G j (TM.mpr rfl)⟩
noncomputable def wIf(t:TTd)(ta tb:TEd):TEd:=λρ M Q=>t ρ M λc M1=>if c=N2 then ta ρ M1 Q else tb ρ M1 Q
theorem zL{t:TTd}(h:aH t)(z:af ta)(B:af tb):af (wIf t ta tb):=λρ M Q Q' i q=>h _ _ _ _ (λc F j=>by
 cases c with
 |true=>rw[if_pos rfl]at j⊢;exact z _ _ _ _ i j
 |false=>rw[if_neg Jg]at j⊢;exact B _ _ _ _ i j) q
theorem Ds{c:Expr}{t:TTd}(mt:aH t)(ma:af ta)(mb:af tb)(G:PT X c (lT X.K t))(J:PE X a (lE X.K ta))(L:PE X b (lE X.K tb)):PE X (.IfExp c a b pos) (lE X.K (wIf t ta tb)):=by
 refine PE.imp (vU G J L) λσ H Q h=>?_;obtain⟨ρ,M,rs,rm,q⟩:=h;refine⟨ρ,M,rs,rm,mt _ _ _ _ (λx F z H1 B j=>?_) q⟩
 cases x with
 |true=>rw[if_pos rfl]at z⊢;exact⟨ρ,F,rs.mono (B.stab rm),j,ma _ _ _ _ (λd M2 k=>k.ext B) z⟩
 |false=>rw[if_neg Jg]at z⊢;exact⟨ρ,F,rs.mono (B.stab rm),j,mb _ _ _ _ (λd M2 k=>k.ext B) z⟩
noncomputable def dW(xs:List D)(lo hi:Option Int):List D:=(xs.drop (HT.sIx xs.length 0 lo)).take (HT.sIx xs.length xs.length hi-HT.sIx xs.length 0 lo)
theorem nE(r:RDs K H ds vs)(lo hi:Option Int):RDs K H (dW ds lo hi) (fX vs lo hi):=by unfold dW fX;rw[r.length];exact(r.drop _).take _
noncomputable abbrev TOd:=ar->Mem->(Option Int->Mem->Prop)->Prop
def fF(T:TOd):Prop:=∀ρ M Q Q',(∀d M',Q d M'->Q' d M')->T ρ M Q->T ρ M Q'
noncomputable def gO:TOd:=λ_ M Q=>Q Y M
noncomputable def mn(t:TEd):TOd:=λρ M Q=>t ρ M λx M1=>∃i,x=.int i/\Q (Z i) M1
theorem pR:fF gO:=λ_ _ _ _ h q=>h _ _ q
theorem ua(h:af ta):fF (mn ta):=λρ M Q Q' i q=>h _ _ _ _ (λx B j=>(by obtain⟨c,e,z⟩:=j;exact⟨c,e,i _ _ z⟩)) q
noncomputable def lO(K:Frag)(T:TOd):TO:=λσ H Q=>∃ρ M,RS K H σ ρ/\RM K M H/\T ρ M (λo M'=>∀H',Ext M H M' H'->RM K M' H'->Q o H')
theorem zM:PO X Y (lO X.K gO):=λpins s σ H Q I h=>by obtain⟨ρ,M,rs,rm,q⟩:=h;exact zk pins s σ H Q I (q H Ext.refl rm)
theorem zN(m:af ta)(h:PE X e (lE X.K ta)):PO X (Z e) (lO X.K (mn ta)):=λpins s σ H Q I hq=>by obtain⟨ρ,M,rs,rm,q⟩:=hq;refine zm h pins s σ H Q I ⟨ρ,M,rs,rm,m _ _ _ _ (λx G g9 v H1 F j z=>?_) q⟩;obtain⟨i,e,B⟩:=g9;subst e;exact⟨i,TJ.mp z,B H1 F j⟩
noncomputable def cC:D->Option Int->Option Int->Mem->QD->Prop:=λx lo hi M Q=>match x with
 |.tup ds=>Q (.tup (dW ds lo hi)) M
 |.ref a=>∃ds,M a=Z (.lst ds)/\∀p,M p=Y->Q (.ref p) (ah M p (.lst (dW ds lo hi)))
 |.con ds=>∀p,M p=Y->Q (.ref p) (ah M p (.lst (dW ds lo hi)))
 |_=>False
noncomputable def wSl(te:TEd)(tl th:TOd):TEd:=λρ M Q=>te ρ M λx M1=>tl ρ M1 λl M2=>th ρ M2 λu M3=>cC x l u M3 Q
theorem rP{lo hi:Option Int}{Q Q':QD}(h:∀d M',Q d M'->Q' d M')(q:cC x lo hi M Q):cC x lo hi M Q':=by
 cases x with
 |tup ds=>exact h _ _ q
 |ref a=>obtain⟨ds,e,q⟩:=q;exact⟨ds,e,λp n=>h _ _ (q p n)⟩
 |con ds=>exactλp n=>h _ _ (q p n)
 |_=>exact q.elim
theorem zO{tl th:TOd}(m:af ta)(ml:fF tl)(mh:fF th):af (wSl ta tl th):=λρ M Q Q' i q=>m _ _ _ _ (λx F j=>ml _ _ _ _ (λl M2 z=>mh _ _ _ _ (λu G B=>rP i B) z) j) q
theorem Dt{lo hi:Option Expr}{tl th:TOd}{p2:Pos}(m:af ta)(ml:fF tl)(mh:fF th)(he:PE X e (lE X.K ta))(hl:PO X lo (lO X.K tl))(hu:PO X hi (lO X.K th)):
 PE X (.Subscript e (.Slice lo hi Y p2) pos) (lE X.K (wSl ta tl th)):=by
 refine PE.imp (wc (sl_tup.or (sl_list.or wf)) he hl hu) λσ H Q h=>?_;obtain⟨ρ,M,rs,rm,q⟩:=h;refine⟨ρ,M,rs,rm,m _ _ _ _ (λx M1 q1 v H1 O G U=>?_) q⟩;refine⟨ρ,M1,rs.mono (O.stab rm),G,ml _ _ _ _ (λl M2 q2 H2 F2 L=>?_) q1⟩;refine⟨ρ,M2,(rs.mono (O.stab rm)).mono (F2.stab G),L,mh _ _ _ _ (λu M3 z H3 fv j=>?_) q2⟩;have B:=O.trans (F2.trans fv);have F:=(U.mono (F2.stab G)).mono (fv.stab L)
 cases x with
 |tup ds=>
  obtain⟨a,vs,rfl,J,r⟩:=TR F
  by_cases hw:HT.sIx vs.length 0 l=0/\HT.sIx vs.length vs.length u=vs.length
  ·refine .inr (.inr ⟨a,vs,rfl,J,hw,?_⟩);have e:dW ds l u=ds:=by
    unfold dW;rw[<-r.length,hw.1,hw.2,r.length];simp
   simp only[cC]at z;rw[e]at z;exact z.ext B _ H3 Ext.refl j F
  ·simp only[cC]at z;exact .inl ⟨a,vs,rfl,J,hw,λp n=>dD j (nE r l u) (z.ext B) n⟩
 |ref a=>
  cases TK.mp F
  obtain⟨ds,e,z⟩:=z;obtain⟨vs,J,r⟩:=j _ _ e;exact .inr (.inl ⟨a,vs,rfl,SqL.of J,λp n=>cH j (nE r l u) (λp' n'=>(z p' n').ext B) n⟩)
 |con ds=>obtain⟨a,vs,rfl,J,r⟩:=TQ.mp F;exact .inr (.inl ⟨a,vs,rfl,J.sq,λp n=>cH j (nE r l u) (λp' n'=>(z p' n').ext B) n⟩)
 |_=>exact z.elim
end
end
variable{i:Nat}{to ta:TEd}{pos:Pos}{tg:Expr}{H1:Hp}
section
section
variable{X:Cx}
noncomputable def wBM(rd:D->List D->Mem->QD->Prop)(to:TEd)(t:TAd):TEd:=λρ M Q=>to ρ M λx M1=>(∃a xs,x=.ref a/\M1 a=Z (.lst xs))/\t ρ M1 λds M2=>rd x ds M2 Q
def jl(rd:D->List D->Mem->QD->Prop):Prop:=∀x ds M Q Q',(∀d M',Q d M'->Q' d M')->rd x ds M Q->rd x ds M Q'
theorem zP{rd:D->List D->Mem->QD->Prop}{t:TAd}(j:jl rd)(mo:af to)(mt:bj t):af (wBM rd to t):=λρ M Q Q' i q=>mo _ _ _ _ (λx G z=>(by obtain⟨e,B⟩:=z;exact⟨e,mt _ _ _ _ (λds M2 F=>j _ _ _ _ _ i F) B⟩)) q
theorem Du(rm:RM K M H)(r:RD K H x v)(h:∃a xs,x=.ref a/\M a=Z (.lst xs)):tyV K "list" v H:=by
 obtain⟨a,xs,rfl,e⟩:=h
 cases TK.mp r
 obtain⟨vs,j,_⟩:=rm _ _ e;exact .inl ⟨rfl,vs,SqL.of j⟩
theorem qj{rd:D->List D->Mem->QD->Prop}{r:V->List V->Hp->VK->Prop}{t:TAd}(L:jl rd)(mo:af to)(mt:bj t)(O:∀v vs H Q,lMt K rd v vs H Q->r v vs H Q)(σ:St)(H:Hp)(Q:VK)(h:lE K (wBM rd to t) σ H Q):tBM K "list" r (lE K to) (lA K t) σ H Q:=by obtain⟨ρ,M,rs,rm,q⟩:=h;refine⟨ρ,M,rs,rm,mo _ _ _ _ (λx U ⟨e,F2⟩ v H1 G j z=>⟨Du j z e,?_⟩) q⟩;refine⟨ρ,U,rs.mono (G.stab rm),j,mt _ _ _ _ (λds M2 fv vs H2 J B F=>?_) F2⟩;exact O v vs H2 Q ⟨x,ds,M2,B,z.mono (J.stab j),F,L _ _ _ _ _ (λd M' k=>k.ext (G.trans J)) fv⟩
noncomputable def gP:D->List D->Mem->QD->Prop:=λx ds M Q=>∃a xs y,x=.ref a/\ds=[y]/\M a=Z (.lst xs)/\xs.length<J9/\Q .non (ah M a (.lst (xs++[y])))
noncomputable def gQ:D->List D->Mem->QD->Prop:=λx ds M Q=>∃a b xs ys,x=.ref a/\ds=[.ref b]/\M a=Z (.lst xs)/\M b=Z (.lst ys)/\xs.length+ys.length<=J9/\Q .non (ah M a (.lst (xs++ys)))
theorem iy:jl gP:=λ_ _ _ _ _ h j=>(by obtain⟨a,xs,y,B,F,G,z,q⟩:=j;exact⟨a,xs,y,B,F,G,z,h _ _ q⟩)
theorem iz:jl gQ:=λ_ _ _ _ _ h j=>(by obtain⟨a,b,xs,y,B,F,G,J,z,q⟩:=j;exact⟨a,b,xs,y,B,F,G,J,z,h _ _ q⟩)
theorem qk{o0:O}(rm:RM K M H)(m:M a=Z o0)(rd:RDs K H ds vs)(r:RD K H d v)(q:KE' K M H Q d (ah M a (.lst ds)))(w:fz (Z o0)=Ua:=by rfl):
 Q v (upd H a (.lst vs)):=by
 have st:Stab H (upd H a (.lst vs)):=rm.stabPut m w;exact q v _ (Ext.put m w) (rm.put m ⟨vs,ay,rd.mono st⟩ w) (r.mono st)
theorem wQ(v:V)(vs:List V)(H:Hp)(Q:VK)(h:lMt K gP v vs H Q):qe v vs H Q:=by
 obtain⟨x,ds,M,rm,rx,rs,a,xs,y,rfl,rfl,e,z,q⟩:=h
 cases TK.mp rx
 obtain⟨w,rfl,rw'⟩:=rs.one;obtain⟨us,j,ru⟩:=rm _ _ e;exact⟨a,us,w,rfl,rfl,j,by rw[ru.length];exact z,qk rm e (ru.append (RDs.cons rw' RDs.nil)) (TV.mpr rfl) q⟩
theorem wR(v:V)(vs:List V)(H:Hp)(Q:VK)(h:lMt K gQ v vs H Q):qf v vs H Q:=by
 obtain⟨x,ds,M,rm,rx,rs,a,b,xs,y,rfl,rfl,e,B,z,q⟩:=h
 cases TK.mp rx
 obtain⟨w,rfl,rw'⟩:=rs.one
 cases TK.mp rw'
 obtain⟨us,F,ru⟩:=rm _ _ e;obtain⟨ws,G,j⟩:=rm _ _ B;have l1:=ru.length;have l2:=j.length;exact⟨a,b,us,ws,rfl,rfl,F,G,∅,qk rm e (ru.append j) (TV.mpr rfl) q⟩
noncomputable abbrev BT:=D->ar->Option ar
noncomputable abbrev BTs:=List D->ar->Option ar
noncomputable def be(i:Nat):BT:=λd ρ=>Z (ρ.set i (Z d))
noncomputable def fG:BTs:=λds ρ=>match ds with|[]=>Z ρ|_=>Y
noncomputable def bI(b:BT)(bs:BTs):BTs:=λds ρ=>match ds with|d::r=>(b d ρ).bind λρ'=>bs r ρ'|[]=>Y
noncomputable def nF(bs:BTs):BT:=λd ρ=>match d with|.tup ds=>bs ds ρ|_=>Y
noncomputable def lG(K:Frag)(b:BT):TG:=λv σ H Q=>∃d ρ ρ',RD K H d v/\RS K H σ ρ/\b d ρ=Z ρ'/\∀σ',RS K H σ' ρ'->Q σ' H
noncomputable def lGs(K:Frag)(b:BTs):TGs:=λvs σ H Q=>∃ds ρ ρ',RDs K H ds vs/\RS K H σ ρ/\b ds ρ=Z ρ'/\∀σ',RS K H σ' ρ'->Q σ' H
theorem PG.imp{t t':TG}(h:PG X e t)(i:∀v σ H Q,t' v σ H Q->t v σ H Q):PG X e t':=λpins s σ H v u Q I r q=>h pins s σ H v u Q I r (i _ _ _ _ q)
theorem PGs.imp{e:List Expr}{t t':TGs}(h:PGs X e t)(i:∀v σ H Q,t' v σ H Q->t v σ H Q):PGs X e t':=λpins s σ H v u Q I r q=>h pins s σ H v u Q I r (i _ _ _ _ q)
theorem zQ{x:Str}(j:X.N.Nodup)(hi:X.N[i]?=Z x)(hx:Loc X.env.scope x)(hf:X.fn x=N2∨X.env.scope.names.lookup x=Z .local):PG X (.Name x pos) (lG X.K (be i)):=
 PG.imp (qa j hi hx hf) λv σ H Q ⟨d,ρ,ρ',r,rs,e,q⟩=>by
  cases e
  exact q _ (rs.set i r)
theorem zR:PGs X [] (lGs X.K fG):=PGs.imp zc λvs σ H Q ⟨ds,ρ,ρ',r,rs,e,q⟩=>by
 cases ds with
 |nil=>cases e;exact⟨RDs.nil_iff.mp r,q σ rs⟩
 |cons _ _=>cases e
theorem wU{es:List Expr}{b:BT}{bs:BTs}(h1:PG X e (lG X.K b))(h2:PGs X es (lGs X.K bs))(hs:(LB (e::es) X.env).map (·.2)=assign e X.env::(LB es X.env).map (·.2)):
 PGs X (e::es) (lGs X.K (bI b bs)):=PGs.imp (vY h1 h2 hs) λvs σ H Q ⟨ds,ρ,ρ',r,rs,e,q⟩=>by
 cases ds with
 |nil=>cases e
 |cons d ds=>
  obtain⟨v,vr,rfl,z,B⟩:=TL.mp r;simp only[bI]at e
  cases j:b d ρ with
  |none=>rw[j]at e;cases e
  |some ρ1=>rw[j]at e;exact⟨v,vr,rfl,d,ρ,ρ1,z,rs,j,λσ' rs'=>⟨ds,ρ1,ρ',B,rs',e,q⟩⟩
theorem BK{es:List Expr}{k:Nat}{bs:BTs}{n:Nat}(z:X.calm=N2)(hlen:∀ds ρ ρ',bs ds ρ=Z ρ'->ds.length=n)(h:PGs X es (lGs X.K bs))(B:(LB es X.env).length=n)(j:(LB es X.env).findIdx? (·.1)=Y):
 PG X (.Tuple es k pos) (lG X.K (nF bs)):=PG.imp (B2 z h B j) λv σ H Q ⟨d,ρ,ρ',r,rs,e,q⟩=>by
 cases d with
 |tup ds=>obtain⟨a,vs,rfl,F,rv⟩:=TR r;exact⟨a,vs,rfl,F,by rw[rv.length];exact hlen _ _ _ e,ds,ρ,ρ',rv,rs,e,q⟩
 |_=>cases e
noncomputable abbrev TId:=ar->Mem->(List D->(Mem->Prop)->Mem->Prop)->Prop
def cg(T:TId):Prop:=∀ρ M Q Q',(∀xs c M',Q xs c M'->Q' xs c M')->T ρ M Q->T ρ M Q'
def Yl(H H':Hp):Prop:=H'=H∨∃q vs,H q=Y/\H'=upd H q (.tup vs)
def gd(K:Frag)(H1:Hp)(xs:List D)(chk:Mem->Prop)(J:It):Prop:=∀M H,Stab H1 H->RM K M H->chk M->∀i,(xs.length<=i->J.stop i H)/\(i<xs.length->J.go i H /\
 ∀x H',J.yld i H x H'->Yl H H'/\∃d,xs[i]?=Z d/\RD K H' d x)
noncomputable def lI(K:Frag)(T:TId):TI:=λσ H R=>∃ρ M,RS K H σ ρ/\RM K M H/\T ρ M (λxs chk M1=>∀J H1,Ext M H M1 H1->RM K M1 H1->gd K H1 xs chk J->R J H1)
theorem PI.imp{t t':TI}(h:PI X tg e t)(i:∀σ H Q,t' σ H Q->t σ H Q):PI X tg e t':=λpins s σ H Q I q=>h pins s σ H Q I (i _ _ _ q)
theorem Yl.ext{H':Hp}(rm:RM K M H)(y:Yl H H'):Ext M H M H'/\RM K M H':=by
 rcases y with rfl|⟨q,vs,n,rfl⟩
 ·exact⟨Ext.refl,rm⟩
 ·exact⟨TZ n,rm.new n⟩
noncomputable def Et(K:Frag)(tl:TE):TI:=λσ H R=>tl σ H λx H1=>∃a,x=.ref a/\(((∃xs,SqL K H1 a xs)/\R (Itl K a) H1)∨((∃xs,SqT K H1 a xs)/\R (Itt K a) H1))
theorem BL{l:Expr}{tl:TE}(F:PE X l tl):PI X tg l (Et X.K tl):=by
 intro pins s σ H R I h;refine thn (F pins s σ H _ I h) λv s1 G=>?_;obtain⟨x,H1,j,J,L⟩:=G;obtain⟨a,e,q⟩:=L;subst e
 cases J
 rcases q with⟨⟨xs,z⟩,q⟩|⟨⟨xs,z⟩,q⟩
 ·obtain⟨its,rv,p,O⟩:=j.list z;refine LS p.isList ?_;refine⟨s1.heap.objs.size,[s1.heap.objs.size],_,_,H1,rfl,j.kept (t':=s1.toks) λb o e=>D0 _ e,tD a _,⟨_,Jf _ rfl,rfl,rfl⟩,λb B=>?_,q⟩;have e:b=s1.heap.objs.size:=by simpa using B
  subst e;exact j.fpOk (J6 _) (j.hok.fresh (J6 _))
 ·obtain⟨its,rv,p,O⟩:=j.tuple z;refine Le (show s1.heap.IsTuple a its.toArray from p) ?_;refine⟨s1.heap.objs.size,[s1.heap.objs.size],_,_,H1,rfl,j.kept (t':=s1.toks) λb o e=>D0 _ e,r9 a _,⟨_,Jf _ rfl,rfl,rfl⟩,λb B=>?_,q⟩;have e:b=s1.heap.objs.size:=by simpa using B
  subst e;exact j.fpOk (J6 _) (j.hok.fresh (J6 _))
noncomputable def rQ(ta:TEd):TId:=λρ M R=>ta ρ M λx M1=>∃ds,aR M1 x=Z ds/\R ds (λM=>aR M x=Z ds) M1
theorem wV(h:af ta):cg (rQ ta):=λρ M Q Q' i q=>h _ _ _ _ (λx B j=>(by obtain⟨ds,e,z⟩:=j;exact⟨ds,e,i _ _ _ z⟩)) q
theorem ub{chk:Mem->Prop}(h:∀M H,Stab H1 H->RM K M H->chk M->∃vs,SqL K H a vs/\RDs K H ds vs):gd K H1 ds chk (Itl K a):=λM H st rm c i=>by
 obtain⟨vs,sq,r⟩:=h M H st rm c;have l:=r.length;refine⟨λhi=>⟨vs,sq,∅⟩,λhi=>⟨⟨vs,vs[i]'∅,sq,z4 ∅⟩,λx H' y=>?_⟩⟩
 obtain⟨e,y⟩:=y;subst e;exact⟨.inl rfl,r.getV (y vs sq)⟩
theorem BM{chk:Mem->Prop}(h:∀M H,Stab H1 H->RM K M H->chk M->∃vs,SqT K H a vs/\RDs K H ds vs):gd K H1 ds chk (Itt K a):=λM H st rm c i=>by
 obtain⟨vs,sq,r⟩:=h M H st rm c;have l:=r.length;refine⟨λhi=>⟨vs,sq,∅⟩,λhi=>⟨⟨vs,vs[i]'∅,sq,z4 ∅⟩,λx H' y=>?_⟩⟩
 obtain⟨e,y⟩:=y;subst e;exact⟨.inl rfl,r.getV (y vs sq)⟩
theorem BN{l:Expr}(m:af ta)(G:PE X l (lE X.K ta)):PI X tg l (lI X.K (rQ ta)):=by
 refine PI.imp (BL G) λσ H R h=>?_;obtain⟨ρ,M,rs,rm,q⟩:=h;refine⟨ρ,M,rs,rm,m _ _ _ _ (λx L g9 v H1 F j rd1=>?_) q⟩;obtain⟨ds,e,B⟩:=g9
 cases x with
 |tup es=>
  cases e
  obtain⟨a,vs,rfl,z,rv⟩:=TR rd1;exact⟨a,rfl,.inr ⟨⟨vs,z⟩,B _ H1 F j (BM λM' H' st _ _=>⟨vs,st.sqT z,rv.mono st⟩)⟩⟩
 |con es=>
  cases e
  obtain⟨a,vs,rfl,z,rv⟩:=TQ.mp rd1;exact⟨a,rfl,.inl ⟨⟨vs,z.sq⟩,B _ H1 F j (ub λM' H' st _ _=>⟨vs,(st.sqF z).sq,rv.mono st⟩)⟩⟩
 |ref a=>
  cases TK.mp rd1
  have get:∀{M':Mem} {es:List D},aR M' (.ref a)=Z es->M' a=Z (.lst es):=λ{M' es} e=>by
   simp only[aR]at e
   cases e0:M' a with
   |none=>rw[e0]at e;cases e
   |some o=>
    rw[e0]at e
    cases o with
    |dct _ _=>cases e
    |fdc _=>cases e
    |dcn _=>cases e
    |fdn _=>cases e
    |lst es'=>cases e;rfl
  obtain⟨vs,z,rv⟩:=j _ _ (get e);exact⟨a,rfl,.inl ⟨⟨vs,SqL.of z⟩,B _ H1 F j (ub λM' H' st rm' c=>by obtain⟨us,J,ru⟩:=rm' _ _ (get c);exact⟨us,SqL.of J,ru⟩)⟩⟩
 |_=>cases e
noncomputable def bZ(lo:Int)(n:Nat):List D:=(J2 n).map λi=>.int (lo+(i:Nat))
theorem uc{lo:Int}{n:Nat}:gd K H1 (bZ lo n) (λ_=>True) (Itr lo n):=λM H st rm c i=>by
 have l:(bZ lo n).length=n:=by simp[bZ]
 refine⟨λhi=>by show n<=i;lia,λhi=>⟨by show i<n;lia,λx H' y=>?_⟩⟩
 obtain⟨e,y⟩:=y;subst e y;refine⟨.inl rfl,.int (lo+i),?_,TJ.mpr rfl⟩;simp only[bZ,Jj,Lr (show i<n by lia),N7]
noncomputable def mq(ta:TAd):TId:=λρ M R=>ta ρ M λds M1=>∃j:Int,ds=[.int j] /\ -(2^62)<=j/\j<2^62/\R (bZ 0 j.toNat) (λ_=>True) M1
noncomputable def mw(ta:TAd):TId:=λρ M R=>ta ρ M λds M1=>∃i j:Int,ds=[.int i,.int j]/\(-(2^62)<=i/\i<2^62 /\ -(2^62)<=j/\j<2^62)/\R (bZ i (j-i).toNat) (λ_=>True) M1
theorem ud{ta:TAd}(h:bj ta):cg (mq ta):=λρ M Q Q' i q=>h _ _ _ _ (λx F z=>(by obtain⟨j,e,a,b,B⟩:=z;exact⟨j,e,a,b,i _ _ _ B⟩)) q
theorem ue{ta:TAd}(h:bj ta):cg (mw ta):=λρ M Q Q' i q=>h _ _ _ _ (λx F z=>(by obtain⟨k,j,e,a,B⟩:=z;exact⟨k,j,e,a,i _ _ _ B⟩)) q
theorem zS{a:Expr}{ta:TAd}{p:Pos}(m:bj ta)(B:Gl X "range")(hm:X.mg "range"=Y)(F:PA X [a] (lA X.K ta))(hs:JJ [a] X.env=[(Ua,eval a X.env)]):PI X tg (.Call (.Name "range" p) [a] [] pos) (lI X.K (mq ta)):=by
 refine PI.imp (tE B hm F hs) λσ H R h=>?_;obtain⟨ρ,M,rs,rm,q⟩:=h;refine⟨ρ,M,rs,rm,m _ _ _ _ (λds U g9 vs H1 O z rd1=>?_) q⟩;obtain⟨j,e,G,J,L⟩:=g9;subst e;obtain⟨v,rfl,r⟩:=rd1.one
 cases TJ.mp r
 exact⟨j,rfl,G,J,L _ H1 O z uc⟩
theorem zT{a b:Expr}{ta:TAd}{p:Pos}(m:bj ta)(G:Gl X "range")(hm:X.mg "range"=Y)(J:PA X [a,b] (lA X.K ta))(hs:JJ [a,b] X.env=[(Ua,eval a X.env),(Ua,eval b X.env)])(B:JJ [b] X.env=[(Ua,eval b X.env)]):
 PI X tg (.Call (.Name "range" p) [a,b] [] pos) (lI X.K (mw ta)):=by
 refine PI.imp (tF G hm J hs B) λσ H R h=>?_;obtain⟨ρ,M,rs,rm,q⟩:=h;refine⟨ρ,M,rs,rm,m _ _ _ _ (λds fv g9 vs H1 O F rd1=>?_) q⟩;obtain⟨i,j,e,z,L⟩:=g9;subst e;obtain⟨v,u,rfl,U,F2⟩:=rd1.two
 cases TJ.mp U
 cases TJ.mp F2
 exact⟨i,j,rfl,z,L _ H1 O F uc⟩
end
end
variable{b:BT}{xs:List D}{pos':Pos}
section
section
variable{X:Cx}
noncomputable def isT:D->Bool|.tup _=>N2|_=>Ua
theorem eT(rm:RM K M H)(r:RD K H x v)(e:aR M x=Z ds):∃p vs,v=.ref p/\SqV K (isT x) H p vs/\RDs K H ds vs:=by
 cases x with
 |tup es=>
  cases e
  obtain⟨a,vs,rfl,j,rv⟩:=TR r;exact⟨a,vs,rfl,j,rv⟩
 |con es=>
  cases e
  obtain⟨a,vs,rfl,j,rv⟩:=TQ.mp r;exact⟨a,vs,rfl,j.sq,rv⟩
 |ref a=>
  cases TK.mp r
  simp only[aR]at e
  cases e0:M a with
  |none=>rw[e0]at e;cases e
  |some o=>
   rw[e0]at e
   cases o with
   |dct _ _=>cases e
   |fdc _=>cases e
   |dcn _=>cases e
   |fdn _=>cases e
   |lst es=>
    cases e
    obtain⟨vs,j,rv⟩:=rm _ _ e0;exact⟨a,vs,rfl,SqL.of j,rv⟩
 |_=>cases e
noncomputable def fH(x y:D):D:=.tup [x,y]
noncomputable def jZ(ta tb:TEd):TId:=λρ M R=>aN ta (aN tb bF) ρ M λds M1=>∃x y xs ys,ds=[x,y]/\aR M1 x=Z xs/\aR M1 y=Z ys/\R (MZ fH xs ys) (λM=>aR M x=Z xs/\aR M y=Z ys) M1
theorem wW{tb:TEd}(j:af ta)(z:af tb):cg (jZ ta tb):=λρ M Q Q' i q=>ax j (ax z az) _ _ _ _ (λds L B=>(by obtain⟨x,y,xs,ys,e,F,G,J⟩:=B;exact⟨x,y,xs,ys,e,F,G,i _ _ _ J⟩)) q
theorem nG{p:Ub}{o:HO}(n:H p=Y):Stab H (upd H p o):=⟨λa xs e=>by rw[am (λz=>by rw[z,n]at e;cases e)];exact e,λa o u e=>by rw[am (λz=>by rw[z,n]at e;cases e)];exact e⟩
theorem BO{y:D}{ys:List D}{b:Ub}(rx:RD K H1 x (.ref a))(ry:RD K H1 y (.ref b)):gd K H1 (MZ fH xs ys) (λM=>aR M x=Z xs/\aR M y=Z ys) (Itz K (isT x) (isT y) a b):=λM H st rm c i=>by
 obtain⟨F2,vs,L,j,G⟩:=eT rm (rx.mono st) c.1;obtain⟨p2,us,O,q,J⟩:=eT rm (ry.mono st) c.2
 cases L
 cases O
 have l1:=G.length;have l2:=J.length;have lz:(MZ fH xs ys).length=min xs.length ys.length:=OQ;refine⟨λhi=>⟨vs,us,j,q,∅⟩,λhi=>⟨⟨vs,us,vs[i]'∅,us[i]'∅,j,q,z4 ∅,z4 ∅⟩,λv H' U=>?_⟩⟩
 obtain⟨p,v1,v2,n,rfl,rfl,g⟩:=U;obtain⟨g1,g2⟩:=g vs us j q;obtain⟨d1,z,B⟩:=G.getV g1;obtain⟨d2,hd2,F⟩:=J.getV g2;have sb:=nG (o:=.tup [v1,v2]) n;refine⟨.inr ⟨p,[v1,v2],n,rfl⟩,.tup [d1,d2],?_,U0 ⟨p,[v1,v2],rfl,ay,RDs.cons (B.mono sb) (RDs.cons (F.mono sb) RDs.nil)⟩⟩;rw[Qv,z,hd2];rfl
theorem BP{elts:List Expr}{cx}{p:Pos}{a b:Expr}{tb:TEd}(ma:af ta)(mb:af tb)(G:Gl X "zip")(hm:X.mg "zip"=Y)(J:PA X [a,b] (lA X.K (aN ta (aN tb bF))))(hs:JJ [a,b] X.env=[(Ua,eval a X.env),(Ua,eval b X.env)])(z:JJ [b] X.env=[(Ua,eval b X.env)]):
 PI X (.Tuple elts cx pos) (.Call (.Name "zip" p) [a,b] [] pos') (lI X.K (jZ ta tb)):=by
 refine PI.imp (Br G hm J hs z) λσ H R h=>?_;obtain⟨ρ,M,rs,rm,q⟩:=h;refine⟨ρ,M,rs,rm,ax ma (ax mb az) _ _ _ _ (λds M1 g9 vs H1 F2 j rd1=>?_) q⟩;obtain⟨x,y,xs,ys,e,L,O,U⟩:=g9;subst e;obtain⟨v,u,rfl,B,F⟩:=rd1.two;obtain⟨fv,vs,rfl,s1,_⟩:=eT j B L;obtain⟨p2,us,rfl,s2,_⟩:=eT j F O;exact⟨fv,p2,isT x,isT y,vs,us,rfl,s1,s2,U _ H1 F2 j (BO B F)⟩
end
end
section
section
variable{X:Cx}
noncomputable def cD(xs:List D):List D:=xs.mapIdx λi x=>.tup [.int (i:Nat),x]
noncomputable def mz(ta:TEd):TId:=λρ M R=>ta ρ M λx M1=>∃xs,aR M1 x=Z xs/\R (cD xs) (λM=>aR M x=Z xs) M1
theorem uf(h:af ta):cg (mz ta):=λρ M Q Q' i q=>h _ _ _ _ (λx B j=>(by obtain⟨ds,e,z⟩:=j;exact⟨ds,e,i _ _ _ z⟩)) q
theorem BQ(rx:RD K H1 x (.ref a)):gd K H1 (cD xs) (λM=>aR M x=Z xs) (Ite K (isT x) a):=λM H st rm c i=>by
 obtain⟨J,vs,F,j,B⟩:=eT rm (rx.mono st) c
 cases F
 have l1:=B.length;have lz:(cD xs).length=xs.length:=by simp[cD]
 refine⟨λhi=>⟨vs,j,∅⟩,λhi=>⟨⟨vs,vs[i]'∅,j,z4 ∅⟩,λv H' G=>?_⟩⟩
 obtain⟨p,v1,n,rfl,rfl,g⟩:=G;obtain⟨d1,q,z⟩:=B.getV (g vs j);have sb:=nG (o:=.tup [.int (i:Nat),v1]) n;refine⟨.inr ⟨p,[.int (i:Nat),v1],n,rfl⟩,.tup [.int (i:Nat),d1],?_,U0 ⟨p,[.int (i:Nat),v1],rfl,ay,RDs.cons (TJ.mpr rfl) (RDs.cons (z.mono sb) RDs.nil)⟩⟩;simp[cD,Mw,q]
theorem zU{elts:List Expr}{cx}{p:Pos}{a:Expr}(ma:af ta)(B:Gl X "enumerate")(hm:X.mg "enumerate"=Y)(F:PA X [a] (lA X.K (aN ta bF)))(hs:JJ [a] X.env=[(Ua,eval a X.env)]):
 PI X (.Tuple elts cx pos) (.Call (.Name "enumerate" p) [a] [] pos') (lI X.K (mz ta)):=by
 refine PI.imp (zr B hm F hs) λσ H R h=>?_;obtain⟨ρ,M,rs,rm,q⟩:=h;refine⟨ρ,M,rs,rm,ma _ _ _ _ (λx U g9 vs H1 L j rd1=>?_) q⟩;obtain⟨xs,G,J⟩:=g9;obtain⟨v,rfl,z⟩:=rd1.one;obtain⟨O,us,rfl,s1,_⟩:=eT j z G;exact⟨O,isT x,us,rfl,s1,J _ H1 L j (BQ z)⟩
end
end
variable{te:TEd}{src:TId}
section
noncomputable abbrev NC:=ar->Mem->List D->Prop
noncomputable abbrev TCd:=ar->Mem->List D->NC->Prop
def ci(T:TCd):Prop:=∀ρ M acc N N',(∀ρ' M' acc',N ρ' M' acc'->N' ρ' M' acc')->T ρ M acc N->T ρ M acc N'
structure ExtP(p:Ub)(M:Mem)(H:Hp)(M':Mem)(H':Hp):Prop where
 kp:∀a o,a≠p->fz (M a)=N2->H a=Z o->H' a=Z o
 nw:∀a o,fz (M a)=N2->H a=Z o->M' a=M a
section
variable{K:Frag}{M M' M'':Mem}{H H' H'':Hp}{p:Ub}
theorem ExtP.new(x:ExtP p M H M' H')(a:Ub)(o:HO)(n:M a=Y)(e:H a=Z o):M' a=Y:=(x.nw a o (by rw[n];rfl) e).trans n
theorem Ext.toP(x:Ext M H M' H'):ExtP p M H M' H':=⟨λa o _=>x.kp a o,x.nw⟩
theorem ExtP.refl:ExtP p M H M H:=⟨λ_ _ _ _ h=>h,λ_ _ _ _=>rfl⟩
theorem ExtP.trans(a:ExtP p M H M' H')(q:H p=Z (.lst vs))(j:∃vs',H' p=Z (.lst vs'))(b:ExtP p M' H' M'' H''):ExtP p M H M'' H'':=
 ⟨fun c o ne n h=>b.kp c o ne (by rw[a.nw c o n h];exact n) (a.kp c o ne n h),fun c o n h=>by
  have n':fz (M' c)=N2:=by rw[a.nw c o n h];exact n
  refine Eq.trans ?_ (a.nw c o n h)
  by_cases z:c=p
  ·subst z;obtain⟨vs',e⟩:=j;exact b.nw c _ n' e
  ·exact b.nw c o n' (a.kp c o z n h)⟩
theorem ExtP.stab(r:RM K M H)(j:H p=Z (.lst vs))(x:ExtP p M H M' H'):Stab H H' where
 tup:=λa xs e=>x.kp a _ (λz=>by subst z;rw[j]at e;cases e) (by rw[r.fzT e];rfl) e
 frz:=λa o u e=>x.kp a _ (λz=>by subst z;rw[j]at e;cases e) (r.fzF e) e
theorem nH{ho:HO}(j:H p=Z (.lst vs)):Stab H (upd H p ho):=⟨λa xs e=>by rw[am (λz=>by subst z;rw[j]at e;cases e)];exact e,λa o u e=>by rw[am (λz=>by subst z;rw[j]at e;cases e)];exact e⟩
theorem RM.side{ho:HO}(r:RM K M H)(n:M p=Y)(j:H p=Z (.lst vs)):RM K M (upd H p ho):=λa o e=>by
 have ne:a≠p:=λz=>by subst z;rw[n]at e;cases e
 exact(r a o e).mono (nH j) λB q=>by rw[am ne];exact q
end
def gR(K:Frag)(H:Hp)(p:Ub)(acc:List D):Prop:=∃vs,H p=Z (.lst vs)/\RDs K H acc vs
noncomputable def KC(K:Frag)(p:Ub)(M:Mem)(H:Hp)(N:St->Hp->Prop):NC:=λρ' M' acc'=>∀σ' H',ExtP p M H M' H'->RS K H' σ' ρ'->RM K M' H'->gR K H' p acc'->N σ' H'
noncomputable def lC(K:Frag)(p:Ub)(T:TCd):TC:=λσ H N=>∃ρ M acc,RS K H σ ρ/\RM K M H/\M p=Y/\gR K H p acc/\T ρ M acc (KC K p M H N)
theorem KC.ext{p:Ub}{M2 M':Mem}{H2:Hp}{N:St->Hp->Prop}{ρ:ar}{acc:List D}(q:H p=Z (.lst vs))(j:∃vs',H2 p=Z (.lst vs'))(x:ExtP p M H M2 H2)(h:KC K p M H N ρ M' acc):KC K p M2 H2 N ρ M' acc:=λσ' H' y=>h σ' H' (x.trans q j y)
noncomputable def bJ(te:TEd):TCd:=λρ M acc N=>te ρ M λx M1=>acc.length<J9/\N ρ M1 (acc++[x])
noncomputable def bu:List TTd->TCd->TCd
 |[],tb=>tb
 |t::r,tb=>λρ M acc N=>t ρ M λb M1=>if b=N2 then bu r tb ρ M1 acc N else N ρ M1 acc
noncomputable def bf(b:BT)(tb:TCd)(chk:Mem->Prop)(N:NC):List D->NC
 |[]=>λρ M acc=>chk M/\N ρ M acc
 |x::xs=>λρ M acc=>chk M/\∃ρ',b x ρ=Z ρ'/\tb ρ' M acc (bf b tb chk N xs)
noncomputable def dE(src:TId)(b:BT)(tb:TCd):TCd:=λρ M acc N=>src ρ M λxs chk M1=>bf b tb chk N xs ρ M1 acc
noncomputable def gS(fr:List (Option Nat))(src:TId)(b:BT)(tb:TCd):TEd:=λρ M Q=>src ρ M λxs chk M1=>bf b tb chk (λ_ M' acc=>∀p,M' p=Y->Q (.ref p) (ah M' p (.lst acc))) xs (rE fr ρ) M1 []
theorem bM(h:af te):ci (bJ te):=λρ M acc N N' i q=>h _ _ _ _ (λx F j=>(by obtain⟨z,B⟩:=j;exact⟨z,i _ _ _ B⟩)) q
theorem aT{tb:TCd}(z:ci tb):∀{ts:List TTd},(∀t∈ts,aH t)->ci (bu ts tb)
 |[],_=>z
 |t::r,h=>fun ρ M acc N N' i q=>h t Je _ _ _ _ (fun b F j=>by
  cases b with
  |true=>rw[if_pos rfl]at j⊢;exact aT z (λt' B=>h t' (J3 _ B)) _ _ _ _ _ i j
  |false=>rw[if_neg Jg]at j⊢;exact i _ _ _ j) q
theorem gh{b:BT}{tb:TCd}(z:ci tb){chk:Mem->Prop}{N N':NC}(i:∀ρ' M' acc',N ρ' M' acc'->N' ρ' M' acc'):∀(xs:List D) (ρ:ar) (M:Mem) (acc:List D),bf b tb chk N xs ρ M acc->bf b tb chk N' xs ρ M acc
 |[],ρ,M,acc,h=>⟨h.1,i _ _ _ h.2⟩
 |x::xs,ρ,M,acc,⟨c,ρ',e,q⟩=>⟨c,ρ',e,z _ _ _ _ _ (λρ2 M2 j B=>gh z i xs ρ2 M2 j B) q⟩
theorem iA{tb:TCd}(hs:cg src)(j:ci tb):ci (dE src b tb):=λρ M acc N N' i q=>hs _ _ _ _ (λxs c B z=>gh j i xs _ _ _ z) q
theorem kX{fr:List (Option Nat)}{tb:TCd}(hs:cg src)(j:ci tb):af (gS fr src b tb):=λρ M Q Q' i q=>hs _ _ _ _ (λxs c F z=>gh j (λ_ M' acc B p n=>i _ _ (B p n)) xs _ _ _ z) q
section
variable{K:Frag}{p:Ub}
theorem gj(m:af te)(σ:St)(H:Hp)(N:St->Hp->Prop)(h:lC K p (bJ te) σ H N):yt p (lE K te) σ H N:=by
 obtain⟨ρ,M,acc,rs,rm,n,⟨vs,L,ra⟩,q⟩:=h;refine⟨ρ,M,rs,rm,m _ _ _ _ (λx F2 g9 v H1 F G J=>?_) q⟩;obtain⟨z,O⟩:=g9;have j:=F.keep p _ n L;have U:=F.new p _ n L;have st:=F.stab rm;have B:Stab H1 (upd H1 p (.lst (vs++[v]))):=nH j;refine⟨vs,j,by rw[ra.length];exact z,O σ _ ⟨λa o ne m' e=>?_,F.nw⟩ ((rs.mono st).mono B) (G.side U j) ⟨vs++[v],ay,((ra.mono st).mono B).append (RDs.cons (J.mono B) RDs.nil)⟩⟩
 rw[am ne];exact F.kp a o m' e
theorem jm{tb:TCd}(mb:ci tb):∀{ts:List TTd},(∀t∈ts,aH t)->∀(σ:St) (H:Hp) (N:St->Hp->Prop),lC K p (bu ts tb) σ H N->jc (ts.map (lT K)) (lC K p tb) σ H N
 |[],_,σ,H,N,h=>h
 |t::r,hm,σ,H,N,h=>by
  obtain⟨ρ,M,acc,rs,rm,n,⟨vs,G,ra⟩,q⟩:=h;refine⟨ρ,M,rs,rm,hm t Je _ _ _ _ (λb L F H1 z B=>?_) q⟩;have j:=z.keep p _ n G;have O:=z.new p _ n G;have st:=z.stab rm
  cases b with
  |false=>rw[if_neg Jg]at F;dsimp only;rw[if_neg Jg];exact F σ H1 z.toP (rs.mono st) B ⟨vs,j,ra.mono st⟩
  |true=>
   rw[if_pos rfl]at F;dsimp only;rw[if_pos rfl];exact jm mb (λt' J=>hm t' (J3 _ J)) σ H1 N ⟨ρ,L,acc,rs.mono st,B,O,⟨vs,j,ra.mono st⟩,
    aT mb (λt' J=>hm t' (J3 _ J)) _ _ _ _ _ (λρ' M' acc' k=>k.ext G ⟨vs,j⟩ z.toP) F⟩
theorem kY{tb:TCd}(mb:ci tb){chk:Mem->Prop}{J:It}{B:Mem}{Nd:NC}{N:St->Hp->Prop}{σ:St}{ρ:ar}{acc:List D}(it:gd K H1 xs chk J)(rs:RS K H1 σ ρ)(rm:RM K B H1)(n:B p=Y)(ac:gR K H1 p acc)(q:bf b tb chk Nd xs ρ B acc)(hN:∀ρ' M' acc' σ' H',ExtP p B H1 M' H'->RS K H' σ' ρ'->RM K M' H'->gR K H' p acc'->Nd ρ' M' acc'->N σ' H'):
 cA J (lG K b) (lC K p tb) N σ H1:=by
 obtain⟨GA,F,_⟩:=id ac;refine⟨λi m σ H=>m=xs.length-i/\i<=xs.length/\∃ρ M acc,RS K H σ ρ/\RM K M H/\M p=Y/\gR K H p acc/\ExtP p B H1 M H/\bf b tb chk Nd (xs.drop i) ρ M acc,⟨xs.length,by simp,Ku _,ρ,B,acc,rs,rm,n,ac,ExtP.refl,q⟩,?_⟩
 rintro i m σ H ⟨rfl,hi,ρ,M,acc,rs,j,n,ac,x,q⟩;have st:=x.stab rm F;obtain⟨vs,hp,ra⟩:=id ac
 by_cases z:i<xs.length
 ·rw[KG z]at q;obtain⟨c,ρ',hb,q⟩:=q;obtain⟨go,yl⟩:=(it M H st j c i).2 z;refine .inr ⟨go,λσ' H'=>∃m',m'<xs.length-i/\(m'=xs.length-(i+1)/\i+1<=xs.length/\∃ρ M acc,RS K H' σ' ρ/\RM K M H'/\M p=Y/\gR K H' p acc/\ExtP p B H1 M H'/\bf b tb chk Nd (xs.drop (i+1)) ρ M acc),λσ' H' h=>h,λx' H' y=>?_⟩;obtain⟨yy,d,hd,rd⟩:=yl x' H' y;rw[z4 z]at hd
  cases hd
  obtain⟨xy,rmy⟩:=yy.ext j;have sty:=xy.stab j;have G:=xy.keep p _ n hp;refine⟨_,ρ,ρ',rd,rs.mono sty,hb,λσ2 O=>?_⟩;refine⟨ρ',M,acc,O,rmy,n,⟨vs,G,ra.mono sty⟩,mb _ _ _ _ _ (λρ3 M3 L q3 σ3 H3 x3 U F2 fv=>?_) q⟩;have n3:M3 p=Y:=x3.new p _ n G;exact⟨xs.length-(i+1),∅,rfl,z,ρ3,M3,L,U,F2,n3,fv,(x.trans F ⟨vs,hp⟩ xy.toP).trans F ⟨vs,G⟩ x3,q3⟩
 ·have e:i=xs.length:=by lia
  subst e;rw[Q0]at q;exact .inl ⟨(it M H st j q.1 _).1 (J6 _),hN ρ M acc σ H x rs j ac q.2⟩
theorem iB{tb:TCd}(ms:cg src)(mb:ci tb)(σ:St)(H:Hp)(N:St->Hp->Prop)(h:lC K p (dE src b tb) σ H N):(lI K src) σ H λJ H1=>cA J (lG K b) (lC K p tb) N σ H1:=by obtain⟨ρ,M,acc,rs,rm,n,⟨vs,B,ra⟩,q⟩:=h;refine⟨ρ,M,rs,rm,ms _ _ _ _ (λxs chk O G J H1 z F it=>?_) q⟩;have j:=z.keep p _ n B;have L:=z.new p _ n B;have st:=z.stab rm;exact kY mb it (rs.mono st) F L ⟨vs,j,ra.mono st⟩ G λρ' M' acc' σ' H' x2 rs' rm' ac' k=>k σ' H' (z.toP.trans B ⟨vs,j⟩ x2) rs' rm' ac'
theorem eF{fr:List (Option Nat)}{tb:TCd}(ms:cg src)(mb:ci tb)(σ:St)(H:Hp)(Q:VK)(h:lE K (gS fr src b tb) σ H Q):rC (lI K src) (lG K b) (λp=>lC K p tb) fr σ H Q:=by
 obtain⟨ρ,M,rs,rm,q⟩:=h;refine⟨ρ,M,rs,rm,ms _ _ _ _ (λxs chk G U J H1 F j it p n=>?_) q⟩;have st:=F.stab rm;have xn:Ext G H1 G (upd H1 p (.lst [])):=TZ n;have stn:=xn.stab j;have O:G p=Y:=j.out n;refine kY (p:=p) mb (xs:=xs) (chk:=chk) (λM' H' st'=>it M' H' ⟨λa xs e=>st'.tup _ _ (stn.tup _ _ e),λa o u e=>st'.frz _ _ _ (stn.frz _ _ _ e)⟩) (((rs.mono st).mono stn).inh fr) (j.new n) O ⟨[],ay,RDs.nil⟩ U λρ' M' acc' σ' H' L rs' rm' ac' k=>?_;obtain⟨vs,F2,ra⟩:=ac';have n':M' p=Y:=L.new p _ O ay;refine k p n' (.ref p) H' ⟨λa o m e=>?_,λa o m e=>?_⟩ (λa o e=>?_) (TK.mpr rfl)
 ·have B:=F.kp a o m e;have ne:a≠p:=λz=>by subst z;rw[n]at B;cases B
  exact L.kp a o ne (by rw[F.nw a o m e];exact m) (by rw[am ne];exact B)
 ·have B:=F.kp a o m e;have ne:a≠p:=λz=>by subst z;rw[n]at B;cases B
  rw[au ne];exact(L.nw a o (by rw[F.nw a o m e];exact m) (by rw[am ne];exact B)).trans (F.nw a o m e)
 ·by_cases z:a=p
  ·subst z;rw[aa]at e;cases e;exact⟨vs,F2,ra⟩
  ·rw[au z]at e;exact rm' a o e
end
end
variable{u:TSd}{c:TTd}
section
noncomputable def jn:TSd:=λD ρ M=>D.nx ρ M
noncomputable def wX(t u:TSd):TSd:=λD ρ M=>t {D with nx:=u D} ρ M
noncomputable def jo:TSd:=λD ρ M=>D.bk ρ M
noncomputable def mC:TSd:=λD ρ M=>D.ct ρ M
noncomputable def mD(te:TEd):TSd:=λD ρ M=>te ρ M λ_ M1=>D.nx ρ M1
noncomputable def rR(te:TEd):TSd:=λD ρ M=>te ρ M D.rt
noncomputable def sIf(c:TTd)(t u:TSd):TSd:=λD ρ M=>c ρ M λb M1=>if b=N2 then t D ρ M1 else u D ρ M1
noncomputable def kc(te:TEd)(b:BT):TSd:=λD ρ M=>te ρ M λx M1=>∃ρ',b x ρ=Z ρ'/\D.nx ρ' M1
noncomputable def rS(ta:TAd)(bs:BTs):TSd:=λD ρ M=>ta ρ M λxs M1=>∃ρ',bs xs ρ=Z ρ'/\D.nx ρ' M1
noncomputable def bO(b:BT)(tb:TSd)(chk:Mem->Prop)(D:bv):List Mi.D->ar->Mem->Prop
 |[]=>λρ M=>chk M/\D.nx ρ M
 |x::xs=>λρ M=>chk M/\∃ρ',b x ρ=Z ρ'/\tb {D with nx:=bO b tb chk D xs,ct:=bO b tb chk D xs,bk:=D.nx} ρ' M
noncomputable def rT(src:TId)(b:BT)(tb:TSd):TSd:=λD ρ M=>src ρ M λxs chk M1=>bO b tb chk D xs ρ M1
noncomputable def aS(c:TTd)(tb:TSd)(D:bv):Nat->ar->Mem->Prop
 |0=>λ_ _=>False
 |n+1=>λρ M=>c ρ M λb M1=>if b=N2 then tb {D with nx:=aS c tb D n,ct:=aS c tb D n,bk:=D.nx} ρ M1 else D.nx ρ M1
noncomputable def jq(c:TTd)(tb:TSd):TSd:=λD ρ M=>∃n,aS c tb D n ρ M
theorem kZ:aI jn:=λ_ _ _ _ h q=>h.nx _ _ q
theorem rV:aI jo:=λ_ _ _ _ h q=>h.bk _ _ q
theorem ug:aI mC:=λ_ _ _ _ h q=>h.ct _ _ q
theorem uh{t:TSd}(j:aI t)(z:aI u):aI (wX t u):=λa b ρ M h q=>j {a with nx:=u a} {b with nx:=u b} _ _ ⟨λρ' M' q'=>z _ _ _ _ h q',h.rt,h.bk,h.ct⟩ q
theorem ui(h:af te):aI (mD te):=λa b ρ M i q=>h _ _ _ _ (λ_ z j=>i.nx _ _ j) q
theorem wY(h:af te):aI (rR te):=λa b ρ M i q=>h _ _ _ _ (λd z j=>i.rt _ _ j) q
theorem wZ{t:TSd}(z:aH c)(B:aI t)(F:aI u):aI (sIf c t u):=λa b ρ M i q=>z _ _ _ _ (λk G j=>by
 cases k with
 |true=>rw[if_pos rfl]at j⊢;exact B _ _ _ _ i j
 |false=>rw[if_neg Jg]at j⊢;exact F _ _ _ _ i j) q
theorem xc{bt:BT}(h:af te):aI (kc te bt):=λa b ρ M i q=>h _ _ _ _ (λd B j=>(by obtain⟨ρ',e,z⟩:=j;exact⟨ρ',e,i.nx _ _ z⟩)) q
theorem xf{ta:TAd}{bs:BTs}(h:bj ta):aI (rS ta bs):=λa b ρ M i q=>h _ _ _ _ (λd B j=>(by obtain⟨ρ',e,z⟩:=j;exact⟨ρ',e,i.nx _ _ z⟩)) q
theorem gk{bt:BT}{tb:TSd}(j:aI tb){chk:Mem->Prop}{a b:bv}(i:LeD a b):∀(xs:List D) (ρ:ar) (M:Mem),bO bt tb chk a xs ρ M->bO bt tb chk b xs ρ M
 |[],ρ,M,h=>⟨h.1,i.nx _ _ h.2⟩
 |x::xs,ρ,M,⟨c,ρ',e,q⟩=>⟨c,ρ',e,j {a with nx:=bO bt tb chk a xs,ct:=bO bt tb chk a xs,bk:=a.nx} {b with nx:=bO bt tb chk b xs,ct:=bO bt tb chk b xs,bk:=b.nx} _ _ ⟨λρ2 M2 z=>gk j i xs ρ2 M2 z,i.rt,i.nx,λρ2 M2 z=>gk j i xs ρ2 M2 z⟩ q⟩
theorem xg{bt:BT}{tb:TSd}(hs:cg src)(j:aI tb):aI (rT src bt tb):=λa b ρ M i q=>hs _ _ _ _ (λxs c B z=>gk j i xs _ _ z) q
theorem eO{c:TTd}{tb:TSd}(q:aH c)(z:aI tb){a b:bv}(i:LeD a b):∀(n:Nat) (ρ:ar) (M:Mem),aS c tb a n ρ M->aS c tb b n ρ M
 |0,ρ,M,h=>h
 |n+1,ρ,M,h=>q _ _ _ _ (fun k F j=>by
  cases k with
  |true=>rw[if_pos rfl]at j⊢;exact z {a with nx:=aS c tb a n,ct:=aS c tb a n,bk:=a.nx} {b with nx:=aS c tb b n,ct:=aS c tb b n,bk:=b.nx} _ _ ⟨λρ2 M2 B=>eO q z i n ρ2 M2 B,i.rt,i.nx,λρ2 M2 B=>eO q z i n ρ2 M2 B⟩ j
  |false=>rw[if_neg Jg]at j⊢;exact i.nx _ _ j) h
theorem rW{tb:TSd}(j:aH c)(z:aI tb):aI (jq c tb):=λa b ρ M i g9=>(by obtain⟨n,q⟩:=g9;exact⟨n,eO j z i n _ _ q⟩)
section
variable{K:Frag}
theorem lc(D:bN)(σ:St)(H:Hp)(h:lS K jn D σ H):qZ D σ H:=by obtain⟨ρ,M,A,rs,rm,l,q⟩:=h;exact l.nx ρ M σ H Ext.refl rs rm q
theorem rX(D:bN)(σ:St)(H:Hp)(h:lS K jo D σ H):tu D σ H:=by obtain⟨ρ,M,A,rs,rm,l,q⟩:=h;exact l.bk ρ M σ H Ext.refl rs rm q
theorem uj(D:bN)(σ:St)(H:Hp)(h:lS K mC D σ H):yg D σ H:=by obtain⟨ρ,M,A,rs,rm,l,q⟩:=h;exact l.ct ρ M σ H Ext.refl rs rm q
theorem xh{t:TSd}(mt:aI t)(mu:aI u)(D:bN)(σ:St)(H:Hp)(h:lS K (wX t u) D σ H):AY (lS K t) (lS K u) D σ H:=by obtain⟨ρ,M,A,rs,rm,l,q⟩:=h;exact⟨ρ,M,{A with nx:=u A},rs,rm,⟨λρ' M' σ' H' x rs' rm' q'=>⟨ρ',M',A,rs',rm',l.ext x,q'⟩,l.rt,l.bk,l.ct⟩,q⟩
theorem uk(m:af te)(D:bN)(σ:St)(H:Hp)(h:lS K (mD te) D σ H):yh (lE K te) D σ H:=by obtain⟨ρ,M,A,rs,rm,l,q⟩:=h;exact⟨ρ,M,rs,rm,m _ _ _ _ (λd B F v H1 z j G=>l.nx ρ B σ H1 z (rs.mono (z.stab rm)) j F) q⟩
theorem xi(m:af te)(D:bN)(σ:St)(H:Hp)(h:lS K (rR te) D σ H):AZ (lE K te) D σ H:=by obtain⟨ρ,M,A,rs,rm,l,q⟩:=h;exact⟨ρ,M,rs,rm,m _ _ _ _ (λd B F v H1 G j z=>l.rt d B v H1 G j z F) q⟩
theorem zV{t:TSd}(mc:aH c)(D:bN)(σ:St)(H:Hp)(h:lS K (sIf c t u) D σ H):B1 (lT K c) (lS K t) (lS K u) D σ H:=by
 obtain⟨ρ,M,A,rs,rm,l,q⟩:=h;refine⟨ρ,M,rs,rm,mc _ _ _ _ (λk F z H1 B j=>?_) q⟩
 cases k with
 |true=>rw[if_pos rfl]at z⊢;exact⟨ρ,F,A,rs.mono (B.stab rm),j,l.ext B,z⟩
 |false=>rw[if_neg Jg]at z⊢;exact⟨ρ,F,A,rs.mono (B.stab rm),j,l.ext B,z⟩
theorem xj(m:af te)(D:bN)(σ:St)(H:Hp)(h:lS K (kc te b) D σ H):r8 (lE K te) (lG K b) D σ H:=by obtain⟨ρ,M,A,rs,rm,l,q⟩:=h;refine⟨ρ,M,rs,rm,m _ _ _ _ (λd F g9 v H1 B j z=>?_) q⟩;obtain⟨ρ',e,G⟩:=g9;exact⟨d,ρ,ρ',z,rs.mono (B.stab rm),e,λσ' rs'=>l.nx ρ' F σ' H1 B rs' j G⟩
theorem lf(m:af te)(D:bN)(σ:St)(H:Hp)(h:lS K (kc te (be i)) D σ H):r8 (lE K te) (j5 i) D σ H:=by
 obtain⟨ρ,M,A,rs,rm,l,q⟩:=h;refine⟨ρ,M,rs,rm,m _ _ _ _ (λd z g9 v H1 j rm1 rd1=>?_) q⟩;obtain⟨ρ',e,B⟩:=g9
 cases e
 exact l.nx _ z _ H1 j ((rs.mono (j.stab rm)).set i rd1) rm1 B
theorem xk{tb:TSd}(ms:cg src)(mb:aI tb)(D:bN)(σ:St)(H:Hp)(h:lS K (rT src b tb) D σ H):B7 (lI K src) (lG K b) (lS K tb) D σ H:=by
 obtain⟨ρ,M,A,rs,rm,l,q⟩:=h;refine⟨ρ,M,rs,rm,ms _ _ _ _ (λxs chk M1 q1 J H1 x1 G it=>?_) q⟩;refine⟨λi m σ H'=>m=xs.length-i/\i<=xs.length/\∃ρ M2,RS K H' σ ρ/\RM K M2 H'/\Ext M1 H1 M2 H'/\bO b tb chk A (xs.drop i) ρ M2,⟨xs.length,by simp,Ku _,ρ,M1,rs.mono (x1.stab rm),G,Ext.refl,q1⟩,?_⟩
 rintro i m σ2 H2 ⟨rfl,hi,ρ2,M2,L,j,x2,O⟩;have U:=x2.stab G
 by_cases B:i<xs.length
 ·rw[KG B]at O;obtain⟨c,ρ',hb,q3⟩:=O;obtain⟨go,yl⟩:=(it M2 H2 U j c i).2 B;refine .inr ⟨go,λσ' H'=>∃m',m'<xs.length-i/\(m'=xs.length-(i+1)/\i+1<=xs.length/\∃ρ M,RS K H' σ' ρ/\RM K M H'/\Ext M1 H1 M H'/\bO b tb chk A (xs.drop (i+1)) ρ M),λσ' H' h=>h,λx' H' y=>?_⟩;obtain⟨yy,d,hd,rd⟩:=yl x' H' y;rw[z4 B]at hd
  cases hd
  obtain⟨xy,rmy⟩:=yy.ext j;have F2:=x1.trans (x2.trans xy);refine⟨_,ρ2,ρ',rd,L.mono (xy.stab j),hb,λσ3 GA=>?_⟩;have nx:∀ρ5 F σ5 z,Ext M2 H' F z->RS K z σ5 ρ5->RM K F z->bO b tb chk A (xs.drop (i+1)) ρ5 F->∃m',m'<xs.length-i/\(m'=xs.length-(i+1)/\i+1<=xs.length/\∃ρ M,RS K z σ5 ρ/\RM K M z/\Ext M1 H1 M z/\bO b tb chk A (xs.drop (i+1)) ρ M):=λρ5 F σ5 z fv GB GC q5=>⟨xs.length-(i+1),∅,rfl,B,ρ5,F,GB,GC,(x2.trans xy).trans fv,q5⟩
  refine⟨ρ',M2,{A with nx:=bO b tb chk A (xs.drop (i+1)),ct:=bO b tb chk A (xs.drop (i+1)),bk:=A.nx},GA,rmy,⟨nx,λd F v z fv=>l.rt d F v z (F2.trans fv),λρ5 F σ5 z fv=>l.nx ρ5 F σ5 z (F2.trans fv),nx⟩,q3⟩
 ·have e:i=xs.length:=by lia
  subst e;rw[Q0]at O;exact .inl ⟨(it M2 H2 U j O.1 _).1 (J6 _),l.nx ρ2 M2 σ2 H2 (x1.trans x2) L j O.2⟩
theorem rY{tb:TSd}(mc:aH c)(mb:aI tb)(D:bN)(σ:St)(H:Hp)(h:lS K (jq c tb) D σ H):tz (lT K c) (lS K tb) D σ H:=by
 obtain⟨ρ,M,A,rs,rm,l,n,q⟩:=h;refine⟨λm σ' H'=>∃ρ' M',RS K H' σ' ρ'/\RM K M' H'/\Ext M H M' H'/\aS c tb A m ρ' M',⟨n,ρ,M,rs,rm,Ext.refl,q⟩,?_⟩;rintro m σ1 H1 ⟨ρ1,M1,J,L,x1,q1⟩
 cases m with
 |zero=>exact q1.elim
 |succ m=>
  refine⟨ρ1,M1,J,L,mc _ _ _ _ (λk M2 fv H2 x2 O=>?_) q1⟩;have j:=x1.trans x2;have U:=J.mono (x2.stab L)
  cases k with
  |false=>rw[if_neg Jg]at fv;dsimp only;rw[if_neg Jg];exact l.nx ρ1 M2 σ1 H2 j U O fv
  |true=>
   rw[if_pos rfl]at fv;dsimp only;rw[if_pos rfl];refine⟨λσ' H'=>∃ρ' M',RS K H' σ' ρ'/\RM K M' H'/\Ext M H M' H'/\aS c tb A m ρ' M',λσ' H' h=>⟨m,Nat.lt_succ_self m,h⟩,ρ1,M2,{A with nx:=aS c tb A m,ct:=aS c tb A m,bk:=A.nx},U,O,⟨?_,λd z v F2 B=>l.rt d z v F2 (j.trans B),λρ5 z σ5 F2 B=>l.nx ρ5 z σ5 F2 (j.trans B),?_⟩,fv⟩
   ·exactλρ5 z σ5 F2 B F G q5=>⟨ρ5,z,F,G,j.trans B,q5⟩
   ·exactλρ5 z σ5 F2 B F G q5=>⟨ρ5,z,F,G,j.trans B,q5⟩
end
noncomputable def gT:D->D->D->Mem->(Mem->Prop)->Prop:=λo i v M Q=>∃a,o=.ref a /\
 ((∃xs k j,i=.int k/\M a=Z (.lst xs)/\ixN xs.length k=Z j/\Q (ah M a (.lst (xs.set j v)))) ∨
  ∃t kvs,M a=Z (.dct t kvs)/\fC t i=N2/\kvs.length<J9/\Q (ah M a (.dct t (bX kvs i v))))
noncomputable def rZ(te to ti:TEd):TSd:=λD ρ M=>te ρ M λv M1=>to ρ M1 λo M2=>ti ρ M2 λi M3=>gT o i v M3 λM4=>D.nx ρ M4
theorem um{o i v:D}{Q Q':Mem->Prop}(h:∀M',Q M'->Q' M')(q:gT o i v M Q):gT o i v M Q':=by
 obtain⟨a,e,⟨xs,k,j,z,B,F,q⟩|⟨t,kvs,z,B,F,q⟩⟩:=q
 ·exact⟨a,e,.inl ⟨xs,k,j,z,B,F,h _ q⟩⟩
 ·exact⟨a,e,.inr ⟨t,kvs,z,B,F,h _ q⟩⟩
theorem xm{ti:TEd}(he:af te)(ho:af to)(hi:af ti):aI (rZ te to ti):=λa b ρ M i q=>he _ _ _ _ (λv F j=>ho _ _ _ _ (λo M2 z=>hi _ _ _ _ (λk G B=>um (λM' q'=>i.nx _ _ q') B) z) j) q
section
variable{X:Cx}{K:Frag}
theorem xo(j:X.A.units+1<LF):PSet X (λo i v H Q=>∃a H',o=.ref a/\DPut H a i v H'/\Q H'):=by
 intro pins s σ H o i v ov iv u Q I ro ri rv h;obtain⟨a,H',rfl,g,q⟩:=h
 cases ro
 exact tQ j I g ri rv λs' I'=>⟨H',I',q⟩
theorem PSet.or{t t':r6}(h:PSet X t)(h':PSet X t'):PSet X (λo i v H Q=>t o i v H Q∨t' o i v H Q):=by
 intro pins s σ H o i v ov iv u Q I ro ri rv q
 rcases q with q|q
 ·exact h pins s σ H o i v ov iv u Q I ro ri rv q
 ·exact h' pins s σ H o i v ov iv u Q I ro ri rv q
section
variable{κ:Type}[DecidableEq κ]{H:Hp}{RK:D->κ->Prop}(inj:∀{d e:D} {k:κ},RK d k->RK e k->d=e)(fn:∀{d:D} {k k':κ},RK d k->RK d k'->k=k')
include inj fn
theorem ql{k:D}{q:κ}(j:RK k q):∀{kvs:List (D×D)} {ps:List (κ×V)},JX (λp r=>RK p.1 r.1/\RD K H p.2 r.2) kvs ps->
 (kvs.any λp=>decide (p.1=k))=(ps.any λp=>decide (p.1=q))
 |_,_,.nil=>rfl
 |_,_,.cons (a:=p) (b:=r) hr t=>by
  rw[Nf,Nf,ql j t];congr 1
  by_cases e:p.1=k
  ·have e':r.1=q:=by have h1:=hr.1;rw[e]at h1;exact fn h1 j
   rw[decide_eq_true e,decide_eq_true e']
  ·have e':¬r.1=q:=λz=>e (by have h1:=hr.1;rw[z]at h1;exact inj h1 j)
   rw[decide_eq_false e,decide_eq_false e']
theorem qm{k:D}{q:κ}(B:RK k q){d:D}{v:V}(F:RD K H d v):∀{kvs:List (D×D)} {ps:List (κ×V)},JX (λp r=>RK p.1 r.1/\RD K H p.2 r.2) kvs ps->
 JX (λp r=>RK p.1 r.1/\RD K H p.2 r.2) (kvs.map λp=>if p.1=k then(p.1,d)else p) (ps.map λp=>if p.1=q then(p.1,v)else p)
 |_,_,.nil=>.nil
 |_,_,.cons (a:=p) (b:=r) j t=>by
  refine .cons ?_ (qm B F t)
  by_cases e:p.1=k
  ·have e':r.1=q:=by have h1:=j.1;rw[e]at h1;exact fn h1 B
   dsimp only;rw[if_pos e,if_pos e'];exact⟨j.1,F⟩
  ·have e':¬r.1=q:=λz=>e (by have h1:=j.1;rw[z]at h1;exact inj h1 B)
   dsimp only;rw[if_neg e,if_neg e'];exact j
theorem iI{k:D}{q:κ}(j:RK k q)(z:RD K H d v){ps:List (κ×V)}(r:JX (λp r=>RK p.1 r.1/\RD K H p.2 r.2) kvs ps):
 JX (λp r=>RK p.1 r.1/\RD K H p.2 r.2) (bX kvs k d) (bA ps q v):=by
 unfold bX bA;rw[ql (K:=K) (H:=H) (RK:=RK) inj fn j r]
 by_cases e:(ps.any λp=>decide (p.1=q))=N2
 ·rw[if_pos e,if_pos e];exact qm (RK:=RK) inj fn j z r
 ·rw[if_neg e,if_neg e];exact r.snoc ⟨j,z⟩
end
theorem xp{o i v:D}{ov iv vv:V}{Qd:Mem->Prop}{Q:Hp->Prop}(rm:RM K M H)(ro:RD K H o ov)(ri:RD K H i iv)(rv:RD K H v vv)(h:gT o i v M Qd)(O:∀M' H',Ext M H M' H'->RM K M' H'->Qd M'->Q H'):
 yo ov iv vv H Q∨∃a H',ov=.ref a/\DPut H a iv vv H'/\Q H':=by
 obtain⟨a,rfl,⟨xs,k,j,rfl,B,L,q⟩|⟨t,kvs,F,B,L,q⟩⟩:=h
 ·cases TK.mp ro
  cases TJ.mp ri
  obtain⟨vs,fv,rs⟩:=rm _ _ B;have st:Stab H (upd H a (.lst (vs.set j vv))):=rm.stabPut B;exact .inl ⟨a,vs,k,j,rfl,rfl,fv,by rw[rs.length];exact L,O _ _ (Ext.put B) (rm.put (o:=.lst (xs.set j v)) B ⟨_,ay,(rs.set j rv).mono st⟩) q⟩
 ·cases TK.mp ro
  have ro':=rm _ _ F
  cases t with
  |false=>obtain⟨ps,U,pr⟩:=ro';obtain⟨kq,J⟩:=ng (show dq i=N2 from B);have st:Stab H (upd H a (.dK (bA ps kq vv))):=rm.stabPut F;have G:=iI (RK:=RKey) RKey.inj RKey.fun J rv pr;rw[jV J ri];refine .inr ⟨a,_,rfl,DPut.k U (by rw[<-Lj pr];exact L),O _ _ (Ext.put F) (rm.put (o:=.dct Ua (bX kvs i v)) F ⟨_,ay,TN G λ_ _ z=>⟨z.1,z.2.mono st⟩⟩) q⟩
  |true=>
   obtain⟨ps,U,pr⟩:=ro';obtain⟨kq,J⟩:=gK (show bK i=N2 from B);have st:Stab H (upd H a (.dT (bA ps kq vv))):=rm.stabPut F;have G:=iI (RK:=RKeys) RKeys.inj RKeys.fun J rv pr
   cases i<;>first
    |exact J.elim
    | (obtain⟨b,us,rfl,F2,ru⟩:=U2 (gL B) ri
       rw[dU J ru]at F2;exact .inr ⟨a,_,rfl,DPut.t U F2 (by rw[<-Lj pr];exact L),O _ _ (Ext.put F) (rm.put (o:=.dct N2 (bX kvs _ v)) F ⟨_,ay,TN G λ_ _ z=>⟨z.1,z.2.mono st⟩⟩) q⟩)
theorem BR {o i:Expr}{ti:TEd}{tpos:Pos}(hu:X.A.units+1<LF)(me:af te)(mo:af to)(mi:af ti)(he:PE X e (lE X.K te))(ho:PE X o (lE X.K to))(hi:PE X i (lE X.K ti))(hs:Ny [.Subscript o i tpos] e pos.line X.env=pure Ua)(hw:My [.Subscript o i tpos] e X.env=pure Y)(ha:∀v,assign (.Subscript o i tpos) X.env v=(do
   let ov <-holding [v] (eval o X.env)
   let iv <-holding [v,ov] (eval i X.env)
   Pt tpos
   holding [v,ov,iv] (setItem ov iv v)
   release [v,ov,iv] [])):PS X (.Assign [.Subscript o i tpos] e pos) (lS X.K (rZ te to ti)):=by
 refine PS.imp (tw he (B3 ho hi (PSet.or wd (xo hu)) ha) hs hw rfl) λD σ H h=>?_;obtain⟨ρ,M,A,rs,rm,l,q⟩:=h;refine⟨ρ,M,rs,rm,me _ _ _ _ (λv M1 q1 vv H1 F j G=>?_) q⟩;refine⟨ρ,M1,rs.mono (F.stab rm),j,mo _ _ _ _ (λov M2 q2 vo H2 J z L=>?_) q1⟩;refine⟨ρ,M2,(rs.mono (F.stab rm)).mono (J.stab j),z,mi _ _ _ _ (λiv M3 q3 vi H3 O U F2=>?_) q2⟩;have B:=F.trans (J.trans O);exact xp U (L.mono (O.stab z)) F2 ((G.mono (J.stab j)).mono (O.stab z)) q3 λM' H' x4 fv q4=>l.nx ρ M' σ H' (B.trans x4) (rs.mono ((B.trans x4).stab rm)) fv q4
noncomputable def jr:R2d
 |.int i,.int j,M,Q=>Q (.int (i+j)) M
 |_,_,_,_=>False
noncomputable def jt:R2d
 |.int i,.int j,M,Q=>Q (.int (i-j)) M
 |_,_,_,_=>False
noncomputable def ju:R2d
 |.int i,.int j,M,Q=>MulOk i j/\Q (.int (i*j)) M
 |_,_,_,_=>False
theorem lg:aJ jr:=by
 intro x y M Q Q' h q
 cases x<;>cases y<;>first|exact q.elim|exact h _ _ q
theorem lh:aJ jt:=by
 intro x y M Q Q' h q
 cases x<;>cases y<;>first|exact q.elim|exact h _ _ q
theorem lj:aJ ju:=by
 intro x y M Q Q' h q
 cases x<;>cases y<;>first|exact q.elim|exact⟨q.1,h _ _ q.2⟩
theorem uo:OpR X (NM .Add) (l2 X.K jr):=by
 refine OpR.of zd λv u H Q h=>?_;obtain⟨x,y,M,rm,rx,ry,q⟩:=h
 cases x<;>cases y<;>first
  |exact q.elim
  |(cases TJ.mp rx;cases TJ.mp ry;exact⟨_,_,rfl,rfl,q _ H Ext.refl rm (TJ.mpr rfl)⟩)
theorem uq:OpR X (NM .Sub) (l2 X.K jt):=by
 refine OpR.of ze λv u H Q h=>?_;obtain⟨x,y,M,rm,rx,ry,q⟩:=h
 cases x<;>cases y<;>first
  |exact q.elim
  |(cases TJ.mp rx;cases TJ.mp ry;exact⟨_,_,rfl,rfl,q _ H Ext.refl rm (TJ.mpr rfl)⟩)
theorem ut:OpR X (NM .Mult) (rI MulOk λi j=>.int (i*j)):=opI λ_ _ _ _ _ _ _ z q=>imul_int q z.ok
theorem uu:OpR X (NM .Mult) (l2 X.K ju):=by
 refine OpR.of ut λv u H Q h=>?_;obtain⟨x,y,M,rm,rx,ry,q⟩:=h
 cases x<;>cases y<;>first
  |exact q.elim
  |(cases TJ.mp rx;cases TJ.mp ry;exact⟨_,_,rfl,rfl,q.1,q.2 _ H Ext.refl rm (TJ.mpr rfl)⟩)
noncomputable def s9(i:Nat)(rd:R2d)(te:TEd):TSd:=λD ρ M=>∃x,ρ[i]?=Z (Z x)/\te ρ M λy M1=>rd x y M1 λz M2=>D.nx (ρ.set i (Z z)) M2
theorem xq{rd:R2d}(j:aJ rd)(he:af te):aI (s9 i rd te):=λa b ρ M l g9=>(by obtain⟨x,e,q⟩:=g9;exact⟨x,e,he _ _ _ _ (λy G B=>j _ _ _ _ _ (λz M2 F=>l.nx _ _ F) B) q⟩)
theorem nI{x:Str}{op:NQ}{rd:R2d}(U:X.N.Nodup)(hi:X.N[i]?=Z x)(hx:Loc X.env.scope x)(he:PE X e (lE X.K te))(ho:OpR X (NM op) (l2 X.K rd))(F2:aJ rd)(me:af te)(hf:X.fn x=N2∨X.env.scope.names.lookup x=Z .local):PS X (.AugAssign (.Name x pos') op e pos) (lS X.K (s9 i rd te)):=by refine PS.imp (B6 U hi hx he (ti:=l2 X.K rd) ho hf) λD σ H h=>?_;obtain⟨ρ,M,A,rs,rm,l,d,e,q⟩:=h;obtain⟨v,fv,j⟩:=rs.2 i d e;refine⟨v,fv,ρ,M,rs,rm,me _ _ _ _ (λy M1 q1 u H1 B F G=>?_) q⟩;refine⟨d,y,M1,F,j.mono (B.stab rm),G,F2 _ _ _ _ _ (λz M2 q2 w H2 O J L=>?_) q1⟩;exact l.nx _ M2 _ H2 (B.trans O) ((rs.mono ((B.trans O).stab rm)).set i L) J q2
end
end
end Mi
namespace Mi
variable{K:Frag}
theorem uw{ta:TAd}{i j:Nat}(m:bj ta)(D:bN)(σ:St)(H:Hp)(h:lS K (rS ta (bI (be i) (bI (be j) fG))) D σ H):B4 i j (lA K ta) D σ H:=by
 obtain⟨ρ,M,A,rs,rm,l,q⟩:=h;refine⟨ρ,M,rs,rm,m _ _ _ _ (λds G g9 vs H1 F B z=>?_) q⟩;obtain⟨ρ',e,J⟩:=g9
 match ds,e,z with
 |[d1,d2],e,z=>obtain⟨v,u,rfl,L,O⟩:=z.two;simp only[bI,be,fG,Ol,RZ]at e;subst e;exact⟨v,u,rfl,l.nx _ G _ H1 F (((rs.mono (F.stab rm)).set i L).set j O) B J⟩
end Mi
namespace Mi
end Mi
namespace Mi
section
section
variable{X:Cx}
noncomputable def sd:D->Option Bool
 |.bl b=>Z b
 |.int i=>Z (i != 0)
 |_=>Y
noncomputable def se:RAd:=λxs M Q=>∃x ds ts,xs=[x]/\aR M x=Z ds/\aF sd ds=Z ts/\Q (.bl (ts.any id)) M
theorem nJ:aV se:=λ_ _ _ _ h j=>(by obtain⟨x,ds,ts,e,z,B,q⟩:=j;exact⟨x,ds,ts,e,z,B,h _ _ q⟩)
theorem nK{α β:Type}{f:α->Option β}:∀{xs:List α} {ys:List β},aF f xs=Z ys->ys.length=xs.length/\∀(i:Nat) x,xs[i]?=Z x->∃y,ys[i]?=Z y/\f x=Z y
 |[],ys,h=>by cases h;exact⟨rfl,λi x e=>by simp at e⟩
 |x::xs,ys,h=>by
  simp only[aF]at h
  cases j:f x with
  |none=>rw[j]at h;cases h
  |some y=>
   rw[j]at h;simp only[Ol]at h
   cases e2:aF f xs with
   |none=>rw[e2]at h;cases h
   |some r=>
    rw[e2]at h;cases h;obtain⟨l,g⟩:=nK e2;refine⟨by simp[l],λi z e=>?_⟩
    cases i with
    |zero=>simp at e;subst e;exact⟨y,rfl,j⟩
    |succ i=>simp at e;simpa using g i z e
theorem zW{P:JB}{w:K1}{A:Kh}{E:hH->I7->Prop}{s:I7}{K:Frag}{H:Hp}{d:D}{v:V}{u:hH}{b:Bool}{Q:Bool->I7->Prop}(e:sd d=Z b)(rd:RD K H d v)(ru:RelV v u)(q:Q b s):Jm (model P w) A (truthy u) Q E s:=by
 cases d with
 |bl c=>cases TM.mp rd;cases ru;cases e;exact Mu q
 |int i=>cases TJ.mp rd;obtain⟨t,rfl⟩:=ru;cases e;exact PyProof.Rows.truthy_int q
 |_=>cases e
theorem range_all{ts:List Bool}:(J2 ts.length).all (λi=>ts.getD i Ua)=ts.all id/\(J2 ts.length).any (λi=>ts.getD i Ua)=ts.any id:=by
 have e:(J2 ts.length).map (λi=>ts.getD i Ua)=ts:=by
  apply List.ext_getElem
  ·simp
  ·intro i h1 h2;simp[Jo,z4 h2]
 constructor
 ·conv=>rhs;rw[<-e]
  rw[List.all_map];rfl
 ·conv=>rhs;rw[<-e]
  rw[List.any_map];rfl
theorem xr(J:X.calm=N2){pins:List (Ub×Obj)}{s:I7}{σ:St}{H:Hp}{M:Mem}{x:D}{ds:List D}{ts:List Bool}{v:V}{u:hH}{Q:hH->I7->Prop}{g:List Bool->Bool}(I:Inv X pins σ H s)(rm:RM X.K M H)(rd:RD X.K H x v)(ru:RelV v u)(U:aR M x=Z ds)(F2:aF sd ds=Z ts)(fin:∀h' tk,Inv X pins σ H {s with heap:=h',toks:=tk}->Q (.bool (g ts)) {s with heap:=h',toks:=tk})(gg:Nat->(Nat->Bool)->Bool)(L:gg ts.length (λi=>ts.getD i Ua)=g ts):
 Jm (model X.prog X.w) X.A.in1 (Rt u) (λit s₂=>∃I fp wr n P St tr,it=.ref I/\Walks X.prog X.w X.A.in1 I fp wr n P St/\St 0 s₂.heap/\TruthOf X.prog X.w X.A.in1 P tr /\
  ∀h' tk,(∀b o,b∉wr->s₂.heap.get? b=Z o->h'.get? b=Z o)->Q (.bool (gg n tr)) {s₂ with heap:=h',toks:=tk}) X.xe s:=by
 obtain⟨p,vs,rfl,sq,O⟩:=u4 rm rd U
 cases ru
 obtain⟨lt,get⟩:=nK F2;have lv:=O.length;have tr:∀(its:List hH),Vals vs its->TruthOf X.prog X.w X.A.in1 (λi w=>its.toArray[i]?=Z w) (λi=>ts.getD i Ua):=by
  intro its rv i w s' Q' E' fv B;have q:its[i]?=Z w:=by simpa using fv
  have li:=rv.length;have hi:i<its.length:=(J0.mp q).1;obtain⟨d,hd⟩:∃d,ds[i]?=Z d:=⟨ds[i]'∅,z4 ∅⟩
  obtain⟨v',F,rd'⟩:=O.get hd;obtain⟨u',z,ru'⟩:=rv.get F;rw[q]at z;cases z;obtain⟨b,hb,eb⟩:=get i d hd;have:ts.getD i Ua=b:=by rw[Jo,hb];rfl
  have B:Q' (ts.getD i Ua) s':=B;rw[this]at B;exact zW eb rd' ru' B
 rcases sq with sq|sq
 ·obtain⟨its,rv,pl,hz⟩:=I.list sq;have li:=rv.length;have j:p<s.heap.objs.size:=by obtain⟨o,n,e,_⟩:=pl;exact Jl e
  refine LS pl.isList ⟨s.heap.objs.size,_,_,_,_,_,_,rfl,Walks.list (by rw[Rz];exact I.ok.hd J) s.heap.objs.size p (JU j) its.toArray,⟨⟨_,Jf _ rfl,rfl,rfl⟩,pl.isList.at λo e=>D0 _ e⟩,tr its rv,λh' tk k=>?_⟩
  have G:its.toArray.size=ts.length:=by rw[Ji];lia
  rw[G,L];exact fin h' tk (I.kept (t':=tk) λb o e=>k b o (by simp;exact JU (Jl e)) (D0 _ e))
 ·obtain⟨its,rv,pl,hz⟩:=I.tuple sq;have li:=rv.length;have j:p<s.heap.objs.size:=by obtain⟨o,e,_⟩:=pl;exact Jl e
  have pt:s.heap.IsTuple p its.toArray:=pl;refine Le pt ⟨s.heap.objs.size,_,_,_,_,_,_,rfl,Walks.tuple (by rw[Rz];exact I.ok.hd J) s.heap.objs.size p (JU j) its.toArray,⟨⟨_,Jf _ rfl,rfl,rfl⟩,pt.push _⟩,tr its rv,λh' tk k=>?_⟩
  have G:its.toArray.size=ts.length:=by rw[Ji];lia
  rw[G,L];exact fin h' tk (I.kept (t':=tk) λb o e=>k b o (by simp;exact JU (Jl e)) (D0 _ e))
theorem sf(j:X.calm=N2):CallR X (.builtin "any") (lR X.K se):=by intro pins s σ H xs us Q I rv h;obtain⟨ds,M,rm,rs,x,es,ts,rfl,z,B,q⟩:=h;obtain⟨v,rfl,r⟩:=rs.one;obtain⟨u,rfl,ru⟩:=di rv;exact call_any_walk (xr j I rm r ru z B (g:=λts=>ts.any id) (λh' tk I'=>⟨.bl _,H,I',rfl,q _ H Ext.refl rm (TM.mpr rfl)⟩) (λn tr=>(J2 n).any tr) range_all.2)
noncomputable def mF(t:Bool):TEd:=λ_ M Q=>∀p,M p=Y->Q (.ref p) (ah M p (.dct t []))
theorem uz{t:Bool}:af (mF t):=λ_ _ _ _ i q p n=>i _ _ (q p n)
theorem zX{t:Bool}{pos:Pos}:PE X (.Dict [] [] pos) (lE X.K (mF t)):=by
 cases t with
 |false=>refine PE.imp wj λσ H Q g9 p n=>?_;obtain⟨ρ,M,rs,rm,q⟩:=g9;exact q p (rm.out n) (.ref p) _ (Ext.lay n) (rm.lay n ⟨[],ay,.nil⟩) (TK.mpr rfl)
 |true=>refine PE.imp wk λσ H Q g9 p n=>?_;obtain⟨ρ,M,rs,rm,q⟩:=g9;exact q p (rm.out n) (.ref p) _ (Ext.lay n) (rm.lay n ⟨[],ay,.nil⟩) (TK.mpr rfl)
end
end
end Mi
namespace Srt
structure Cm(prog:JB)(w:K1)(A:Kh)(s:I7)(kd:ND)(P:J7->Prop)(lt:J7->J7->Bool):Prop where
 asym:∀x y,lt x y=N2->lt y x=Ua
 neg:∀x y z,lt x z=N2->lt x y=N2∨lt y z=N2
 run:∀(x y:J7) (E:hH->I7->Prop) (Q:Bool->I7->Prop),P x->P y->Q (lt x y) s->Jm (Ju prog w) A (keyLt' kd x.1 y.1) Q E s
variable{M:Oy}{x y:J7}{st:Ki}{i:Nat}
section
variable{prog:JB}{w:K1}{A:Kh}{E:hH->I7->Prop}{s:I7}{kd:ND}{P:J7->Prop}{lt:J7->J7->Bool}
theorem ad{σ α:Type}{x:α}{st:σ}{Q:α->σ->Prop}(q:Q x st):wpS M A E s (pure x) Q st:=λ_ _ _=>⟨rfl,q⟩
theorem cI{σ:Type}{tag:String}{st:σ}{Q:Unit->σ->Prop}(q:Q () st):wpS M A E s (liftM (PySem.rule tag)) Q st:=wpS_lift (Ll ⟨rfl,q⟩)
theorem zY{σ:Type}{st st':σ}{Q:PUnit->σ->Prop}(q:Q PUnit.unit st'):wpS M A E s (set st') Q st:=λ_ _ _=>⟨rfl,q⟩
theorem jv(c:Cm prog w A s kd P lt){Q:Option Bool->Ki->Prop}(j:L7 st=kd)(hx:P x)(z:P y)(q:Q (Z (lt x y)) st):wpS (Ju prog w) A E s (lt' x y) Q st:=by rw[lt'_eq];refine J4 (NG ?_);refine J4 (wpS_lift ?_);rw[j];intro Γ p hp;rw[Sem.wp_attempt];exact c.run x y (λe s'=>s'=s/\wpS (Ju prog w) A E s (do modify λs=>Om (L7 s) (JZ s) (Jt s) (gallopOf s) (Z e);pure Y) Q st) (λb s'=>s'=s/\wpS (Ju prog w) A E s (pure (Z b)) Q st) hx z ⟨rfl,ad q⟩ Γ p hp
theorem aC{arr:Array J7}{Q:J7->Ki->Prop}(h:arr[i]?=Z x)(q:Q x st):wpS (Ju prog w) A E s (elem' arr i) Q st:=by rw[elem'_eq,h];exact ad q
theorem Cm.le_trans(c:Cm prog w A s kd P lt){z:J7}(h:lt y x=Ua)(h2:lt z y=Ua):lt z x=Ua:=by
 cases e:lt z x with
 |false=>rfl
 |true=>rcases c.neg z y x e with q|q<;>simp_all
theorem Cm.irr(c:Cm prog w A s kd P lt):lt x x=Ua:=by
 cases e:lt x x with
 |false=>rfl
 |true=>have:=c.asym x x e;rw[e]at this;exact this
theorem aD{σ α:Type}{m:StateT σ Sem α}{st:σ}{Q Q':α->σ->Prop}(h:wpS M A E s m Q st)(q:∀a st',Q a st'->Q' a st'):wpS M A E s m Q' st:=LA h (λa s' z=>⟨z.1,q _ _ z.2⟩) λ_ _ z=>z
end
noncomputable abbrev BS:=Bool->J7->Array J7->Nat->Nat->Nat->StateT Ki Sem (Option Nat)
noncomputable abbrev BU:=Array J7->Array J7->StateT Ki Sem (Array J7)
noncomputable def bey(lt:J7->J7->Bool)(left:Bool)(key x:J7):Bool:=if left=N2 then lt x key else !(lt key x)
structure Same(st st':Ki):Prop where
 arr:JZ st'=JZ st
 kind:L7 st'=L7 st
 pend:Jt st'=Jt st
 fail:LY st'=LY st
def gU(prog:JB)(w:K1)(A:Kh)(E:hH->I7->Prop)(s:I7)(kd:ND)(P:J7->Prop)(lt:J7->J7->Bool)(g:BS):Prop:=
 ∀(left:Bool) (key:J7) (arr:Array J7) (L xs R:List J7) (base n hint:Nat) (st:Ki) (Q:Option Nat->Ki->Prop),L7 st=kd->P key->arr.toList=L++xs++R->base=L.length->n=xs.length->(∀x∈xs,P x)->hint<n->
  xs.Pairwise (λx y=>lt y x=Ua)->
  (∀X F2,xs=X++F2->(∀x∈X,bey lt left key x=N2)->(∀x∈F2,bey lt left key x=Ua)->Q (Z X.length) st)->
  wpS (Ju prog w) A E s (g left key arr base n hint) Q st
def gW(prog:JB)(w:K1)(A:Kh)(E:hH->I7->Prop)(s:I7)(kd:ND)(P:J7->Prop)(lt:J7->J7->Bool)(m:BU):Prop:=
 ∀(a b:Array J7) (st:Ki) (Q:Array J7->Ki->Prop),L7 st=kd->(∀x∈a.toList,P x)->(∀x∈b.toList,P x)->0<a.size->0<b.size->
  a.toList.Pairwise (λx y=>lt y x=Ua)->b.toList.Pairwise (λx y=>lt y x=Ua)->(∀x y,a[0]?=Z x->b[0]?=Z y->lt x y=Ua)->(∀x y,a[a.size-1]?=Z x->b[b.size-1]?=Z y->lt x y=Ua)->
  (∀r st',r.toList.Perm (a.toList++b.toList)->r.toList.Pairwise (λx y=>lt y x=Ua)->Same st st'->Q r st')->
  wpS (Ju prog w) A E s (m a b) Q st
variable{left:Bool}{key:J7}{j ia ib na nb:Nat}{xs X l F2 la lb:List J7}{a b:Array J7}
section
variable{prog:JB}{w:K1}{A:Kh}{E:hH->I7->Prop}{s:I7}{kd:ND}{P:J7->Prop}{lt:J7->J7->Bool}
theorem gm(c:Cm prog w A s kd P lt){arr:Array J7}{Q:Option Bool->Ki->Prop}(z:L7 st=kd)(hx:P key)(B:P x)(e:arr[j]?=Z x)(q:Q (Z (bey lt left key x)) st):
 wpS (Ju prog w) A E s (do
  let x <-elem' arr j
  if left=N2 then lt' x key else do
   let r <-lt' key x
   pure (Option.map (λx=>!x) r)) Q st:=by
 refine J4 (aC e ?_)
 cases left with
 |true=>exact jv c z B hx q
 |false=>exact J4 (jv c z hx B (ad q))
theorem nL(c:Cm prog w A s kd P lt)(h:lt y x=Ua)(j:bey lt left key y=N2):bey lt left key x=N2:=by
 unfold bey at j⊢
 cases left with
 |true=>
  rw[if_pos rfl]at j⊢
  rcases c.neg y x key j with q|q
  ·rw[h]at q;cases q
  ·exact q
 |false=>
  simp at j⊢
  cases e:lt key x with
  |false=>rfl
  |true=>
   rcases c.neg key y x e with q|q
   ·rw[j]at q;cases q
   ·rw[h]at q;cases q
structure Gal(lt:J7->J7->Bool)(left:Bool)(key:J7)(xs:List J7)(lo hi:Nat):Prop where
 le:lo<=hi
 len:hi<=xs.length
 up:∀i x,i<lo->xs[i]?=Z x->bey lt left key x=N2
 dn:∀i x,hi<=i->xs[i]?=Z x->bey lt left key x=Ua
theorem eU{R:J7->J7->Prop}(h:xs.Pairwise R)(q:i<j)(hx:xs[i]?=Z x)(z:xs[j]?=Z y):R x y:=by obtain⟨h1,B⟩:=J0.mp hx;obtain⟨h2,F⟩:=J0.mp z;rw[<-B,<-F];exact Pk.mp h i j h1 h2 q
theorem gX(c:Cm prog w A s kd P lt)(h:xs.Pairwise (λx y=>lt y x=Ua))(q:xs[j]?=Z y)(z:bey lt left key y=N2):∀i x,i<j+1->xs[i]?=Z x->bey lt left key x=N2:=by
 intro i x hi hx
 by_cases e:i=j
 ·subst e;rw[hx]at q;cases q;exact z
 ·exact nL c (eU h ∅ hx q) z
theorem gY(c:Cm prog w A s kd P lt)(h:xs.Pairwise (λx y=>lt y x=Ua))(z:xs[j]?=Z y)(B:bey lt left key y=Ua):∀i x,j<=i->xs[i]?=Z x->bey lt left key x=Ua:=by
 intro i x hi hx
 by_cases e:i=j
 ·subst e;rw[hx]at z;cases z;exact B
 ·cases q:bey lt left key x with
  |false=>rfl
  |true=>have:=nL c (eU h ∅ z hx) q;rw[B]at this;cases this
theorem Gal.out{k:Nat}(g:Gal lt left key xs k k):∃X F2,xs=X++F2/\X.length=k/\(∀x∈X,bey lt left key x=N2)/\(∀x∈F2,bey lt left key x=Ua):=by
 refine⟨xs.take k,xs.drop k,(Lz k xs).symm,by rw[JG];exact Ms g.len,λx hx=>?_,λx hx=>?_⟩
 ·obtain⟨i,hi,e⟩:=LK.mp hx;rw[JG]at hi;exact g.up i x ∅ (by rw[List.getElem_take]at e;rw[<-e];exact z4 _)
 ·obtain⟨i,hi,e⟩:=LK.mp hx;rw[Lg]at hi;refine g.dn (k+i) x ∅ ?_
  rw[List.getElem_drop]at e;rw[<-e];exact z4 _
noncomputable abbrev Ord(lt:J7->J7->Bool)(l:List J7):Prop:=l.Pairwise λx y=>lt y x=Ua
theorem nM{out A' B:List J7}(h1:Ord lt (out++(X++A')))(h2:Ord lt (out++B))(h:∀x∈X,∀y∈B,lt y x=Ua):Ord lt ((out++X)++A')/\Ord lt ((out++X)++B):=by
 refine⟨by rw[Jq];exact h1,?_⟩
 rw[Jq];obtain⟨j,q,F⟩:=IZ.mp h1;obtain⟨O,p2,G⟩:=IZ.mp h2;obtain⟨J,U,F2⟩:=IZ.mp q;refine IZ.mpr ⟨j,IZ.mpr ⟨J,p2,h⟩,λx hx y L=>?_⟩
 rcases Ja.mp L with z|z
 ·exact F x hx y (L4 _ z)
 ·exact G x hx y z
structure ML(lt:J7->J7->Bool)(la lb out:List J7)(ia ib:Nat):Prop where
 pa:Ord lt (out++la.drop ia)
 pb:Ord lt (out++lb.drop ib)
 pm:(out++(la.drop ia++lb.drop ib)).Perm (la++lb)
theorem qp(c:Cm prog w A s kd P lt)(h:Ord lt (l.drop i))(j:l[i]?=Z y)(hx:lt y x=Ua):∀z∈l.drop i,lt z x=Ua:=by
 obtain⟨hi,e⟩:=J0.mp j;rw[KG hi,e]at h⊢;intro z B
 rcases Jp.mp B with q|q
 ·rw[q];exact hx
 ·exact c.le_trans hx ((Lf.mp h).1 z q)
theorem dX(e:l.drop i=X++F2):l.drop (i+X.length)=F2:=by rw[<-Pe,e,List.drop_left]
theorem ML.galA(c:Cm prog w A s kd P lt){out:List J7}(m:ML lt la lb out ia ib)(e:la.drop ia=X++F2)(j:lb[ib]?=Z y)(h:∀x∈X,lt y x=Ua):ML lt la lb (out++X) (ia+X.length) ib:=by
 have p2:=(IZ.mp m.pb).2.1;have q:=nM (X:=X) (A':=F2) (by rw[<-e];exact m.pa) m.pb λx hx=>qp c p2 j (h x hx)
 refine⟨by rw[dX e];exact q.1,q.2,?_⟩
 rw[dX e];refine Mg.trans (N9 ?_) m.pm;rw[e];simp
theorem ML.galB(c:Cm prog w A s kd P lt){out:List J7}(m:ML lt la lb out ia ib)(e:lb.drop ib=X++F2)(j:la[ia]?=Z y)(h:∀x∈X,lt y x=Ua):ML lt la lb (out++X) ia (ib+X.length):=by
 have p2:=(IZ.mp m.pa).2.1;have q:=nM (X:=X) (A':=F2) (by rw[<-e];exact m.pb) m.pa λx hx=>qp c p2 j (h x hx)
 refine⟨q.2,by rw[dX e];exact q.1,?_⟩
 rw[dX e];refine Mg.trans ?_ m.pm;rw[e,Jq];refine Kc _ ?_;rw[<-Jq,<-Jq];exact Kr _ Nh
theorem dY(h:l[i]?=Z x):l.drop i=[x]++l.drop (i+1):=by obtain⟨hi,e⟩:=J0.mp h;rw[KG hi,e];rfl
theorem ML.pushA(c:Cm prog w A s kd P lt){out:List J7}(m:ML lt la lb out ia ib)(hx:la[ia]?=Z x)(j:lb[ib]?=Z y)(h:lt y x=Ua):ML lt la lb (out++[x]) (ia+1) ib:=m.galA c (dY hx) j (by simpa using h)
theorem ML.pushB(c:Cm prog w A s kd P lt){out:List J7}(m:ML lt la lb out ia ib)(hx:la[ia]?=Z x)(j:lb[ib]?=Z y)(h:lt x y=Ua):ML lt la lb (out++[y]) ia (ib+1):=m.galB c (dY j) hx (by simpa using h)
def Res(lt:J7->J7->Bool)(la lb r:List J7):Prop:=r.Perm (la++lb)/\Ord lt r
theorem ML.fin{out:List J7}(m:ML lt la lb out ia ib)(h:lb.length<=ib):Res lt la lb (out++la.drop ia++lb.drop ib):=by rw[Mc h,K9];refine⟨?_,m.pa⟩;have:=m.pm;rw[Mc h,K9]at this;exact this
theorem ML.finE{out:List J7}(m:ML lt la lb out ia ib)(h:la.length<=ia):Res lt la lb (out++la.drop ia++lb.drop ib):=by rw[Mc h,K9];refine⟨?_,m.pb⟩;have:=m.pm;rw[Mc h,OH]at this;exact this
theorem ML.finA{out:List J7}(m:ML lt la lb out ia ib)(h:∀x∈lb,∀y∈la.drop ia,lt y x=Ua):Res lt la lb (out++lb.drop ib++la.drop ia):=by
 refine⟨?_,?_⟩
 ·refine Mg.trans ?_ m.pm;rw[Jq];exact Kc _ Nh
 ·obtain⟨F,q,B⟩:=IZ.mp m.pa;refine IZ.mpr ⟨m.pb,q,λx hx y j=>?_⟩
  rcases Ja.mp hx with z|z
  ·exact B x z y j
  ·exact h x (OB z) y j
theorem ML.size{out:List J7}(m:ML lt la lb out ia ib)(j:ia<=la.length)(q:ib<=lb.length):out.length=ia+ib:=by have:=m.pm.length_eq;simp only[q7,Lg]at this;lia
theorem aG(h:i<a.size):∃x,a[i]?=Z x/\a.toList[i]?=Z x/\x∈a.toList:=by refine⟨a[i],JQ h,?_,Array.getElem_mem_toList h⟩;rw[JD];exact JQ h
theorem bP:(a.extract i).toList=a.toList.drop i:=by rw[LL];simp only[NZ];exact KI (by simp)
theorem zZ(e:a.toList.drop i=X++F2):(a.extract i (i+X.length)).toList=X:=by rw[LL];simp[NZ,e]
theorem Same.refl:Same st st:=⟨rfl,rfl,rfl,rfl⟩
theorem Same.trans{a b c:Ki}(h:Same a b)(g:Same b c):Same a c:=⟨g.arr.trans h.arr,g.kind.trans h.kind,g.pend.trans h.pend,g.fail.trans h.fail⟩
theorem ll{O A' B:List J7}(h1:Ord lt (A'++(F2++O)))(h2:Ord lt (B++O))(h:∀y∈F2,∀x∈B,lt y x=Ua):Ord lt (B++(F2++O)):=by
 obtain⟨J,j,L⟩:=IZ.mp h1;obtain⟨q,p2,F⟩:=IZ.mp h2;refine IZ.mpr ⟨q,j,λx hx y G=>?_⟩
 rcases Ja.mp G with z|z
 ·exact h y z x hx
 ·exact F x hx y z
structure MH(lt:J7->J7->Bool)(la lb out:List J7)(na nb:Nat):Prop where
 pa:Ord lt (la.take na++out.reverse)
 pb:Ord lt (lb.take nb++out.reverse)
 pm:(la.take na++lb.take nb++out.reverse).Perm (la++lb)
theorem gZ(c:Cm prog w A s kd P lt){n:Nat}(h:Ord lt (l.take n))(G:0<n)(B:l[n-1]?=Z y)(hx:lt x y=Ua):∀z∈l.take n,lt x z=Ua:=by
 intro z F;obtain⟨i,hi,e⟩:=LK.mp F;have j:(l.take n)[i]?=Z z:=by rw[<-e];exact z4 hi
 have q:(l.take n)[n-1]?=Z y:=by rw[NA ∅];exact B
 rw[JG]at hi
 by_cases hin:i=n-1
 ·subst hin;rw[q]at j;cases j;exact hx
 ·exact c.le_trans (eU h ∅ j q) hx
theorem dZ{n:Nat}(e:l.take n=X++F2):l.take X.length=X:=by
 have h:X.length<=n:=by have:=congrArg MR e;simp only[JG,q7]at this;lia
 have h2:(l.take n).take X.length=X:=by rw[e,QP]
 rw[List.take_take,Ms h]at h2;exact h2
theorem MH.galA(c:Cm prog w A s kd P lt){out:List J7}(m:MH lt la lb out na nb)(e:la.take na=X++F2)(j:0<nb)(z:lb[nb-1]?=Z y)(h:∀x∈F2,lt x y=Ua):MH lt la lb (out++F2.reverse) X.length nb:=by
 have p2:=(IZ.mp m.pb).1;have h1:Ord lt (X++(F2++out.reverse)):=by rw[<-Jq,<-e];exact m.pa
 have q:=ll h1 m.pb λx hx=>gZ c p2 j z (h x hx);refine⟨by rw[dZ e];simpa using h1,by simpa using q,?_⟩
 rw[dZ e];refine Mg.trans ?_ m.pm;rw[e];simp only[List.reverse_append,QR,Jq];refine Kc _ ?_;rw[<-Jq,<-Jq];exact Kr _ Nh
theorem MH.galB(c:Cm prog w A s kd P lt){out:List J7}(m:MH lt la lb out na nb)(e:lb.take nb=X++F2)(j:0<na)(z:la[na-1]?=Z y)(h:∀x∈F2,lt x y=Ua):MH lt la lb (out++F2.reverse) na X.length:=by
 have p2:=(IZ.mp m.pa).1;have h1:Ord lt (X++(F2++out.reverse)):=by rw[<-Jq,<-e];exact m.pb
 have q:=ll h1 m.pa λx hx=>gZ c p2 j z (h x hx);refine⟨by simpa using q,by rw[dZ e];simpa using h1,?_⟩
 rw[dZ e];refine Mg.trans (N9 ?_) m.pm;rw[e];simp
theorem cJ{n:Nat}(j:0<n)(h:l[n-1]?=Z x):l.take n=l.take (n-1)++[x]:=by
 obtain⟨k,rfl⟩:∃k,n=k+1:=⟨n-1,∅⟩
 rw[RA]at h⊢;rw[Ln,h];rfl
theorem qq{n:Nat}(j:0<n)(h:l[n-1]?=Z x):(l.take (n-1)).length=n-1:=by obtain⟨hi,_⟩:=J0.mp h;rw[JG];lia
theorem MH.pushA(c:Cm prog w A s kd P lt){out:List J7}(m:MH lt la lb out na nb)(j:0<na)(z:0<nb)(hx:la[na-1]?=Z x)(B:lb[nb-1]?=Z y)(h:lt x y=Ua):MH lt la lb (out++[x]) (na-1) nb:=by
 have q:=m.galA c (cJ j hx) z B (by simpa using h)
 rw[qq j hx]at q;simpa using q
theorem MH.pushB(c:Cm prog w A s kd P lt){out:List J7}(m:MH lt la lb out na nb)(B:0<na)(j:0<nb)(hx:la[na-1]?=Z x)(z:lb[nb-1]?=Z y)(h:lt y x=Ua):MH lt la lb (out++[y]) na (nb-1):=by
 have q:=m.galB c (cJ j z) B hx (by simpa using h)
 rw[qq j z]at q;simpa using q
theorem MH.fin{out:List J7}(m:MH lt la lb out na nb)(h:na=0∨nb=0):Res lt la lb (la.take na++lb.take nb++out.reverse):=by
 refine⟨m.pm,?_⟩
 rcases h with rfl|rfl
 ·simpa using m.pb
 ·simpa using m.pa
theorem MH.finB{out:List J7}(m:MH lt la lb out na nb)(h:∀x∈lb.take nb,∀y∈la,lt y x=Ua):Res lt la lb (lb.take nb++la.take na++out.reverse):=by
 refine⟨Mg.trans (Kr _ Nh) m.pm,?_⟩;obtain⟨j,F,q⟩:=IZ.mp m.pb;rw[Jq];refine IZ.mpr ⟨j,m.pa,λx hx y B=>?_⟩
 rcases Ja.mp B with z|z
 ·exact h x hx y (OC z)
 ·exact q x hx y z
theorem MH.size{out:List J7}(m:MH lt la lb out na nb)(j:na<=la.length)(q:nb<=lb.length):out.length+na+nb=la.length+lb.length:=by have:=m.pm.length_eq;simp only[q7,JG,Ra]at this;lia
theorem eG:a.toList.take a.size=a.toList:=KI (by simp)
theorem br:(a.extract 0 i).toList=a.toList.take i:=by rw[LL];simp[NZ]
theorem xt{n:Nat}(e:a.toList.take n=X++F2):(a.extract X.length n).toList=F2:=by rw[LL];simp only[NZ];rw[<-List.drop_take,e,List.drop_left]
theorem xu:∀(m old L R:List J7) (a:Array J7),a.toList=L++old++R->m.length=old.length->(Og (λa x=>a.setIfInBounds (L.length+x.snd) x.fst) a m.zipIdx).toList=L++m++R:=by
 have g:∀(m old L R:List J7) (k:Nat) (a:Array J7),a.toList=L++old++R->m.length=old.length->∀b:Nat,b+k=L.length->(Og (λa x=>a.setIfInBounds (b+x.snd) x.fst) a (m.zipIdx k)).toList=L++m++R:=by
  intro m
  induction m with
  |nil=>intro old L R k a e h b j;have:old=[]:=JL.mp h.symm;subst this;simpa using e
  |cons x m ih=>
   intro old L R k a e h b j
   cases old with
   |nil=>simp at h
   |cons y old=>
    rw[PV,L5];have q:(a.setIfInBounds (b+k) x).toList=(L++[x])++old++R:=by rw[Pf,e,j];simp
    have:=ih old (L++[x]) R (k+1) _ q (by simpa using h) b (by simp;lia)
    rw[this];simp
 exactλm old L R a e h=>g m old L R 0 a e h L.length ∅
theorem ai{σ α:Type}{p:Prop}[Decidable p]{j q:StateT σ Sem α}{st:σ}{Q:α->σ->Prop}(h1:p->wpS M A E s j Q st)(h2:¬p->wpS M A E s q Q st):wpS M A E s (if p then j else q) Q st:=by
 split
 ·next h=>exact h1 h
 ·next h=>exact h2 h
theorem ML.cut{out:Array J7}{n:Nat}(m:ML lt la lb (out.toList++X) i j)(e:a.toList.drop n=X++F2):ML lt la lb (out++a.extract n (n+X.length)).toList i j:=by rw[Jn,zZ e];exact m
theorem MH.cut{out:Array J7}{n:Nat}(m:MH lt la lb (out.toList++F2.reverse) i j)(e:a.toList.take n=X++F2):MH lt la lb (out++(a.extract X.length n).reverse).toList i j:=by rw[Jn,JW,xt e];exact m
theorem uA{σ α:Type}{m:StateT σ Sem α}{st:σ}{Q:α->σ->Prop}{P:σ->Prop}(j:P st)(h:∀st',P st'->wpS M A E s m Q st'):wpS M A E s m Q st:=h st j
theorem yw{σ α:Type}{m:StateT σ Sem α}{st:σ}{Q:α->σ->Prop}(h:∀Q':α->σ->Prop,(∀a st',Q a st'->Q' a st')->wpS M A E s m Q' st):wpS M A E s m Q st:=h Q λ_ _ h=>h
theorem yz(h:bey lt Ua key x=N2):lt key x=Ua:=by simpa[bey]using h
theorem uB(h:bey lt Ua key x=Ua):lt key x=N2:=by simpa[bey]using h
theorem yA(h:bey lt N2 key x=N2):lt x key=N2:=by simpa[bey]using h
theorem uC(h:bey lt N2 key x=Ua):lt x key=Ua:=by simpa[bey]using h
theorem nN(e:l.drop i=X++F2)(h:l[i+X.length]?=Z x):x∈F2:=by rw[<-dX e,dY h];simp
theorem nO{n:Nat}(e:l.take n=X++F2)(h0:0<X.length)(h:l[X.length-1]?=Z x):x∈X:=by have:=cJ h0 h;rw[dZ e]at this;rw[this];simp
theorem nP(e:a.toList.drop i=X++F2):X.length<=a.size-i:=by have:=congrArg MR e;simp at this;lia
theorem lm{n:Nat}(e:a.toList.take n=X++F2)(h:n<=a.size):X.length+F2.length=n:=by have:=congrArg MR e;simp at this;lia
theorem fI{n:Nat}(h:n<=a.size):n=(a.toList.take n).length:=by simp;lia
theorem ML.finR{out:Array J7}(m:ML lt a.toList b.toList out.toList ia ib)(h:b.size<=ib):Res lt a.toList b.toList (out++a.extract ia++b.extract ib).toList:=by
 have:=m.fin (by simpa using h)
 simpa only[Jn,bP]using this
theorem ML.finS{out:Array J7}(m:ML lt a.toList b.toList out.toList ia ib)(h:a.size<=ia):Res lt a.toList b.toList (out++a.extract ia++b.extract ib).toList:=by
 have:=m.finE (by simpa using h)
 simpa only[Jn,bP]using this
theorem ML.finL{out:Array J7}(m:ML lt a.toList b.toList out.toList ia ib)(h:∀x∈b.toList,∀y∈a.toList.drop ia,lt y x=Ua):Res lt a.toList b.toList (out++b.extract ib++a.extract ia).toList:=by have:=m.finA h;simpa only[Jn,bP]using this
theorem MH.finR{out:Array J7}(m:MH lt a.toList b.toList out.toList na nb)(h:∀x∈b.toList.take nb,∀y∈a.toList,lt y x=Ua):Res lt a.toList b.toList (b.extract 0 nb++a.extract 0 na++out.reverse).toList:=by have:=m.finB h;simpa only[Jn,JW,br]using this
theorem MH.finL{out:Array J7}(m:MH lt a.toList b.toList out.toList na nb)(h:na=0∨nb=0):Res lt a.toList b.toList (a.extract 0 na++b.extract 0 nb++out.reverse).toList:=by have:=m.fin h;simpa only[Jn,JW,br]using this
theorem Dv(c:Cm prog w A s kd P lt):
 ∃(g:BS) (lo hi:BU),(gU prog w A E s kd P lt g/\(gU prog w A E s kd P lt g->gW prog w A E s kd P lt lo)/\(gU prog w A E s kd P lt g->gW prog w A E s kd P lt hi))/\(gU prog w A E s kd P lt g->gW prog w A E s kd P lt lo->gW prog w A E s kd P lt hi->
  ∀(i sa na pa sb nb pb:Nat) (L r1 r2 R:List J7) (st:Ki) (Q:Bool->Ki->Prop),L7 st=kd->LY st=Y->(Jt st)[i]?=Z (sa,na,pa)->(Jt st)[i+1]?=Z (sb,nb,pb)->
   (JZ st).toList=L++(r1++r2)++R->sa=L.length->na=r1.length->sb=L.length+r1.length->nb=r2.length->r1≠[]->r2≠[]->(∀x∈r1,P x)->(∀x∈r2,P x)->Ord lt r1->Ord lt r2->
   (∀m st',(JZ st').toList=L++m++R->m.Perm (r1++r2)->Ord lt m->L7 st'=kd->LY st'=Y->Jt st'=((Jt st).setIfInBounds i (sa,na+nb,pa)).eraseIdxIfInBounds (i+1)->Q N2 st')->
   wpS (Ju prog w) A E s (Ti i) Q st):=by
 apply S0;apply S0;apply S0;apply Oi
 rotate_left
 ·intro hg IE IF i sa na pa sb nb pb L r1 r2 R st Q hk hf h1 h2 fv HX Hk HY HA IG IH Ie Ig o1 o2 q;unfold Ti;refine J4 (NG ?_);rw[h1,h2];dsimp only;refine J4 (zY ?_);obtain⟨y0,t2,rfl⟩:∃y t,r2=y::t:=by cases r2 with|nil=>exact absurd rfl IH|cons y t=>exact⟨y,t,rfl⟩
  have hz:(JZ st)[sb]?=Z y0:=by rw[<-JD,fv,HY];simp
  refine J4 (aC hz ?_);refine J4 (hg Ua y0 (JZ st) L r1 (y0::t2++R) sa na 0 _ _ hk (Ig _ (by simp)) (by rw[fv];simp) HX Hk Ie (by rw[Hk];exact Kl.mpr IG) o1 λX F2 e hX hY=>?_)
  dsimp only;have lX:∀x∈X,lt y0 x=Ua:=λx hx=>by have:=hX x hx;simpa[bey]using this
  have lY:∀x∈F2,lt x y0=Ua:=λx hx=>c.asym _ _ (by have:=hY x hx;simpa[bey]using this)
  have hlen:na-X.length=F2.length:=by rw[Hk,e];simp
  subst e;obtain⟨oX,oY,oXY⟩:=IZ.mp o1;have oy:=Lf.mp o2;have HZ:∀x∈X,∀z∈y0::t2,lt z x=Ua:=λx hx z hz=>by
   rcases Jp.mp hz with h|h
   ·rw[h];exact lX x hx
   ·exact c.le_trans (lX x hx) (oy.1 z h)
  refine ai (λh=>?_) (λh=>?_)
  ·have I0:F2=[]:=JL.mp (by rw[<-hlen];simpa using h)
   subst I0;refine ad (q (X++(y0::t2)) _ (by simpa using fv) (by simp) ?_ hk hf rfl)
   exact IZ.mpr ⟨oX,o2,HZ⟩
  ·have I0:0<F2.length:=by
    have:na-X.length≠0:=by simpa using h
    lia
   obtain⟨Y0,xl,rfl⟩:∃Y0 xl,F2=Y0++[xl]:=⟨F2.dropLast,F2.getLast (by intro z;rw[z]at I0;simp at I0),(LX _).symm⟩
   have II:(JZ st)[sa+X.length+(na-X.length)-1]?=Z xl:=by
    rw[<-JD,fv,hlen,HX];simp only[Jq,q7,JC];rw[IX ∅,IX ∅,IX ∅]
    rw[show L.length+X.length+(Y0.length+1)-1-L.length-X.length-Y0.length=0 by lia];rfl
   refine J4 (aC II ?_);refine J4 (hg N2 xl (JZ st) (L++(X++(Y0++[xl]))) (y0::t2) R sb nb (nb-1) _ _ hk (Ie _ (by simp)) (by rw[fv];simp) (by rw[HY];simp) HA Ig (by rw[HA];simp) o2 λX2 Y2 e2 Hl Hm=>?_)
   dsimp only;have IJ:∀x∈X2,lt xl x=Ua:=λx hx=>c.asym _ _ (by have:=Hl x hx;simpa[bey]using this)
   have Ir:∀x∈Y2,lt x xl=Ua:=λx hx=>by have:=Hm x hx;simpa[bey]using this
   have IK:Ord lt (X2++Y2):=by rw[<-e2];exact o2
   obtain⟨IM,IN,Is⟩:=IZ.mp IK;obtain⟨IV,_,oYl⟩:=IZ.mp oY;have lYY:∀x∈Y0++[xl],∀z∈Y2,lt z x=Ua:=λx hx z hz=>by
    rcases Ja.mp hx with h|h
    ·exact c.le_trans (oYl x h xl (by simp)) (Ir z hz)
    ·simp at h;subst h;exact Ir z hz
   refine ai (λh=>?_) (λh=>?_)
   ·have He:X2=[]:=JL.mp (by simpa using h)
    subst He;have e2:y0::t2=Y2:=by simpa using e2
    refine ad (q (X++(Y0++[xl])++(y0::t2)) _ (by simpa using fv) (QS _) ?_ hk hf rfl)
    refine IZ.mpr ⟨o1,o2,λx hx z hz=>?_⟩
    rcases Ja.mp hx with g|g
    ·exact HZ x g z hz
    ·exact lYY x g z (by rw[<-e2];exact hz)
   ·have He:X2≠[]:=λz=>h (by rw[z];rfl)
    have hx:((JZ st).extract (sa+X.length) sb).toList=Y0++[xl]:=by
     rw[LL,fv,HX,HY];simp only[NZ];have e1:(L++(X++(Y0++[xl])++y0::t2)++R).drop (L.length+X.length)=(Y0++[xl])++(y0::t2++R):=by rw[<-Pe];simp
     rw[e1,show L.length+(X++(Y0++[xl])).length-(L.length+X.length)=(Y0++[xl]).length by simp only[q7];lia,QP]
    have hy:((JZ st).extract sb (sb+X2.length)).toList=X2:=by
     rw[LL,fv,HY];simp only[NZ];have e1:(L++(X++(Y0++[xl])++y0::t2)++R).drop (L.length+(X++(Y0++[xl])).length)=(y0::t2)++R:=by rw[<-Pe];simp
     rw[e1,e2];simp
    have G:∀(r:Array J7) (GD:Ki),r.toList.Perm ((Y0++[xl])++X2)->Ord lt r.toList->Same (PyProof.Rows.SortSt.mk' (L7 st) (JZ st) (((Jt st).setIfInBounds i (sa,na+nb,pa)).eraseIdxIfInBounds (i+1)) (gallopOf st) (LY st)) GD->∀GA:Ki,JZ GA=Og (λa x=>a.setIfInBounds (sa+X.length+x.snd) x.fst) (JZ GD) r.toList.zipIdx->L7 GA=L7 GD->LY GA=LY GD->Jt GA=Jt GD->Q (LY GA).isNone GA:=by
     intro r GD hp ho hs GA g1 g2 g3 g4;have Iu:LY GA=Y:=g3.trans (hs.fail.trans hf);rw[Iu];refine q (X++r.toList++Y2) GA ?_ ?_ ?_ (g2.trans (hs.kind.trans hk)) Iu (g4.trans hs.pend)
     ·rw[g1,hs.arr];have e3:(JZ st).toList=(L++X)++((Y0++[xl])++X2)++(Y2++R):=by
       rw[fv,e2];simp
      rw[show sa+X.length=(L++X).length by rw[HX];simp]
      rw[xu _ _ _ _ _ e3 (hp.length_eq)];simp
     ·rw[e2];refine Mg.trans (Kr _ (Kc _ hp)) ?_;simp
     ·refine IZ.mpr ⟨IZ.mpr ⟨oX,ho,λx hx z hz=>?_⟩,IN,λx hx z hz=>?_⟩
      ·rcases Ja.mp (hp.mem_iff.mp hz)with g|g
       ·exact oXY x hx z g
       ·exact HZ x hx z (by rw[e2];exact L4 _ g)
      ·rcases Ja.mp hx with g|g
       ·exact HZ x g z (by rw[e2];exact Jx _ hz)
       ·rcases Ja.mp (hp.mem_iff.mp g)with g|g
        ·exact lYY x g z hz
        ·exact Is x g z hz
    have Ic:∀x y,((JZ st).extract (sa+X.length) sb)[0]?=Z x->((JZ st).extract sb (sb+X2.length))[0]?=Z y->lt x y=Ua:=by
     intro x y H0 HB;rw[<-JD,hx]at H0;rw[<-JD,hy]at HB;have HC:=Jh H0;have:y=y0:=by
      cases X2 with
      |nil=>exact absurd rfl He
      |cons z t=>simp at e2 HB;rw[<-HB,<-e2.1]
     subst this;exact lY x HC
    have preL:∀x y,((JZ st).extract (sa+X.length) sb)[((JZ st).extract (sa+X.length) sb).size-1]?=Z x->((JZ st).extract sb (sb+X2.length))[((JZ st).extract sb (sb+X2.length)).size-1]?=Z y->lt x y=Ua:=by
     intro x y H0 HB;rw[<-JD,<-Jy,hx]at H0;rw[<-JD,<-Jy,hy]at HB;have H4:=Jh HB;have:x=xl:=by simp at H0;exact H0.symm
     subst this;exact IJ y H4
    have Iv:0<((JZ st).extract (sa+X.length) sb).size:=by rw[<-Jy,hx];simp
    have Iw:0<((JZ st).extract sb (sb+X2.length)).size:=by rw[<-Jy,hy];exact Kl.mpr He
    have Ix:∀x∈((JZ st).extract (sa+X.length) sb).toList,P x:=by rw[hx];exactλx hx=>Ie x (Jx _ hx)
    have Iy:∀x∈((JZ st).extract sb (sb+X2.length)).toList,P x:=by rw[hy];exactλx hx=>Ig x (by rw[e2];exact L4 _ hx)
    have Iz:Ord lt ((JZ st).extract (sa+X.length) sb).toList:=by rw[hx];exact oY
    have IA:Ord lt ((JZ st).extract sb (sb+X2.length)).toList:=by rw[hy];exact IM
    refine ai (λh=>?_) (λh=>?_)
    ·refine J4 (IE _ _ _ _ hk Ix Iy Iv Iw Iz IA Ic preL λr GD hp ho hs=>?_);rw[hx,hy]at hp;refine J4 (LD ?_);refine J4 (NG ?_);exact ad (G r GD hp ho hs _ rfl rfl rfl rfl)
    ·refine J4 (IF _ _ _ _ hk Ix Iy Iv Iw Iz IA Ic preL λr GD hp ho hs=>?_);rw[hx,hy]at hp;refine J4 (LD ?_);refine J4 (NG ?_);exact ad (G r GD hp ho hs _ rfl rfl rfl rfl)
 apply Oi
 ·intro left key arr L xs R base n hint st Q hk Hf fv Ih hn hP hh hs q;subst Ih hn;have at_:∀i,i<xs.length->∃x,xs[i]?=Z x/\arr[L.length+i]?=Z x/\P x:=by
   intro i hi;refine⟨xs[i],z4 hi,?_,hP _ (KO _)⟩;rw[<-JD,fv,Jq,IX ∅,J1 ∅]
   rw[show L.length+i-L.length=i by lia]
   exact z4 hi
  obtain⟨x0,H0,HD,IO⟩:=at_ hint hh;refine J4 (gm c hk Hf IO HD ?_)
  try dsimp only
  refine ai (λhb=>?_) (λhb=>?_)
  ·skip
   refine J4 (aD (Q:=λr st'=>st'=st/\∃la ofs,r=(Y,la,ofs)/\hint+la<xs.length/\la<ofs/\(∀j x,j<hint+la+1->xs[j]?=Z x->bey lt left key x=N2)/\(xs.length<=hint+ofs∨∀j x,hint+ofs<=j->xs[j]?=Z x->bey lt left key x=Ua))
    (Ke (λi r st'=>st'=st/\∃la ofs,r=(Y,la,ofs)/\hint+la<xs.length/\la<ofs/\i+1<=ofs/\(∀j x,j<hint+la+1->xs[j]?=Z x->bey lt left key x=N2)) ?_ ?_ ⟨rfl,0,1,rfl,hh,∅,∅,gX c hs H0 hb⟩) ?_)
   ·rintro i r st' _ hi ⟨rfl,la,ofs,rfl,h1,h2,h3,h4⟩
    try dsimp only
    refine ai (λHn=>?_) (λHn=>?_)
    ·exact ad ⟨rfl,la,ofs,rfl,h1,h2,h4,.inl ∅⟩
    ·skip
     obtain⟨x1,GU,Ho,Hq⟩:=at_ (hint+ofs) ∅
     refine J4 (gm c hk Hf Hq Ho ?_)
     try dsimp only
     refine ai (λhf=>?_) (λhf=>?_)
     ·exact ad ⟨rfl,la,ofs,rfl,h1,h2,h4,.inr (gY c hs GU (by simpa using hf))⟩
     ·exact ad ⟨rfl,ofs,2*ofs+1,rfl,∅,∅,∅,gX c hs GU (by simpa using hf)⟩
   ·rintro r st' ⟨rfl,la,ofs,rfl,h1,h2,h3,h4⟩;exact⟨rfl,la,ofs,rfl,h1,h2,h4,.inl ∅⟩
   ·rintro r st' ⟨rfl,la,ofs,rfl,h1,h2,h3,h4⟩
    try dsimp only
    have hG:Gal lt left key xs (hint+la+1) (hint+min ofs (xs.length-hint)):=by
     refine⟨∅,∅,h3,λi x hi hx=>?_⟩
     have IW:i<xs.length:=(J0.mp hx).1
     rcases h4 with h4|h4
     ·lia
     ·exact h4 i x ∅ hx
    generalize hint+la+1=lo at hG;generalize hint+min ofs (xs.length-hint)=hi at hG;refine J4 (aD (Q:=λr st''=>st''=st'/\∃k,r=(Y,k,k)/\Gal lt left key xs k k)
     (Ke (λi r st''=>st''=st'/\∃lo hi,r=(Y,lo,hi)/\Gal lt left key xs lo hi/\hi-lo+i<=xs.length) ?_ ?_ ⟨rfl,lo,hi,rfl,hG,by have:=hG.len;lia⟩) ?_)
    ·rintro i r st'' _ hi ⟨rfl,lo,hi,rfl,hG,hm⟩
     try dsimp only
     have hl:=hG.le;have HE:=hG.len;refine ai (λHn=>?_) (λHn=>?_)
     ·exact ad ⟨rfl,hi,by rw[show lo=hi by lia],by rw[show lo=hi by lia]at hG;exact hG⟩
     ·skip
      obtain⟨x1,GU,Ho,Hq⟩:=at_ (lo+(hi-lo) / 2) ∅
      refine J4 (gm c hk Hf Hq Ho ?_)
      try dsimp only
      refine ai (λhf=>?_) (λhf=>?_)
      ·exact ad ⟨rfl,_,_,rfl,⟨∅,HE,gX c hs GU hf,hG.dn⟩,∅⟩
      ·exact ad ⟨rfl,_,_,rfl,⟨∅,∅,hG.up,gY c hs GU (by simpa using hf)⟩,∅⟩
    ·rintro r st'' ⟨rfl,lo,hi,rfl,hG,hm⟩;have hl:=hG.le;exact⟨rfl,hi,by rw[show lo=hi by lia],by rw[show lo=hi by lia]at hG;exact hG⟩
    ·rintro r st'' ⟨rfl,k,rfl,hG⟩;obtain⟨X,F2,e,hl,hX,hY⟩:=hG.out;subst hl;exact ad (q X F2 e hX hY)
  ·skip
   refine J4 (aD (Q:=λr st'=>st'=st/\∃la ofs,r=(Y,la,ofs)/\la<=hint/\la<ofs/\(∀j x,hint-la<=j->xs[j]?=Z x->bey lt left key x=Ua)/\(hint<ofs∨∀j x,j<hint-ofs+1->xs[j]?=Z x->bey lt left key x=N2))
    (Ke (λi r st'=>st'=st/\∃la ofs,r=(Y,la,ofs)/\la<=hint/\la<ofs/\i+1<=ofs/\(∀j x,hint-la<=j->xs[j]?=Z x->bey lt left key x=Ua)) ?_ ?_ ⟨rfl,0,1,rfl,∅,∅,∅,gY c hs H0 (by simpa using hb)⟩) ?_)
   ·rintro i r st' _ hi ⟨rfl,la,ofs,rfl,h1,h2,h3,h4⟩
    try dsimp only
    refine ai (λHn=>?_) (λHn=>?_)
    ·exact ad ⟨rfl,la,ofs,rfl,h1,h2,h4,.inl ∅⟩
    ·skip
     obtain⟨x1,GU,Ho,Hq⟩:=at_ (hint-ofs) ∅
     refine J4 (gm c hk Hf Hq Ho ?_)
     try dsimp only
     refine ai (λhf=>?_) (λhf=>?_)
     ·exact ad ⟨rfl,la,ofs,rfl,h1,h2,h4,.inr (gX c hs GU hf)⟩
     ·exact ad ⟨rfl,ofs,2*ofs+1,rfl,∅,∅,∅,gY c hs GU (by simpa using hf)⟩
   ·rintro r st' ⟨rfl,la,ofs,rfl,h1,h2,h3,h4⟩;exact⟨rfl,la,ofs,rfl,h1,h2,h4,.inl ∅⟩
   ·rintro r st' ⟨rfl,la,ofs,rfl,h1,h2,h3,h4⟩
    try dsimp only
    have hG:Gal lt left key xs (hint+1-min ofs (hint+1)) (hint-la):=by
     refine⟨∅,∅,λi x hi hx=>?_,h3⟩
     rcases h4 with h4|h4
     ·lia
     ·exact h4 i x ∅ hx
    generalize hint+1-min ofs (hint+1)=lo at hG;generalize hint-la=hi at hG;refine J4 (aD (Q:=λr st''=>st''=st'/\∃k,r=(Y,k,k)/\Gal lt left key xs k k)
     (Ke (λi r st''=>st''=st'/\∃lo hi,r=(Y,lo,hi)/\Gal lt left key xs lo hi/\hi-lo+i<=xs.length) ?_ ?_ ⟨rfl,lo,hi,rfl,hG,by have:=hG.len;lia⟩) ?_)
    ·rintro i r st'' _ hi ⟨rfl,lo,hi,rfl,hG,hm⟩
     try dsimp only
     have hl:=hG.le;have HE:=hG.len;refine ai (λHn=>?_) (λHn=>?_)
     ·exact ad ⟨rfl,hi,by rw[show lo=hi by lia],by rw[show lo=hi by lia]at hG;exact hG⟩
     ·skip
      obtain⟨x1,GU,Ho,Hq⟩:=at_ (lo+(hi-lo) / 2) ∅
      refine J4 (gm c hk Hf Hq Ho ?_)
      try dsimp only
      refine ai (λhf=>?_) (λhf=>?_)
      ·exact ad ⟨rfl,_,_,rfl,⟨∅,HE,gX c hs GU hf,hG.dn⟩,∅⟩
      ·exact ad ⟨rfl,_,_,rfl,⟨∅,∅,hG.up,gY c hs GU (by simpa using hf)⟩,∅⟩
    ·rintro r st'' ⟨rfl,lo,hi,rfl,hG,hm⟩;have hl:=hG.le;exact⟨rfl,hi,by rw[show lo=hi by lia],by rw[show lo=hi by lia]at hG;exact hG⟩
    ·rintro r st'' ⟨rfl,k,rfl,hG⟩;obtain⟨X,F2,e,hl,hX,hY⟩:=hG.out;subst hl;exact ad (q X F2 e hX hY)
 apply Oi
 ·intro hg a b st Q hk Hr Hs I8 I9 sa sb HF HG q;refine J4 (cI ?_);obtain⟨b0,Ia,HH,IQ⟩:=aG I9;obtain⟨a0,HD,Hy,IR⟩:=aG I8;refine J4 (aC Ia ?_);have m0:ML lt a.toList b.toList [] 0 0:=⟨sa,sb,by simp⟩
  have m1:ML lt a.toList b.toList [b0] 0 1:=m0.pushB c Hy HH (HF a0 b0 HD Ia);have H8:∀x∈b.toList,∀(i:Nat),i+1=a.size->∀y∈a.toList.drop i,lt y x=Ua:=by
   intro x hx i hi y hy;obtain⟨aL,Ib,HI,_⟩:=aG (a:=a) (i:=i) ∅
   obtain⟨bL,Ii,Hz,_⟩:=aG (a:=b) (i:=b.size-1) ∅
   have e:a.toList.drop i=[aL]:=by rw[dY HI,Mc (by simp;lia)];rfl
   rw[e]at hy;simp at hy;subst hy;have hl:=HG y bL (by rw[show a.size-1=i by lia];exact Ib) Ii
   obtain⟨j,hj,e⟩:=LK.mp hx;have Ht:b.toList[j]?=Z x:=by rw[<-e];exact z4 hj
   by_cases hjb:j=b.size-1
   ·subst hjb;rw[Hz]at Ht;cases Ht;exact hl
   ·have:=eU sb (show j<b.size-1 by simp at hj;lia) Ht Hz
    exact c.le_trans this hl
  try dsimp -zeta -zetaHave -zetaUnused only
  refine ai (λh=>?_) (λh=>?_)
  ·skip
   have h:1=b.size:=by simpa using h
   refine ad ?_;have r:=m1.fin (by simp;lia)
   exact q _ _ (by simpa only[Jn,Js,JM,bP]using r.1) (by simpa only[Jn,Js,JM,bP]using r.2) Same.refl
  ·skip
   refine ai (λh2=>?_) (λh2=>?_)
   ·skip
    have h2:0+1=a.size:=by simpa using h2
    refine ad ?_;have r:=m1.finA (H8 · · 0 h2);exact q _ _ (by simpa only[Jn,Js,JM,bP]using r.1) (by simpa only[Jn,Js,JM,bP]using r.2) Same.refl
   ·skip
    have h:1≠b.size:=by simpa using h
    have h2:0+1≠a.size:=by simpa using h2
    refine J4 (NG ?_)
    try dsimp -zeta -zetaHave -zetaUnused only
    refine J4 (aD (Q:=λr st'=>Same st st'/\∃res t,r=(Z res,t)/\Res lt a.toList b.toList res.toList)
     (Ke (λi r st'=>Same st st'/\∃out ia ib mg,r=(Y,out,ia,ib,mg)/\ML lt a.toList b.toList out.toList ia ib/\ia+1<a.size/\ib<b.size/\i+1<=out.size) ?_ ?_ ⟨Same.refl,_,_,_,_,rfl,m1,∅,∅,by simp⟩) ?_)
    ·rintro i r GW _ hi ⟨sm,out,ia,ib,mg,rfl,m,Ij,Ik,hsz⟩
     try dsimp -zeta -zetaHave -zetaUnused only
     refine J4 (aD (Q:=λr st'=>st'=GW/\((∃B GN GR ac bc,r=(Y,B,GN,GR,ac,bc)/\ML lt a.toList b.toList B.toList GN GR/\GN+1<a.size/\GR<b.size/\i+2<=B.size)∨∃res t,r=(Z res,t)/\Res lt a.toList b.toList res.toList))
      (Ke (λj r st'=>st'=GW/\∃B GN GR ac bc,r=(Y,B,GN,GR,ac,bc)/\ML lt a.toList b.toList B.toList GN GR/\GN+1<a.size/\GR<b.size/\i+1+j<=B.size) ?_ ?_ ⟨rfl,_,_,_,_,_,rfl,m,Ij,Ik,∅⟩) ?_)
     ·rintro j r GD _ hj ⟨rfl,B,GN,GR,ac,bc,rfl,m2,h1,h2,h3⟩
      try dsimp only
      obtain⟨y,hy,GX,H4⟩:=aG (a:=b) h2;obtain⟨x,hx,HJ,HC⟩:=aG (a:=a) (i:=GN) ∅
      refine J4 (aC hy (J4 (aC hx (J4 (jv c (sm.kind.trans hk) (Hs _ H4) (Hr _ HC) ?_)))))
      try dsimp only
      refine ai (λhl=>?_) (λhl=>?_)
      ·skip
       refine J4 (aC hy ?_)
       try dsimp only
       have m3:=m2.pushB c HJ GX (c.asym _ _ hl);refine ai (λh=>?_) (λh=>?_)
       ·skip
        have h:GR+1=b.size:=by simpa using h
        exact ad ⟨rfl,.inr ⟨_,_,rfl,by simpa only[Jn,Js,JM,bP]using m3.fin (by simp;lia)⟩⟩
       ·skip
        have h:GR+1≠b.size:=by simpa using h
        refine ai (λ_=>?_) (λ_=>?_)
        ·exact ad ⟨rfl,.inl ⟨_,_,_,_,_,rfl,by simpa only[Jn,Js]using m3,h1,∅,by simp;lia⟩⟩
        ·exact ad ⟨rfl,_,_,_,_,_,rfl,by simpa only[Jn,Js]using m3,h1,∅,by simp;lia⟩
      ·skip
       refine J4 (aC hx ?_)
       try dsimp only
       have m3:=m2.pushA c HJ GX (by simpa using hl)
       refine ai (λh=>?_) (λh=>?_)
       ·skip
        have h:GN+1+1=a.size:=by simpa using h
        exact ad ⟨rfl,.inr ⟨_,_,rfl,by simpa only[Jn,Js,JM,bP]using m3.finA (H8 · · _ h)⟩⟩
       ·skip
        have h:GN+1+1≠a.size:=by simpa using h
        refine ai (λ_=>?_) (λ_=>?_)
        ·exact ad ⟨rfl,.inl ⟨_,_,_,_,_,rfl,by simpa only[Jn,Js]using m3,∅,h2,by simp;lia⟩⟩
        ·exact ad ⟨rfl,_,_,_,_,_,rfl,by simpa only[Jn,Js]using m3,∅,h2,by simp;lia⟩
     ·rintro r GD ⟨rfl,B,GN,GR,ac,bc,rfl,m2,h1,h2,h3⟩;exact⟨rfl,.inl ⟨_,_,_,_,_,rfl,m2,h1,h2,∅⟩⟩
     ·rintro r GD ⟨rfl,⟨B,GN,GR,ac,bc,rfl,m2,h1,h2,h3⟩|⟨res,t,rfl,J⟩⟩
      ·dsimp -zeta -zetaHave -zetaUnused only;refine J4 (cI ?_);refine J4 (aD (Q:=fun r st'=>Same st st'/\((∃F GF GB GO ac bc,r=(Y,F,GF,GB,GO,ac,bc)/\ML lt a.toList b.toList F.toList GF GB/\GF+1<a.size/\GB<b.size/\i+2<=F.size)∨∃res t,r=(Z res,t)/\Res lt a.toList b.toList res.toList))
        (Ke (λj r st'=>Same st st'/\∃F GF GB GO ac bc,r=(Y,F,GF,GB,GO,ac,bc)/\ML lt a.toList b.toList F.toList GF GB/\GF+1<a.size/\GB<b.size/\i+2<=F.size) ?_ ?_ ⟨sm,_,_,_,_,_,_,rfl,m2,h1,h2,h3⟩) ?_)
       ·rintro j r GA _ hj ⟨GP,F,GF,GB,GO,HK,HM,rfl,m3,h1,h2,h5⟩;obtain⟨y,hy,GX,H4⟩:=aG (a:=b) h2;refine yw λQQ hQ=>?_;have G:∀(st':Ki) (res:Array J7) t,Same st st'->Res lt a.toList b.toList res.toList->QQ (.done (Z res,t)) st':=λst' res t hs hr=>hQ _ _ ⟨hs,.inr ⟨_,_,rfl,hr⟩⟩;have Il:∀(st':Ki) (out:Array J7) ia ib mg ac bc,Same st st'->ML lt a.toList b.toList out.toList ia ib->ia+1<a.size->ib<b.size->i+2<=out.size->QQ (.done (Y,out,ia,ib,mg,ac,bc)) st'/\QQ (.yield (Y,out,ia,ib,mg,ac,bc)) st':=λst' out ia ib mg ac bc hs p1 p2 p3 p4=>⟨hQ _ _ ⟨hs,.inl ⟨_,_,_,_,_,_,rfl,p1,p2,p3,p4⟩⟩,hQ _ _ ⟨hs,_,_,_,_,_,_,rfl,p1,p2,p3,p4⟩⟩;clear hQ hj
        extract_lets -underBinder s0 vout s1 via s2 vib s3 vmg s4 vac vbc jp vmx
        have HN:∀mg,wpS (Ju prog w) A E s (jp () mg) QQ GA:=by
         intro mg;dsimp -zeta -zetaHave -zetaUnused only[jp,s0,vout,s1,via,s2,vib,s3,vmg,s4,vac,vbc];clear vmx jp vbc vac s4 vmg s3 vib s2 via s1 vout s0;refine J4 (LD ?_);refine uA (P:=Same st) (GP.trans ⟨rfl,rfl,rfl,rfl⟩) λHu GG=>?_;have HP:=GG.kind.trans hk;refine J4 (aC hy ?_);refine J4 (hg Ua y a (a.toList.take GF) (a.toList.drop GF) [] _ _ _ _ _ HP (Hs _ H4) (by simp) (fI ∅) (by simp) (λx hx=>Hr x (OB hx)) ∅ ((IZ.mp m3.pa).2.1) λX F2 e hX hY=>?_)
         dsimp -zeta -zetaHave -zetaUnused only;have m4:=m3.galA c e GX λx hx=>yz (hX x hx);have GH:∀x4,a.toList[GF+X.length]?=Z x4->lt x4 y=Ua:=λx4 H9=>c.asym _ _ (uB (hY x4 (nN e H9)));have Hv:=nP e
         extract_lets -underBinder +onlyGivenNames vac Ha
         clear_value vac
         have Hg:∀(O:Array J7) (GY:Nat),ML lt a.toList b.toList O.toList GY GB->(∀x4,a.toList[GY]?=Z x4->lt x4 y=Ua)->GY+1<a.size->i+2<=O.size->wpS (Ju prog w) A E s (Ha () O GY) QQ Hu:=by
          intro O GY Im Hb IS HQ;dsimp -zeta -zetaHave -zetaUnused only[Ha];clear Ha Hv GH m4 hX hY;obtain⟨x4,H9,GL,HR⟩:=aG (a:=a) (i:=GY) ∅
          refine J4 (aC hy ?_);have m5:=Im.pushB c GL GX (Hb x4 GL);rw[<-Js]at m5;have GM:i+2<=(O.push y).size:=by rw[OL];lia
          try dsimp -zeta -zetaHave -zetaUnused only
          extract_lets -underBinder +onlyGivenNames vo5 vi5
          dsimp -zeta -zetaHave -zetaUnused only[vo5];clear vo5;have e5:vi5=GB+1:=rfl
          clear_value vi5
          subst e5
          revert m5 GM
          generalize O.push y=out5;intro m5 GM;refine ai (λh=>?_) (λh=>?_)
          ·exact ad (G _ _ _ GG (m5.finR (by have h:=Mo h;lia)))
          ·have h:GB+1≠b.size:=by simpa using h
           refine J4 (aC H9 ?_);refine J4 (hg N2 x4 b (b.toList.take (GB+1)) (b.toList.drop (GB+1)) [] _ _ _ _ _ HP (Hr _ HR) (by simp) (fI ∅) (by simp) (λx hx=>Hs x (OB hx)) ∅ ((IZ.mp m5.pb).2.1) λX2 Y2 e2 Hl Hm=>?_)
           dsimp -zeta -zetaHave -zetaUnused only;have m6:=m5.galB c e2 GL λx hx=>c.asym _ _ (yA (Hl x hx));have GI:∀y6,b.toList[GB+1+X2.length]?=Z y6->lt y6 x4=Ua:=λy6 HS=>uC (Hm y6 (nN e2 HS));have Hw:=nP e2
           extract_lets -underBinder +onlyGivenNames vbc Hc
           clear_value vbc
           have Hh:∀(GC:Array J7) (Hx:Nat),ML lt a.toList b.toList GC.toList GY Hx->(∀y6,b.toList[Hx]?=Z y6->lt y6 x4=Ua)->Hx<b.size->i+2<=GC.size->wpS (Ju prog w) A E s (Hc () GC Hx) QQ Hu:=by
            intro GC Hx Io Hd Id IB;dsimp -zeta -zetaHave -zetaUnused only[Hc];clear Hc Hw GI m6 Hl Hm m5 GM HQ h5 h1 h2 hsz Ik Ij h3;obtain⟨y6,HS,Hi,IC⟩:=aG (a:=b) (i:=Hx) Id;refine J4 (aC H9 ?_);have m7:=Io.pushA c GL Hi (Hd y6 Hi);rw[<-Js]at m7;dsimp only;refine ai (λh=>?_) (λh=>?_)
            ·exact ad (G _ _ _ GG (m7.finL (H8 · · (GY+1) (Mo h))))
            ·have h:GY+1+1≠a.size:=by simpa using h
             have:=Il Hu (GC.push x4) (GY+1) Hx mg vac vbc GG m7 ∅ Id (by rw[OL];lia)
             exact ai (λ_=>ad this.1) (λ_=>ad this.2)
           clear_value Hc
           refine ai (λh0=>?_) (λh0=>?_)
           ·dsimp only;have m6:=m6.cut (a:=b) e2;refine ai (λh=>?_) (λh=>?_)
            ·exact ad (G _ _ _ GG (m6.finR (by have h:=Mo h;lia)))
            ·have h:GB+1+X2.length≠b.size:=by simpa using h
             exact Hh _ _ m6 GI ∅ (by rw[Ni];lia)
           ·have He:X2=[]:=JL.mp ∅
            subst He;exact Hh _ _ m5 GI ∅ GM
         clear_value Ha
         refine ai (λh0=>?_) (λh0=>?_)
         ·dsimp only;have m4:=m4.cut (a:=a) e;refine ai (λh=>?_) (λh=>?_)
          ·exact ad (G _ _ _ GG (m4.finL (H8 · · _ (Mo h))))
          ·have h:GF+X.length+1≠a.size:=by simpa using h
           refine ai (λh=>?_) (λh9=>?_)
           ·exact ad (G _ _ _ GG (m4.finS (by have h:=Mo h;lia)))
           ·have h9:GF+X.length≠a.size:=by simpa using h9
            exact Hg _ _ m4 GH ∅ (by rw[Ni];lia)
         ·have He:X=[]:=JL.mp ∅
          subst He;exact Hg _ _ m3 GH h1 h5
        clear_value jp
        exact ai (λ_=>HN _) (λ_=>HN _)
       ·rintro r GA ⟨GP,F,GF,GB,GO,HK,HM,rfl,m3,h1,h2,h5⟩;exact⟨GP,.inl ⟨_,_,_,_,_,_,rfl,m3,h1,h2,h5⟩⟩
       ·rintro r GA ⟨GP,⟨F,GF,GB,GO,HK,HM,rfl,m3,h1,h2,h5⟩|⟨res,t,rfl,J⟩⟩
        ·dsimp -zeta -zetaHave -zetaUnused only;refine J4 (LD ?_);exact ad ⟨GP.trans ⟨rfl,rfl,rfl,rfl⟩,_,_,_,_,rfl,m3,h1,h2,∅⟩
        ·exact ad ⟨GP,_,_,rfl,J⟩
      ·exact ad ⟨sm,_,_,rfl,J⟩
    ·rintro r GW ⟨sm,out,ia,ib,mg,rfl,m,Ij,Ik,hsz⟩;have:=m.size (by simp;lia) (by simp;lia)
     simp at this;lia
    ·rintro r GW ⟨sm,res,t,rfl,J⟩;exact ad (q res GW J.1 J.2 sm)
 ·intro hg a b st Q hk Hr Hs I8 I9 sa sb HF HG q;refine J4 (cI ?_);obtain⟨bL,Ii,Hz,IT⟩:=aG (a:=b) (i:=b.size-1) ∅
  obtain⟨aL,Ib,HI,IU⟩:=aG (a:=a) (i:=a.size-1) ∅
  refine J4 (aC Ib ?_);have m0:MH lt a.toList b.toList [] a.size b.size:=⟨by rw[eG];simpa using sa,by rw[eG];simpa using sb,by rw[eG,eG];simp⟩
  have m1:MH lt a.toList b.toList [aL] (a.size-1) b.size:=m0.pushA c I8 I9 HI Hz (HG aL bL Ib Ii);have GT:∀x∈b.toList.take 1,∀y∈a.toList,lt y x=Ua:=by
   intro x hx y hy;obtain⟨b0,Ia,HH,_⟩:=aG I9;obtain⟨a0,HD,Hy,_⟩:=aG I8;have ex:x=b0:=by
    rw[cJ ∅ HH]at hx
    simpa using hx
   subst ex;have h:=HF a0 x HD Ia;obtain⟨j,hj,e⟩:=LK.mp hy;have Ht:a.toList[j]?=Z y:=by rw[<-e];exact z4 hj
   by_cases hj0:j=0
   ·subst hj0;rw[Hy]at Ht;cases Ht;exact h
   ·exact c.le_trans h (eU sa ∅ Hy Ht)
  try dsimp -zeta -zetaHave -zetaUnused only
  refine ai (λh=>?_) (λh=>?_)
  ·skip
   have h:a.size-1=0:=by simpa using h
   refine ad ?_;have r:=m1.fin (.inl h);exact q _ _ (by simpa only[Jn,Js,JW,JM,br]using r.1) (by simpa only[Jn,Js,JW,JM,br]using r.2) Same.refl
  ·skip
   refine ai (λh2=>?_) (λh2=>?_)
   ·skip
    have h2:b.size=1:=by simpa using h2
    refine ad ?_;have r:=m1.finB (by rw[h2];exact GT)
    exact q _ _ (by simpa only[Jn,Js,JW,JM,br]using r.1) (by simpa only[Jn,Js,JW,JM,br]using r.2) Same.refl
   ·skip
    have h:a.size-1≠0:=by simpa using h
    have h2:b.size≠1:=by simpa using h2
    refine J4 (NG ?_)
    try dsimp -zeta -zetaHave -zetaUnused only
    refine J4 (aD (Q:=λr st'=>Same st st'/\∃res t,r=(Z res,t)/\Res lt a.toList b.toList res.toList)
     (Ke (λi r st'=>Same st st'/\∃na nb out mg,r=(Y,na,nb,out,mg)/\MH lt a.toList b.toList out.toList na nb/\0<na/\1<nb/\na<a.size/\nb<=b.size/\i+1<=out.size) ?_ ?_ ⟨Same.refl,_,_,_,_,rfl,m1,∅,∅,∅,∅,by simp⟩) ?_)
    ·rintro i r GW _ hi ⟨sm,na,nb,out,mg,rfl,m,Hk,HA,HU,HV,hsz⟩
     try dsimp -zeta -zetaHave -zetaUnused only
     refine J4 (aD (Q:=λr st'=>st'=GW/\((∃GJ GK B ac bc,r=(Y,GJ,GK,B,ac,bc)/\MH lt a.toList b.toList B.toList GJ GK/\0<GJ/\1<GK/\GJ<a.size/\GK<=b.size/\i+2<=B.size)∨∃res t,r=(Z res,t)/\Res lt a.toList b.toList res.toList))
      (Ke (λj r st'=>st'=GW/\∃GJ GK B ac bc,r=(Y,GJ,GK,B,ac,bc)/\MH lt a.toList b.toList B.toList GJ GK/\0<GJ/\1<GK/\GJ<a.size/\GK<=b.size/\i+1+j<=B.size) ?_ ?_ ⟨rfl,_,_,_,_,_,rfl,m,Hk,HA,HU,HV,∅⟩) ?_)
     ·rintro j r GD _ hj ⟨rfl,GJ,GK,B,ac,bc,rfl,m2,h1,h2,GQ,GS,h3⟩
      try dsimp only
      obtain⟨y,hy,GX,H4⟩:=aG (a:=b) (i:=GK-1) ∅
      obtain⟨x,hx,HJ,HC⟩:=aG (a:=a) (i:=GJ-1) ∅
      refine J4 (aC hy (J4 (aC hx (J4 (jv c (sm.kind.trans hk) (Hs _ H4) (Hr _ HC) ?_)))))
      try dsimp only
      refine ai (λhl=>?_) (λhl=>?_)
      ·skip
       refine J4 (aC hx ?_)
       try dsimp only
       have m3:=m2.pushA c h1 ∅ HJ GX (c.asym _ _ hl)
       refine ai (λh=>?_) (λh=>?_)
       ·skip
        have h:GJ-1=0:=by simpa using h
        exact ad ⟨rfl,.inr ⟨_,_,rfl,by have r:=m3.fin (.inl h);simpa only[Jn,Js,JW,JM,br]using r⟩⟩
       ·skip
        have h:GJ-1≠0:=by simpa using h
        refine ai (λ_=>?_) (λ_=>?_)
        ·exact ad ⟨rfl,.inl ⟨_,_,_,_,_,rfl,by simpa only[Jn,Js,JW,JM,br]using m3,∅,h2,∅,GS,by simp;lia⟩⟩
        ·exact ad ⟨rfl,_,_,_,_,_,rfl,by simpa only[Jn,Js,JW,JM,br]using m3,∅,h2,∅,GS,by simp;lia⟩
      ·skip
       refine J4 (aC hy ?_)
       try dsimp only
       have m3:=m2.pushB c h1 ∅ HJ GX (by simpa using hl)
       refine ai (λh=>?_) (λh=>?_)
       ·skip
        have h:GK-1=1:=by simpa using h
        exact ad ⟨rfl,.inr ⟨_,_,rfl,by have r:=m3.finB (by rw[h];exact GT);simpa only[Jn,Js,JW,JM,br]using r⟩⟩
       ·skip
        have h:GK-1≠1:=by simpa using h
        refine ai (λ_=>?_) (λ_=>?_)
        ·exact ad ⟨rfl,.inl ⟨_,_,_,_,_,rfl,by simpa only[Jn,Js,JW,JM,br]using m3,h1,∅,GQ,∅,by simp;lia⟩⟩
        ·exact ad ⟨rfl,_,_,_,_,_,rfl,by simpa only[Jn,Js,JW,JM,br]using m3,h1,∅,GQ,∅,by simp;lia⟩
     ·rintro r GD ⟨rfl,GJ,GK,B,ac,bc,rfl,m2,h1,h2,GQ,GS,h3⟩;exact⟨rfl,.inl ⟨_,_,_,_,_,rfl,m2,h1,h2,GQ,GS,∅⟩⟩
     ·rintro r GD ⟨rfl,⟨GJ,GK,B,ac,bc,rfl,m2,h1,h2,GQ,GS,h3⟩|⟨res,t,rfl,J⟩⟩
      ·try dsimp -zeta -zetaHave -zetaUnused only
       refine J4 (cI ?_);refine J4 (aD (Q:=λr st'=>Same st st'/\((∃GE U F GO ac bc,r=(Y,GE,U,F,GO,ac,bc)/\MH lt a.toList b.toList F.toList GE U/\0<GE/\1<U/\GE<a.size/\U<=b.size/\i+2<=F.size)∨∃res t,r=(Z res,t)/\Res lt a.toList b.toList res.toList))
        (Ke (λj r st'=>Same st st'/\∃GE U F GO ac bc,r=(Y,GE,U,F,GO,ac,bc)/\MH lt a.toList b.toList F.toList GE U/\0<GE/\1<U/\GE<a.size/\U<=b.size/\i+2<=F.size) ?_ ?_ ⟨sm,_,_,_,_,_,_,rfl,m2,h1,h2,GQ,GS,h3⟩) ?_)
       ·rintro j r GA _ hj ⟨GP,GE,U,F,GO,HK,HM,rfl,m3,h1,h2,GQ,GS,h5⟩;obtain⟨y,hy,GX,H4⟩:=aG (a:=b) (i:=U-1) ∅
        refine yw λQQ hQ=>?_;have G:∀(st':Ki) (res:Array J7) t,Same st st'->Res lt a.toList b.toList res.toList->QQ (.done (Z res,t)) st':=λst' res t hs hr=>hQ _ _ ⟨hs,.inr ⟨_,_,rfl,hr⟩⟩;have Il:∀(st':Ki) (out:Array J7) na nb mg ac bc,Same st st'->MH lt a.toList b.toList out.toList na nb->0<na->1<nb->na<a.size->nb<=b.size->i+2<=out.size->QQ (.done (Y,na,nb,out,mg,ac,bc)) st'/\QQ (.yield (Y,na,nb,out,mg,ac,bc)) st':=λst' out ia ib mg ac bc hs p1 p2 p3 p4 p5 p6=>⟨hQ _ _ ⟨hs,.inl ⟨_,_,_,_,_,_,rfl,p1,p2,p3,p4,p5,p6⟩⟩,hQ _ _ ⟨hs,_,_,_,_,_,_,rfl,p1,p2,p3,p4,p5,p6⟩⟩;clear hQ hj
        extract_lets -underBinder s0 vna s1 vnb s2 vout s3 vmg s4 vac vbc jp vmx
        have HN:∀mg,wpS (Ju prog w) A E s (jp () mg) QQ GA:=by
         intro mg;dsimp -zeta -zetaHave -zetaUnused only[jp,s0,vna,s1,vnb,s2,vout,s3,vmg,s4,vac,vbc];clear vmx jp vbc vac s4 vmg s3 vout s2 vnb s1 vna s0;refine J4 (LD ?_);refine uA (P:=Same st) (GP.trans ⟨rfl,rfl,rfl,rfl⟩) λHu GG=>?_;have HP:=GG.kind.trans hk;refine J4 (aC hy ?_);refine J4 (hg Ua y a [] (a.toList.take GE) (a.toList.drop GE) _ _ _ _ _ HP (Hs _ H4) (by simp) rfl (fI ∅) (λx hx=>Hr x (OC hx)) ∅ ((IZ.mp m3.pa).1) λX F2 e hX hY=>?_)
         dsimp -zeta -zetaHave -zetaUnused only;have m4:=m3.galA c e ∅ GX λx hx=>c.asym _ _ (uB (hY x hx))
         have GH:0<X.length->∀x4,a.toList[X.length-1]?=Z x4->lt y x4=Ua:=λh0 x4 H9=>yz (hX x4 (nO e h0 H9));have Hv:=lm e ∅
         extract_lets -underBinder +onlyGivenNames vk vac Ha
         clear_value vac
         have Hg:∀(GZ:Nat) (O:Array J7),MH lt a.toList b.toList O.toList GZ U->(∀x4,a.toList[GZ-1]?=Z x4->lt y x4=Ua)->0<GZ->GZ<a.size->i+2<=O.size->wpS (Ju prog w) A E s (Ha () GZ O) QQ Hu:=by
          intro GZ O Im Hb HW IP HQ;dsimp -zeta -zetaHave -zetaUnused only[Ha];clear Ha vk Hv GH m4 hX hY;obtain⟨x4,H9,GL,HR⟩:=aG (a:=a) (i:=GZ-1) ∅
          refine J4 (aC hy ?_);have m5:=Im.pushB c HW ∅ GL GX (Hb x4 GL)
          rw[<-Js]at m5;have GM:i+2<=(O.push y).size:=by rw[OL];lia
          try dsimp -zeta -zetaHave -zetaUnused only
          extract_lets -underBinder +onlyGivenNames vo5
          dsimp -zeta -zetaHave -zetaUnused only[vo5];clear vo5
          revert m5 GM
          generalize O.push y=out5;intro m5 GM;refine ai (λh=>?_) (λh=>?_)
          ·exact ad (G _ _ _ GG (m5.finR (by rw[Mo h];exact GT)))
          ·have h:U-1≠1:=by simpa using h
           refine J4 (aC H9 ?_);refine J4 (hg N2 x4 b [] (b.toList.take (U-1)) (b.toList.drop (U-1)) _ _ _ _ _ HP (Hr _ HR) (by simp) rfl (fI ∅) (λx hx=>Hs x (OC hx)) ∅ ((IZ.mp m5.pb).1) λX2 Y2 e2 Hl Hm=>?_)
           dsimp -zeta -zetaHave -zetaUnused only;have m6:=m5.galB c e2 HW GL λx hx=>uC (Hm x hx);have GI:0<X2.length->∀y6,b.toList[X2.length-1]?=Z y6->lt x4 y6=Ua:=λh0 y6 HS=>c.asym _ _ (yA (Hl y6 (nO e2 h0 HS)));have Hw:=lm e2 ∅
           extract_lets -underBinder +onlyGivenNames vk vbc Hc
           clear_value vbc
           have Hh:∀(Hj:Nat) (GC:Array J7),MH lt a.toList b.toList GC.toList GZ Hj->(∀y6,b.toList[Hj-1]?=Z y6->lt x4 y6=Ua)->1<Hj->Hj<=b.size->i+2<=GC.size->wpS (Ju prog w) A E s (Hc () Hj GC) QQ Hu:=by
            intro Hj GC Io Hd ID Iq IB;dsimp -zeta -zetaHave -zetaUnused only[Hc];clear Hc vk Hw GI m6 Hl Hm m5 GM HQ h5 h1 h2 GQ GS hsz Hk HA HU HV h3;obtain⟨y6,HS,Hi,IC⟩:=aG (a:=b) (i:=Hj-1) ∅
            refine J4 (aC H9 ?_);have m7:=Io.pushA c HW ∅ GL Hi (Hd y6 Hi)
            rw[<-Js]at m7;dsimp only;refine ai (λh=>?_) (λh=>?_)
            ·exact ad (G _ _ _ GG (m7.finL (.inl (Mo h))))
            ·have h:GZ-1≠0:=by simpa using h
             have:=λmg ac bc=>Il Hu (GC.push x4) (GZ-1) Hj mg ac bc GG m7 ∅ ID ∅ Iq (by rw[OL];lia)
             exact ai (λ_=>ad (this _ _ _).1) (λ_=>ad (this _ _ _).2)
           clear_value Hc
           refine ai (λh0=>?_) (λh0=>?_)
           ·dsimp only;have m6:=m6.cut (a:=b) e2;refine ai (λh=>?_) (λh=>?_)
            ·exact ad (G _ _ _ GG (m6.finR (by rw[Mo h];exact GT)))
            ·have h:X2.length≠1:=by simpa using h
             refine ai (λh9=>?_) (λh9=>?_)
             ·exact ad (G _ _ _ GG (m6.finL (.inr (Mo h9))))
             ·have h9:X2.length≠0:=by simpa using h9
              exact Hh _ _ m6 (GI ∅) ∅ ∅ (by rw[Ni];lia)
           ·have h0:¬(U-1-X2.length > 0):=h0;have hl:X2.length=U-1:=by lia
            have HE:0<X2.length:=∅
            have hr:=GI HE;rw[hl]at hr;exact Hh _ _ m5 hr ∅ ∅ GM
         clear_value Ha
         refine ai (λh0=>?_) (λh0=>?_)
         ·dsimp only;have m4:=m4.cut (a:=a) e;refine ai (λh=>?_) (λh=>?_)
          ·exact ad (G _ _ _ GG (m4.finL (.inl (Mo h))))
          ·have h:X.length≠0:=by simpa using h
           exact Hg _ _ m4 (GH ∅) ∅ ∅ (by rw[Ni];lia)
         ·have h0:¬(GE-X.length > 0):=h0;have hl:X.length=GE:=by lia
          have hr:=GH ∅
          rw[hl]at hr;exact Hg _ _ m3 hr h1 GQ h5
        clear_value jp
        exact ai (λ_=>HN _) (λ_=>HN _)
       ·rintro r GA ⟨GP,GE,U,F,GO,HK,HM,rfl,m3,h1,h2,GQ,GS,h5⟩;exact⟨GP,.inl ⟨_,_,_,_,_,_,rfl,m3,h1,h2,GQ,GS,h5⟩⟩
       ·rintro r GA ⟨GP,⟨GE,U,F,GO,HK,HM,rfl,m3,h1,h2,GQ,GS,h5⟩|⟨res,t,rfl,J⟩⟩
        ·try dsimp -zeta -zetaHave -zetaUnused only
         refine J4 (LD ?_);exact ad ⟨GP.trans ⟨rfl,rfl,rfl,rfl⟩,_,_,_,_,rfl,m3,h1,h2,GQ,GS,∅⟩
        ·exact ad ⟨GP,_,_,rfl,J⟩
      ·exact ad ⟨sm,_,_,rfl,J⟩
    ·rintro r GW ⟨sm,na,nb,out,mg,rfl,m,Hk,HA,HU,HV,hsz⟩;have:=m.size (by simp;lia) (by simp;lia)
     simp at this;lia
    ·rintro r GW ⟨sm,res,t,rfl,J⟩;exact ad (q res GW J.1 J.2 sm)
end
end Srt
namespace Srt
variable{st:Ki}{L R xs:List J7}{i j:Nat}{x:J7}
section
variable{prog:JB}{w:K1}{A:Kh}{E:hH->I7->Prop}{s:I7}{kd:ND}{P:J7->Prop}{lt:J7->J7->Bool}
structure Kp(st st':Ki):Prop where
 kind:L7 st'=L7 st
 pend:Jt st'=Jt st
 fail:LY st'=LY st
theorem Kp.refl:Kp st st:=⟨rfl,rfl,rfl⟩
theorem Kp.trans{a b c:Ki}(h:Kp a b)(g:Kp b c):Kp a c:=⟨g.kind.trans h.kind,g.pend.trans h.pend,g.fail.trans h.fail⟩
theorem pS{a:Array J7}{B:List J7}(e:a.toList=L++(B++R))(hi:i=L.length)(q:j=L.length+B.length):(mirror a i j ((j-i) / 2)).toList=L++(B.reverse++R):=by
 have hs:a.size=L.length+(B.length+R.length):=by rw[<-Jy,e];simp
 apply Lo;intro k;rw[JD,getElem?_mirror_all ∅]
 have g:∀n:Nat,a[n]?=(L++(B++R))[n]?:=λn=>by rw[<-JD,e]
 rw[g,g]
 by_cases h1:k<L.length
 ·rw[if_neg ∅,J1 h1,J1 h1]
 ·by_cases h2:k<j
  ·rw[if_pos ∅,IX ∅,J1 ∅,IX ∅,J1 (by simp;lia),List.getElem?_reverse ∅]
   congr 1;lia
  ·rw[if_neg ∅,IX ∅,IX ∅,IX ∅,IX (by simp;lia)]
   simp
theorem pT{a:Array J7}{j q:List J7}(e:a.toList=L++((j++q)++x::R)){src d:Nat}(hi:src=L.length+(j.length+q.length))(hd:d=q.length):(bubble a src d).toList=L++((j++x::q)++R):=by
 have hs:a.size=L.length+(j.length+q.length+(R.length+1)):=by rw[<-Jy,e];simp;lia
 apply Lo;intro k;rw[JD,getElem?_bubble ∅ d ∅]
 have g:∀n:Nat,a[n]?=(L++((j++q)++x::R))[n]?:=λn=>by rw[<-JD,e]
 rw[g,g,g]
 by_cases h1:k<L.length
 ·rw[if_neg ∅,if_neg ∅,J1 h1,J1 h1]
 ·by_cases h2:k<L.length+j.length
  ·rw[if_neg ∅,if_neg ∅,IX ∅,J1 (by simp;lia),J1 ∅,IX ∅,J1 (by simp;lia),J1 ∅]
  ·by_cases h3:k=L.length+j.length
   ·rw[if_pos ∅,IX ∅,IX (by simp;lia),IX ∅,J1 (by simp;lia),IX ∅]
    have B:src-L.length-(j++q).length=0:=by simp;lia
    have z:k-L.length-j.length=0:=∅
    rw[B,z];rfl
   ·by_cases h4:k<=src
    ·rw[if_neg ∅,if_pos ∅,IX ∅,J1 (by simp;lia),IX ∅,IX ∅,J1 (by simp;lia),IX ∅]
     have z:k-L.length-j.length=(k-1-L.length-j.length)+1:=∅
     rw[z,LU]
    ·rw[if_neg ∅,if_neg ∅,IX ∅,IX (by simp;lia),IX ∅,IX (by simp;lia)]
     have z:k-L.length-(j++q).length=(k-L.length-(j++x::q).length)+1:=by simp;lia
     rw[z,LU]
theorem dF(c:Cm prog w A s kd P lt){y:J7}{Q:Option Bool->Ki->Prop}(z:L7 st=kd)(hx:(JZ st)[i]?=Z x)(B:(JZ st)[j]?=Z y)(px:P x)(py:P y)(q:Q (Z (lt x y)) st):wpS (Ju prog w) A E s (ltAt' i j) Q st:=by rw[ltAt'_eq];exact J4 (NG (J4 (aC hx (J4 (aC B (jv c z px py q))))))
theorem jw{Q:Unit->Ki->Prop}{B:List J7}(e:(JZ st).toList=L++(B++R))(hi:i=L.length)(z:j=L.length+B.length)(q:∀st',(JZ st').toList=L++(B.reverse++R)->Kp st st'->Q () st'):wpS (Ju prog w) A E s (reverseSlice' i j) Q st:=by rw[reverseSlice'_eq];exact LD (q _ (pS e hi z) ⟨rfl,rfl,rfl⟩)
theorem cn(e:(JZ st).toList=L++xs){n:Nat}(hi:i=L.length+n):(JZ st)[i]?=xs[n]?:=by
 rw[<-JD,e,hi,IX ∅]
 congr 1;lia
theorem nQ(c:Cm prog w A s kd P lt){n:Nat}{y:J7}(h:Ord lt (xs.take n))(q:0<n)(hx:xs[n]?=Z x)(B:xs[n-1]?=Z y)(F:lt x y=Ua):Ord lt (xs.take (n+1)):=by
 rw[Ln,hx];refine IZ.mpr ⟨h,by simp,λz G u j=>?_⟩
 simp at j;subst j;exact gZ c h q B F z G
noncomputable abbrev cV(lt:J7->J7->Bool)(l:List J7):Prop:=l.Pairwise λx y=>lt x y=Ua
theorem iJ(c:Cm prog w A s kd P lt){D:List J7}{e:J7}(h:cV lt (D++[e]))(hx:lt e x=Ua):cV lt (D++[e]++[x]):=by
 refine IZ.mpr ⟨h,by simp,λz B u j=>?_⟩
 simp at j;subst j;obtain⟨_,_,F⟩:=IZ.mp h
 rcases Ja.mp B with g|g
 ·cases q:lt z u with
  |false=>rfl
  | true=>rcases c.neg z e u q with r|r
          ·rw[F z g e (by simp)]at r;cases r
          ·rw[hx]at r;cases r
 ·simp at g;subst g;exact hx
theorem qr{q F:List J7}(h:cV lt (q++F))(he:∀x∈F,∀y∈F,lt x y=Ua):cV lt (q++F.reverse):=by obtain⟨h1,h2,z⟩:=IZ.mp h;refine IZ.mpr ⟨h1,?_,λx hx y j=>z x hx y (Nt.mp j)⟩;rw[Qw];exact h2.imp_of_mem λhx j _=>he _ j _ hx
theorem perm_take{n:Nat}:(xs.take n++xs.drop n).Perm xs:=by rw[Lz]
theorem pU(c:Cm prog w A s kd P lt){Q:Option Nat->Ki->Prop}(hk:L7 st=kd)(O:(JZ st).toList=L++xs)(h0:xs≠[])(hP:∀x∈xs,P x)(q:∀r R st',(JZ st').toList=L++(r++R)->(r++R).Perm xs->r≠[]->Ord lt r->Kp st st'->Q (Z r.length) st'):wpS (Ju prog w) A E s (countRun' L.length xs.length) Q st:=by
 have GY:0<xs.length:=Kl.mpr h0;rw[countRun'_eq]
 try dsimp -zeta -zetaHave -zetaUnused only
 refine J4 (aD (Q:=λr st'=>st'=st/\∃n,r=(Y,n)/\1<=n/\n<=xs.length/\Ord lt (xs.take n)/\(n=xs.length∨∃x y,xs[n]?=Z x/\xs[n-1]?=Z y/\lt x y=N2))
  (Ke (fun i r st'=>st'=st/\r=(Y,i)/\Ord lt (xs.take i)) ?_ ?_ ⟨rfl,rfl,by
   cases xs with
   |nil=>exact absurd rfl h0
   |cons x t=>simp⟩) ?_)
 ·rintro i r st' h1 hi ⟨rfl,rfl,ho⟩;dsimp only;obtain⟨x,hx⟩:∃x,xs[i]?=Z x:=⟨_,z4 hi⟩;obtain⟨y,hy⟩:∃y,xs[i-1]?=Z y:=⟨_,z4 ∅⟩
  refine J4 (dF c hk ((cn O rfl).trans hx) ((cn O ∅).trans hy) (hP _ (Jh hx)) (hP _ (Jh hy)) ?_)
  dsimp only;refine ai (λh=>?_) (λh=>?_)
  ·exact ad ⟨rfl,i,rfl,h1,∅,ho,.inr ⟨x,y,hx,hy,h⟩⟩
  ·exact ad ⟨rfl,rfl,nQ c ho ∅ hx hy (by simpa using h)⟩
 ·rintro r st' ⟨rfl,rfl,ho⟩;exact⟨rfl,_,rfl,∅,∅,ho,.inl ∅⟩
 ·rintro r st' ⟨rfl,n,rfl,Hs,GZ,ho,hc⟩;dsimp -zeta -zetaHave -zetaUnused only;have GL:Q (Z n) st':=by
   have:=q (xs.take n) (xs.drop n) st' (by rw[O,Lz]) perm_take (λz=>by have h3:=congrArg MR z;rw[JG,Mp]at h3;lia) ho Kp.refl
   rw[JG,Ms GZ]at this;exact this
  extract_lets -underBinder +onlyGivenNames vr vn
  dsimp -zeta -zetaHave -zetaUnused only[vr];clear vr;have en:n=vn:=rfl
  clear_value vn
  subst en;refine ai (λh=>ad GL) (λh=>?_);have Hg:n≠xs.length:=by simpa using h
  obtain⟨x,y,hx,hy,Hh⟩:=hc.resolve_left Hg;have Ht:n<xs.length:=∅
  have exs:xs=xs.take n++x::xs.drop (n+1):=by have h1:=(Lz n xs).symm;rw[dY hx]at h1;exact h1
  have H0:y∈xs.take n:=by rw[cJ ∅ hy];simp
  extract_lets -underBinder +onlyGivenNames jp
  have H4:∀(B:List J7) (GB:Ki),(JZ GB).toList=L++(B++x::xs.drop (n+1))->B.Perm (xs.take n)->B.length=n->(∀u∈B,∀v∈B,lt u v=Ua)->y∈B->Kp st' GB->wpS (Ju prog w) A E s (jp ()) Q GB:=by
   intro B GB e1 hB GC GD GE GF;dsimp -zeta -zetaHave -zetaUnused only[jp];clear jp;refine J4 (cI ?_)
   try dsimp -zeta -zetaHave -zetaUnused only
   extract_lets -underBinder +onlyGivenNames vn1 vq1
   have Hi:vn1=n+1:=rfl;have eq1:vq1=0:=rfl
   clear_value vn1 vq1
   subst Hi eq1;refine J4 (aD (Q:=λr U=>∃G F R neq,Kp st' U/\(JZ U).toList=L++((G++F)++R)/\((G++F)++R).Perm xs/\r=(Y,(G++F).length,neq)/\F.length=neq+1/\cV lt (G++F)/\(∀u∈F,∀v∈F,lt u v=Ua))
    (Ke (λi r U=>∃G F R neq,Kp st' U/\(JZ U).toList=L++((G++F)++R)/\((G++F)++R).Perm xs/\r=(Y,(G++F).length,neq)/\F.length=neq+1/\cV lt (G++F)/\(∀u∈F,∀v∈F,lt u v=Ua)/\(G++F).length=i) ?_ ?_ ?_) ?_)
   ·rintro i r U Hu hi ⟨G,F,R,neq,kp,ea,hp,rfl,hF,hN,hE,H8⟩;subst H8;have hlen:=hp.length_eq;rw[q7]at hlen;obtain⟨z,R',rfl⟩:∃z R',R=z::R':=by
     cases R with
     |nil=>simp at hlen;simp at hi;lia
     |cons z R'=>exact⟨z,R',rfl⟩
    have Hj:F≠[]:=λz=>by rw[z]at hF;simp at hF
    obtain⟨F0,e,rfl⟩:∃F0 e,F=F0++[e]:=⟨F.dropLast,F.getLast Hj,(LX _).symm⟩;have hz:(JZ U)[L.length+(G++(F0++[e])).length]?=Z z:=by rw[cn ea rfl,IX ∅,Nu];rfl
    have he:(JZ U)[L.length+(G++(F0++[e])).length-1]?=Z e:=by rw[cn ea (n:=(G++F0).length) (by simp<;>lia),J1 (by simp<;>lia),<-Jq,IX ∅,Nu];rfl
    have H9:P z:=hP z (hp.mem_iff.mp (by simp))
    have Ha:P e:=hP e (hp.mem_iff.mp (by simp))
    dsimp only;refine J4 (dF c (kp.kind.trans hk) hz he H9 Ha ?_);dsimp only;have GP:cV lt (G++F0++[e]):=by rw[Jq];exact hN
    refine ai (λGQ=>?_) (λGQ=>?_)
    ·have GG:lt e z=Ua:=c.asym _ _ GQ;refine ai (λGH=>?_) (λGH=>?_)
     ·refine J4 (jw (L:=L++G) (B:=F0++[e]) (R:=z::R') (by rw[ea];simp) (by simp only[q7]at hF⊢;simp only[JC]at hF⊢;lia) (by simp<;>lia) λfv e3 F2=>?_)
      refine ad ⟨G++(F0++[e]).reverse,[z],R',0,kp.trans F2,by rw[e3];simp,?_,by simp<;>lia,rfl,?_,?_,by simp<;>lia⟩
      ·refine Mg.trans ?_ hp;rw[Jq,Jq,Jq];exact Kc _ (Kr _ (O0 _))
      ·have h1:=qr hN hE;refine IZ.mpr ⟨h1,by simp,λu j v J=>?_⟩
       simp at J;subst J;have hm:=iJ c GP GG;refine(IZ.mp hm).2.2 u ?_ v (by simp)
       rw[Jq]
       rcases Ja.mp j with g|g
       ·exact L4 _ g
       ·exact Jx _ (Nt.mp g)
      ·intro u j v J;simp at j J;subst j J;exact c.irr
     ·refine ad ⟨G++(F0++[e]),[z],R',0,kp,by rw[ea];simp,by simpa using hp,by simp<;>lia,rfl,?_,?_,by simp<;>lia⟩
      ·have hm:=iJ c GP GG;simpa using hm
      ·intro u j v J;simp at j J;subst j J;exact c.irr
    ·have Hk:lt z e=Ua:=by simpa using GQ
     refine J4 (dF c (kp.kind.trans hk) he hz Ha H9 ?_);dsimp only;refine ai (λHb=>?_) (λHb=>?_)
     ·exact ad ⟨G,F0++[e],z::R',neq,kp,ea,hp,rfl,hF,hN,hE⟩
     ·have GG:lt e z=Ua:=by simpa using Hb
      refine ad ⟨G,(F0++[e])++[z],R',neq+1,kp,by rw[ea];simp,by simpa using hp,by simp<;>lia,by simp at hF⊢;lia,?_,?_,by simp<;>lia⟩
      ·have hm:=iJ c GP GG;simpa using hm
      ·have Hl:∀u∈F0++[e],lt u z=Ua:=fun u j=>by
        cases q1:lt u z with
        |false=>rfl
        | true=>rcases c.neg u e z q1 with r|r
                ·rw[hE u j e (by simp)]at r;cases r
                ·rw[GG]at r;cases r
       have Hm:∀u∈F0++[e],lt z u=Ua:=λu j=>by
        cases q1:lt z u with
        |false=>rfl
        | true=>rcases c.neg z e u q1 with r|r
                ·rw[Hk]at r;cases r
                ·rw[hE e (by simp) u j]at r;cases r
       intro u j v J
       rcases Ja.mp j with g|g<;>rcases Ja.mp J with g2|g2
       ·exact hE u g v g2
       ·simp at g2;subst g2;exact Hl u g
       ·simp at g;subst g;exact Hm v g2
       ·simp at g g2;subst g g2;exact c.irr
   ·rintro r U ⟨G,F,R,neq,kp,ea,hp,hr,hF,hN,hE,H8⟩;exact⟨G,F,R,neq,kp,ea,hp,hr,hF,hN,hE⟩
   ·refine⟨B,[x],xs.drop (n+1),0,GF,by rw[e1];simp,?_,by simp[GC],rfl,?_,?_,by simp[GC]⟩
    ·have h9:(B++x::xs.drop (n+1)).Perm xs:=by
      have h9:=Kr (x::xs.drop (n+1)) hB;rw[<-exs]at h9;exact h9
     simpa using h9
    ·refine IZ.mpr ⟨MM (λj J _=>GD _ j _ J) (List.pairwise_of_forall_mem_list (r:=λ_ _=>True) λ_ _ _ _=>trivial),by simp,λu j v J=>?_⟩
     simp at J;subst J
     cases q1:lt u v with
     |false=>rfl
     | true=>rcases c.neg u y v q1 with r|r
             ·rw[GD u j y GE]at r;cases r
             ·rw[c.asym _ _ Hh]at r;cases r
    ·intro u j v J;simp at j J;subst j J;exact c.irr
   ·rintro r U ⟨G,F,R,neq,kp,ea,hp,rfl,hF,hN,hE⟩;dsimp -zeta -zetaHave -zetaUnused only
    extract_lets -underBinder +onlyGivenNames vr vs vn2 vq2
    dsimp -zeta -zetaHave -zetaUnused only[vr];have Hn:vn2=(G++F).length:=rfl;have eq2:neq=vq2:=rfl
    clear_value vn2 vq2
    clear vs vr;subst Hn eq2
    extract_lets -underBinder +onlyGivenNames GI
    have GM:∀(D:List J7) (fv:Ki),(JZ fv).toList=L++(D++R)->cV lt D->(D++R).Perm xs->D.length=(G++F).length->0<D.length->Kp st' fv->wpS (Ju prog w) A E s (GI ()) Q fv:=by
     intro D fv e3 GR GS GJ GN F2;dsimp -zeta -zetaHave -zetaUnused only[GI];clear GI;have Ho:0<D.length:=∅
     refine J4 (jw (L:=L) (B:=D) (R:=R) e3 rfl (by rw[GJ]) λHc e4 Hd=>?_)
     have o4:Ord lt D.reverse:=Qw.mpr GR;have GK:(D.reverse++R).Perm xs:=(Kr _ (O0 D)).trans GS;have He:(D.reverse++R).length=xs.length:=GK.length_eq;have GT:Ord lt ((D.reverse++R).take D.length):=by rw[OD (by simp),KI (by simp)];exact o4
     have GU:∀u∈D.reverse++R,P u:=λu j=>hP u (GK.mem_iff.mp j);have Hq:D.length<=xs.length:=by rw[<-He];simp
     rw[<-GJ];generalize D.length=N0 at GT Ho Hq;generalize D.reverse++R=ys at e4 GK He GT GU;refine J4 (aD (Q:=λr GA=>GA=Hc/\∃n,r=(Y,n)/\1<=n/\n<=xs.length/\Ord lt (ys.take n))
      (Ke (λi r GA=>GA=Hc/\r=(Y,i)/\Ord lt (ys.take i)) ?_ ?_ ⟨rfl,rfl,GT⟩) ?_)
     ·rintro i r GA h1 hi ⟨rfl,rfl,ho⟩;dsimp only;obtain⟨u,j⟩:∃u,ys[i]?=Z u:=⟨_,z4 ∅⟩
      obtain⟨v,J⟩:∃v,ys[i-1]?=Z v:=⟨_,z4 ∅⟩
      refine J4 (dF c ((F2.trans Hd).kind.trans hk) ((cn e4 rfl).trans j) ((cn e4 ∅).trans J) (GU _ (Jh j)) (GU _ (Jh J)) ?_)
      dsimp only;refine ai (λh=>?_) (λh=>?_)
      ·exact ad ⟨rfl,i,rfl,∅,∅,ho⟩
      ·exact ad ⟨rfl,rfl,nQ c ho ∅ j J (by simpa using h)⟩
     ·rintro r GA ⟨rfl,rfl,ho⟩;exact⟨rfl,_,rfl,∅,∅,ho⟩
     ·rintro r GA ⟨rfl,m,rfl,Hv,Hw,ho⟩;refine ad ?_;have:=q (ys.take m) (ys.drop m) GA (by rw[e4,Lz]) (perm_take.trans GK) (fun z=>by
       have h3:=congrArg MR z;rw[JG,Mp]at h3;lia) ho (F2.trans Hd)
      rw[JG,Ms ∅]at this
      exact this
    clear_value GI
    refine ai (λGH=>?_) (λGH=>?_)
    ·refine J4 (jw (L:=L++G) (B:=F) (R:=R) (by rw[ea];simp) (by simp<;>lia) (by simp<;>lia) λfv e3 F2=>?_)
     have F2:=kp.trans F2;have e3:(JZ fv).toList=L++((G++F.reverse)++R):=by rw[e3];simp
     have GR:=qr hN hE;have GS:((G++F.reverse)++R).Perm xs:=(Kr _ (Kc _ (O0 _))).trans hp;have GJ:(G++F.reverse).length=(G++F).length:=by simp
     have GN:0<(G++F.reverse).length:=by simp<;>lia
     exact GM _ _ e3 GR GS GJ GN F2
    ·exact GM _ _ ea hN hp rfl (by simp<;>lia) kp
  clear_value jp
  refine ai (λh1=>?_) (λh1=>?_)
  ·obtain⟨x0,GW⟩:∃x0,xs[0]?=Z x0:=⟨_,z4 GY⟩;refine J4 (dF c hk ((cn O (n:=0) ∅).trans GW) ((cn O ∅).trans hy) (hP _ (Jh GW)) (hP _ (Jh hy)) ?_)
   dsimp only;refine ai (λhr=>ad GL) (λhr=>?_);have hr:lt x0 y=Ua:=by simpa using hr
   have Hf:∀u∈xs.take n,lt u x0=Ua:=λu j=>by
    obtain⟨i,hi,eu⟩:=LK.mp j;have GX:(xs.take n)[i]?=Z u:=by rw[<-eu];exact z4 hi
    have GO:(xs.take n)[0]?=Z x0:=by rw[NA ∅];exact GW
    by_cases hi0:i=0
    ·subst hi0;rw[GO]at GX;cases GX;exact c.irr
    ·exact eU ho ∅ GO GX
   have Hr:∀u∈xs.take n,lt y u=Ua:=gZ c ho ∅ hy c.irr
   have heq:∀u∈xs.take n,∀v∈xs.take n,lt u v=Ua:=λu j v J=>by exact c.le_trans (c.le_trans (Hr v J) hr) (Hf u j)
   refine J4 (jw (L:=L) (B:=xs.take n) (R:=x::xs.drop (n+1)) (by rw[O];exact congrArg (L ++ ·) exs) rfl (by rw[JG,Ms GZ]) λGB e1 GF=>?_)
   have hB:(xs.take n).reverse.Perm (xs.take n):=O0 _;have GC:(xs.take n).reverse.length=n:=by rw[Ra,JG];lia
   have GD:∀u∈(xs.take n).reverse,∀v∈(xs.take n).reverse,lt u v=Ua:=λu j v J=>heq u (Nt.mp j) v (Nt.mp J);have GE:y∈(xs.take n).reverse:=Nt.mpr H0;exact H4 _ _ e1 hB GC GD GE GF
  ·have GB:=st';have hn:n=1:=by lia
   have GF:Kp st' st':=Kp.refl;have e1:(JZ st').toList=L++(xs.take n++x::xs.drop (n+1)):=by rw[O];exact congrArg (L ++ ·) exs
   have hB:(xs.take n).Perm (xs.take n):=QS _;have GC:(xs.take n).length=n:=by rw[JG];lia
   have GE:=H0;have GD:∀u∈xs.take n,∀v∈xs.take n,lt u v=Ua:=λu j v J=>by
    have e0:xs.take n=[y]:=by subst hn;rw[cJ ∅ hy];rfl
    rw[e0]at j J;simp at j J;subst j J;exact c.irr
   exact H4 _ _ e1 hB GC GD GE GF
end
end Srt
namespace Srt
variable{R:List J7}{st:Ki}
section
variable{prog:JB}{w:K1}{A:Kh}{E:hH->I7->Prop}{s:I7}{kd:ND}{P:J7->Prop}{lt:J7->J7->Bool}
theorem uD(c:Cm prog w A s kd P lt){L r:List J7}{n:Nat}{Q:Bool->Ki->Prop}(hk:L7 st=kd)(fv:(JZ st).toList=L++(r++R))(h0:r≠[])(ho:Ord lt r)(hn:r.length<=n)(GA:n<=(r++R).length)(hP:∀x∈r++R,P x)(q:∀r' R' st',(JZ st').toList=L++(r'++R')->(r'++R').Perm (r++R)->r'.length=n->Ord lt r'->Kp st st'->Q N2 st'):wpS (Ju prog w) A E s (binarySort' L.length n r.length) Q st:=by
 have GG:0<r.length:=Kl.mpr h0;rw[binarySort'_eq];refine J4 (aD (Q:=λx st'=>x=(Y,())/\∃D T,Kp st st'/\(JZ st').toList=L++(D++T)/\(D++T).Perm (r++R)/\D.length=n/\Ord lt D)
  (Ke (λi x st'=>x=(Y,())/\∃D T,Kp st st'/\(JZ st').toList=L++(D++T)/\(D++T).Perm (r++R)/\D.length=i/\Ord lt D) ?_ ?_ ⟨rfl,r,R,Kp.refl,fv,QS _,∅,ho⟩) ?_)
 ·rintro k x B GH GI ⟨rfl,D,T,kp,ea,J,hD,O⟩;dsimp only;subst hD;have hlen:=J.length_eq;rw[q7]at hlen;obtain⟨z,T',rfl⟩:∃z T',T=z::T':=by
   cases T with
   |nil=>simp at hlen GA;lia
   |cons z T'=>exact⟨z,T',rfl⟩
  have GB:∀u∈D,P u:=λu G=>hP u (J.mem_iff.mp (L4 _ G));have GC:P z:=hP z (J.mem_iff.mp (by simp))
  have hz:(JZ B)[L.length+D.length]?=Z z:=by rw[cn ea rfl,IX ∅,Nu];rfl
  refine J4 (aD (Q:=λx st'=>st'=B/\∃k,x=(Y,k,k)/\Gal lt Ua z D k k)
   (Ke (fun i x st'=>st'=B/\∃lo hi,x=(Y,lo,hi)/\Gal lt Ua z D lo hi/\hi-lo+i<=D.length) ?_ ?_ ⟨rfl,0,D.length,rfl,⟨∅,∅,fun _ _ h=>∅,fun i x hi hx=>by have:=(J0.mp hx).1;lia⟩,∅⟩) ?_)
  ·rintro i x U _ hi ⟨rfl,lo,j,rfl,F,hm⟩;dsimp only;have hl:=F.le;have GD:=F.len;refine ai (λGE=>?_) (λGE=>?_)
   ·exact ad ⟨rfl,j,by rw[show lo=j by lia],by rw[show lo=j by lia]at F;exact F⟩
   ·obtain⟨u,G⟩:∃u,D[(lo+j) / 2]?=Z u:=⟨_,z4 ∅⟩
    have GF:(JZ U)[L.length+(lo+j) / 2]?=Z u:=by rw[cn ea rfl,J1 ∅];exact G
    refine J4 (dF c (kp.kind.trans hk) hz GF GC (GB _ (Jh G)) ?_);dsimp only;refine ai (λhf=>?_) (λhf=>?_)
    ·exact ad ⟨rfl,_,_,rfl,⟨∅,∅,F.up,gY c O G (by simp[bey,hf])⟩,∅⟩
    ·exact ad ⟨rfl,_,_,rfl,⟨∅,GD,gX c O G (by simpa[bey]using hf),F.dn⟩,∅⟩
  ·rintro x U ⟨rfl,lo,j,rfl,F,hm⟩;have hl:=F.le;exact⟨rfl,j,by rw[show lo=j by lia],by rw[show lo=j by lia]at F;exact F⟩
  ·rintro x U ⟨rfl,l,rfl,F⟩;dsimp only;obtain⟨X,F2,e,hl,hX,hY⟩:=F.out;subst hl e;rw[moveDown'_eq];refine J4 (LD ?_);refine ad ⟨rfl,X++z::F2,T',kp.trans ⟨rfl,rfl,rfl⟩,pT ea (by simp) (by simp;lia),?_,by simp;lia,?_⟩
   ·refine Mg.trans ?_ J;rw[Jq,Jq];refine Kc _ ?_;rw[Q1];exact List.perm_middle.symm
   ·obtain⟨o1,o2,o3⟩:=IZ.mp O;refine IZ.mpr ⟨o1,Lf.mpr ⟨λu G=>c.asym _ _ (by have:=hY u G;simpa[bey]using this),o2⟩,λu G v hv=>?_⟩
    rcases Jp.mp hv with g|g
    ·subst g;have:=hX u G;simpa[bey]using this
    ·exact o3 u G v g
 ·rintro x B ⟨rfl,D,T,kp,ea,J,hD,O⟩;exact⟨rfl,D,T,kp,ea,J,∅,O⟩
 ·rintro x B ⟨rfl,D,T,kp,ea,J,hD,O⟩;exact ad (q D T B ea J hD O kp)
noncomputable def Pd:Nat->List (List J7)->List (Nat×Nat×Nat)->Prop
 |_,[],ps=>ps=[]
 |s,r::rs,ps=>∃p t,ps=(s,r.length,p)::t/\Pd (s+r.length) rs t
theorem Pd.split:∀{l t:List (List J7)} {s:Nat} {ps:List (Nat×Nat×Nat)},Pd s (l++t) ps->∃pl pt,ps=pl++pt/\pl.length=l.length/\Pd s l pl/\Pd (s+l.flatten.length) t pt
 |[],t,s,ps,h=>⟨[],ps,rfl,rfl,rfl,by simpa using h⟩
 |r::l,t,s,ps,h=>by
  obtain⟨p,q,e,h⟩:=h;obtain⟨pl,pt,j,z,h1,h2⟩:=Pd.split h;refine⟨(s,r.length,p)::pl,pt,by rw[e,j];rfl,by simp[z],⟨p,pl,rfl,h1⟩,?_⟩
  rw[Ko,q7,<-PM];exact h2
theorem Pd.join:∀{l t:List (List J7)} {s:Nat} {pl pt:List (Nat×Nat×Nat)},Pd s l pl->Pd (s+l.flatten.length) t pt->Pd s (l++t) (pl++pt)
 |[],t,s,pl,pt,h,g=>by have:pl=[]:=h;subst this;simpa using g
 |r::l,t,s,pl,pt,h,g=>by obtain⟨p,q,e,h⟩:=h;subst e;refine⟨p,q++pt,rfl,Pd.join h ?_⟩;rw[Ko,q7,<-PM]at g;exact g
theorem Pd.length:∀{l:List (List J7)} {s:Nat} {ps:List (Nat×Nat×Nat)},Pd s l ps->ps.length=l.length
 |[],_,_,h=>by rw[show _=[]from h];rfl
 |r::l,s,ps,h=>by obtain⟨p,q,e,h⟩:=h;rw[e];simp[h.length]
structure Rn(lt:J7->J7->Bool)(kd:ND)(a₀:List J7)(st:Ki)(rs:List (List J7))(R:List J7):Prop where
 arr:(JZ st).toList=rs.flatten++R
 perm:(rs.flatten++R).Perm a₀
 ord:∀r∈rs,r≠[]/\Ord lt r
 pend:Pd 0 rs (Jt st).toList
 kind:L7 st=kd
 fail:LY st=Y
theorem Rn.merge(c:Cm prog w A s kd P lt){a₀:List J7}(hP:∀x∈a₀,P x){l t:List (List J7)}{j F:List J7}(h:Rn lt kd a₀ st (l++j::F::t) R){i:Nat}(hi:i=l.length){Q:Bool->Ki->Prop}(q:∀m st',Rn lt kd a₀ st' (l++m::t) R->m.length=j.length+F.length->Q N2 st'):wpS (Ju prog w) A E s (Ti i) Q st:=by
 obtain⟨g,lo,GF,⟨O,U,F2⟩,fv⟩:=Dv (E:=E) c;obtain⟨pl,pt,ep,J,GA,GB⟩:=h.pend.split;obtain⟨L,t1,e1,GC⟩:=GB;obtain⟨p2,t2,e2,GD⟩:=GC;subst e1 e2;have o1:=h.ord j (by simp)
 have o2:=h.ord F (by simp)
 have G:∀x,x∈j∨x∈F->P x:=λx hx=>hP x (h.perm.mem_iff.mp (by simp only[LZ,Ko,Ja];rcases hx with z|z<;>simp[z]))
 have ip:∀(k:Nat) (v:Nat×Nat×Nat),(Jt st).toList[k]?=Z v->(Jt st)[k]?=Z v:=λk v e=>by rw[<-JD];exact e
 refine fv O (U O) (F2 O) i (0+l.flatten.length) j.length L (0+l.flatten.length+j.length) F.length p2 l.flatten j F (t.flatten++R) st Q h.kind h.fail (ip _ _ ?_) (ip _ _ ?_) (by rw[h.arr];simp) (O1 _) rfl ∅ rfl o1.1 o2.1 (λx hx=>G x (.inl hx)) (λx hx=>G x (.inr hx)) o1.2 o2.2 ?_
 ·rw[ep,hi,<-J,IX ∅,Nu];rfl
 ·rw[ep,hi,<-J,IX ∅,show pl.length+1-pl.length=1 by lia];rfl
 ·intro m st' ea hm om hk hf GE;have B:m.length=j.length+F.length:=by rw[hm.length_eq];simp
  refine q m st' ⟨by rw[ea];simp,?_,?_,?_,hk,hf⟩ B
  ·refine Mg.trans ?_ h.perm;simp only[LZ,Ko,Jq];refine Kc _ ?_;rw[<-Jq j];exact Kr _ hm
  ·intro r hr
   rcases Ja.mp hr with z|z
   ·exact h.ord r (L4 _ z)
   ·rcases Jp.mp z with z|z
    ·subst z;exact⟨λz=>by rw[z]at B;have:=Kl.mpr o1.1;simp at B;lia,om⟩
    ·exact h.ord r (by simp[z])
  ·rw[GE];have e3:(((Jt st).setIfInBounds i (0+l.flatten.length,j.length+F.length,L)).eraseIdxIfInBounds (i+1)).toList=pl++(0+l.flatten.length,j.length+F.length,L)::t2:=by
    rw[Array.toList_eraseIdxIfInBounds,Pf,ep,hi,<-J];rw[List.set_append_right _ _ ∅,Nu,List.eraseIdx_append_of_length_le ∅,show pl.length+1-pl.length=1 by lia];rfl
   rw[e3];refine GA.join ⟨L,t2,by rw[B],?_⟩
   rw[B,<-PM];exact GD
theorem nR{α:Type}{l:List α}(h:1<l.length):∃t a b,l=t++[a,b]:=by
 obtain⟨t1,b,j⟩:∃t b,l=t++[b]:=⟨l.dropLast,l.getLast (λz=>by rw[z]at h;simp at h),(LX _).symm⟩
 obtain⟨q,a,B⟩:∃t b,t1=t++[b]:=⟨t1.dropLast,t1.getLast (λz=>by rw[j,z]at h;simp at h),(LX _).symm⟩
 exact⟨q,a,b,by rw[j,B];simp⟩
theorem BV{α:Type}{l:List α}{i:Nat}(h:i+1<l.length):∃t a b u,l=t++a::b::u/\t.length=i:=by
 refine⟨l.take i,l[i],l[i+1],l.drop (i+2),?_,by rw[JG];lia⟩
 rw[<-KG ∅,<-KG ∅,Lz]
theorem Rn.size{a₀:List J7}{rs:List (List J7)}(h:Rn lt kd a₀ st rs R):rs.flatten.length+R.length=a₀.length:=by have:=h.perm.length_eq;rw[q7]at this;exact this
theorem qt:∀{rs:List (List J7)},(∀r∈rs,r≠[])->rs.length<=rs.flatten.length
 |[],_=>by simp
 |r::rs,h=>by
  have h1:=Kl.mpr (h r (by simp))
  have h2:=qt (rs:=rs) λr j=>h r (by simp[j])
  rw[Ko,q7,Jw];lia
theorem uE{l:List (List J7)}{s pw:Nat}{ps:Array (Nat×Nat×Nat)}(h:Pd s l ps.toList):Pd s l (ps.modify (ps.size-1) λx=>(x.1,x.2.1,pw)).toList:=by
 rw[Array.toList_modify];have g:∀(l:List (List J7)) (s k:Nat) (ps:List (Nat×Nat×Nat)),Pd s l ps->Pd s l (ps.modify k λx=>(x.1,x.2.1,pw)):=by
  intro l
  induction l with
  |nil=>intro s k ps h;have:ps=[]:=h;subst this;cases k<;>rfl
  |cons r l ih=>
   intro s k ps h;obtain⟨p,t,e,h⟩:=h;subst e
   cases k with
   |zero=>exact⟨pw,t,rfl,h⟩
   |succ k=>exact⟨p,_,rfl,ih _ k t h⟩
 exact g _ _ _ _ h
theorem pV(c:Cm prog w A s kd P lt){Q:Unit->Ki->Prop}(hk:L7 st=kd)(hf:LY st=Y)(hp:Jt st=#[])(hP:∀x∈(JZ st).toList,P x)(q:∀st',(JZ st').toList.Perm (JZ st).toList->Ord lt (JZ st').toList->LY st'=Y->Q () st'):wpS (Ju prog w) A E s sortRuns' Q st:=by
 rw[sortRuns'_eq];refine J4 (NG ?_)
 try dsimp only
 have hsz:(JZ st).size=(JZ st).toList.length:=by simp
 generalize hA:(JZ st).toList=a₀ at hP q hsz;generalize hS:(JZ st).size=size at hsz;generalize minRun' size size 0=minrun;refine J4 (aD (Q:=λr st'=>∃rs lo,r=(Y,lo)/\Rn lt kd a₀ st' rs [])
  (Ke (λi r st'=>∃rs R,r=(Y,rs.flatten.length)/\Rn lt kd a₀ st' rs R/\i<=rs.flatten.length) ?_ ?_ ⟨[],a₀,rfl,⟨by simpa using hA,by simp,by simp,by rw[hp];rfl,hk,hf⟩,by simp⟩) ?_)
 ·rintro i r GH _ hi ⟨rs,R,rfl,L,GE⟩
  try dsimp only
  have GS:=L.size;refine ai (λGP=>?_) (λGP=>?_)
  ·have:R=[]:=JL.mp ∅
   subst this;exact ad ⟨rs,_,rfl,L⟩
  ·have GI:size-rs.flatten.length=R.length:=by lia
   have GQ:R≠[]:=λz=>by rw[z,Mp]at GI;lia
   have GJ:∀x∈R,P x:=λx hx=>hP x (L.perm.mem_iff.mp (Jx _ hx));rw[GI];refine J4 (pU c L.kind L.arr GQ GJ λr R1 J ea GA U ho kp=>?_)
   try dsimp only
   have F:Rn lt kd a₀ J rs (r++R1):=⟨ea,(Kc _ GA).trans L.perm,L.ord,by rw[kp.pend];exact L.pend,kp.kind.trans L.kind,kp.fail.trans L.fail⟩
   have GK:r.length+R1.length=R.length:=by rw[<-GA.length_eq];simp
   refine ai (λGF=>?_) (λGF=>?_)
   ·refine J4 (cI ?_);refine J4 (uD c F.kind F.arr U ho (n:=min R.length minrun) ∅ (by simp;lia) (λx hx=>GJ x (GA.mem_iff.mp hx)) λr2 R2 B GL GD G GR GC=>?_)
    try dsimp only
    refine ai (λh=>absurd h (by simp)) (λ_=>?_)
    have GM:r2≠[]:=λz=>by rw[z]at G;simp at G;have:=Kl.mpr U;lia
    have F:Rn lt kd a₀ B rs (r2++R2):=⟨GL,(Kc _ GD).trans F.perm,F.ord,by rw[GC.pend];exact F.pend,GC.kind.trans F.kind,GC.fail.trans F.fail⟩
    rw[<-G];clear G GD GL GC ea GA kp GK GF;generalize B=J at F;clear ho U;have ho:=GR;have U:=GM;generalize r2=r at F ho U;generalize R2=R1 at F;refine J4 (NG ?_)
    try dsimp only
    have GN:(Jt J).size=rs.length:=by rw[<-Jy];exact F.pend.length
    cases hb:(Jt J).back? with
    |none=>
     try dsimp only
     have HL:rs.flatten.length=rs.flatten.length:=rfl;refine J4 (LD ?_);have GG:=Kl.mpr U;have F2:(rs++[r]).flatten.length=rs.flatten.length+r.length:=by rw[LZ,q7,HL];simp
     refine ad ⟨rs++[r],R1,by rw[F2],⟨by rw[show _=_ from F.arr];simp,?_,?_,?_,F.kind,F.fail⟩,by rw[F2];lia⟩
     ·refine Mg.trans (N9 (by simp)) F.perm
     ·intro u hu
      rcases Ja.mp hu with z|z
      ·exact F.ord u z
      ·simp at z;subst z;exact⟨U,ho⟩
     ·have h8:(Jt (NJ J ((Jt J).push (rs.flatten.length,r.length,0)))).toList=(Jt J).toList++[(rs.flatten.length,r.length,0)]:=by
       show((Jt J).push _).toList=_;rw[Js]
      rw[show _=_ from h8];exact F.pend.join ⟨0,[],by rw[HL,O1],rfl⟩
    |some v=>
     obtain⟨s1,n1,p1⟩:=v
     try dsimp only
     refine J4 (aD (Q:=λx st'=>x=(Y,())/\∃rs',Rn lt kd a₀ st' rs' (r++R1)/\rs'.flatten.length=rs.flatten.length)
      (Ke (λi x st'=>x=(Y,())/\∃rs',Rn lt kd a₀ st' rs' (r++R1)/\rs'.flatten.length=rs.flatten.length) ?_ ?_ ⟨rfl,rs,F,rfl⟩) ?_)
     ·rintro j x B _ hj ⟨rfl,rs',O,G⟩;refine J4 (NG ?_)
      try dsimp only
      have GB:(Jt B).size=rs'.length:=by rw[<-Jy];exact O.pend.length
      by_cases h1:(Jt B).size > 1
      ·rw[if_pos h1];have h2:(Jt B)[(Jt B).size-2]?=Z ((Jt B)[(Jt B).size-2]'∅):=JQ ∅
       rw[h2]
       try dsimp only
       refine ai (λh=>?_) (λh=>?_)
       ·exact ad ⟨rfl,rs',O,G⟩
       ·obtain⟨t,a,b,e⟩:=nR (l:=rs') ∅
        subst e;refine J4 (O.merge c hP (by rw[GB];simp) λm fv h4 hm=>?_)
        refine ai (λh=>absurd h (by simp)) (λ_=>ad ⟨rfl,_,h4,?_⟩)
        rw[<-G];simp[hm]
      ·rw[if_neg h1];exact ad ⟨rfl,rs',O,G⟩
     ·rintro x B ⟨rfl,rs',O,G⟩;exact⟨rfl,rs',O,G⟩
     ·rintro x B ⟨rfl,rs',O,G⟩
      try dsimp only
      refine J4 (LD ?_);have h4:Rn lt kd a₀ (NJ B ((Jt B).modify ((Jt B).size-1) λx=>(x.1,x.2.1,power' size (2*s1+n1) (2*s1+n1+n1+r.length) size))) rs' (r++R1):=⟨O.arr,O.perm,O.ord,uE O.pend,O.kind,O.fail⟩;generalize GO:NJ B ((Jt B).modify ((Jt B).size-1) λx=>(x.1,x.2.1,power' size (2*s1+n1) (2*s1+n1+n1+r.length) size))=fv at h4;have HL:=G;refine J4 (LD ?_);have GG:=Kl.mpr U;have F2:(rs'++[r]).flatten.length=rs.flatten.length+r.length:=by rw[LZ,q7,HL];simp
      refine ad ⟨rs'++[r],R1,by rw[F2],⟨by rw[show _=_ from h4.arr];simp,?_,?_,?_,h4.kind,h4.fail⟩,by rw[F2];lia⟩
      ·refine Mg.trans (N9 (by simp)) h4.perm
      ·intro u hu
       rcases Ja.mp hu with z|z
       ·exact h4.ord u z
       ·simp at z;subst z;exact⟨U,ho⟩
      ·have h8:(Jt (NJ fv ((Jt fv).push (rs.flatten.length,r.length,0)))).toList=(Jt fv).toList++[(rs.flatten.length,r.length,0)]:=by
        show((Jt fv).push _).toList=_;rw[Js]
       rw[show _=_ from h8];exact h4.pend.join ⟨0,[],by rw[HL,O1],rfl⟩
   ·clear ea GA kp GK GF;refine J4 (NG ?_)
    try dsimp only
    have GN:(Jt J).size=rs.length:=by rw[<-Jy];exact F.pend.length
    cases hb:(Jt J).back? with
    |none=>
     try dsimp only
     have HL:rs.flatten.length=rs.flatten.length:=rfl;refine J4 (LD ?_);have GG:=Kl.mpr U;have F2:(rs++[r]).flatten.length=rs.flatten.length+r.length:=by rw[LZ,q7,HL];simp
     refine ad ⟨rs++[r],R1,by rw[F2],⟨by rw[show _=_ from F.arr];simp,?_,?_,?_,F.kind,F.fail⟩,by rw[F2];lia⟩
     ·refine Mg.trans (N9 (by simp)) F.perm
     ·intro u hu
      rcases Ja.mp hu with z|z
      ·exact F.ord u z
      ·simp at z;subst z;exact⟨U,ho⟩
     ·have h8:(Jt (NJ J ((Jt J).push (rs.flatten.length,r.length,0)))).toList=(Jt J).toList++[(rs.flatten.length,r.length,0)]:=by
       show((Jt J).push _).toList=_;rw[Js]
      rw[show _=_ from h8];exact F.pend.join ⟨0,[],by rw[HL,O1],rfl⟩
    |some v=>
     obtain⟨s1,n1,p1⟩:=v
     try dsimp only
     refine J4 (aD (Q:=λx st'=>x=(Y,())/\∃rs',Rn lt kd a₀ st' rs' (r++R1)/\rs'.flatten.length=rs.flatten.length)
      (Ke (λi x st'=>x=(Y,())/\∃rs',Rn lt kd a₀ st' rs' (r++R1)/\rs'.flatten.length=rs.flatten.length) ?_ ?_ ⟨rfl,rs,F,rfl⟩) ?_)
     ·rintro j x B _ hj ⟨rfl,rs',O,G⟩;refine J4 (NG ?_)
      try dsimp only
      have GB:(Jt B).size=rs'.length:=by rw[<-Jy];exact O.pend.length
      by_cases h1:(Jt B).size > 1
      ·rw[if_pos h1];have h2:(Jt B)[(Jt B).size-2]?=Z ((Jt B)[(Jt B).size-2]'∅):=JQ ∅
       rw[h2]
       try dsimp only
       refine ai (λh=>?_) (λh=>?_)
       ·exact ad ⟨rfl,rs',O,G⟩
       ·obtain⟨t,a,b,e⟩:=nR (l:=rs') ∅
        subst e;refine J4 (O.merge c hP (by rw[GB];simp) λm fv h4 hm=>?_)
        refine ai (λh=>absurd h (by simp)) (λ_=>ad ⟨rfl,_,h4,?_⟩)
        rw[<-G];simp[hm]
      ·rw[if_neg h1];exact ad ⟨rfl,rs',O,G⟩
     ·rintro x B ⟨rfl,rs',O,G⟩;exact⟨rfl,rs',O,G⟩
     ·rintro x B ⟨rfl,rs',O,G⟩
      try dsimp only
      refine J4 (LD ?_);have h4:Rn lt kd a₀ (NJ B ((Jt B).modify ((Jt B).size-1) λx=>(x.1,x.2.1,power' size (2*s1+n1) (2*s1+n1+n1+r.length) size))) rs' (r++R1):=⟨O.arr,O.perm,O.ord,uE O.pend,O.kind,O.fail⟩;generalize GO:NJ B ((Jt B).modify ((Jt B).size-1) λx=>(x.1,x.2.1,power' size (2*s1+n1) (2*s1+n1+n1+r.length) size))=fv at h4;have HL:=G;refine J4 (LD ?_);have GG:=Kl.mpr U;have F2:(rs'++[r]).flatten.length=rs.flatten.length+r.length:=by rw[LZ,q7,HL];simp
      refine ad ⟨rs'++[r],R1,by rw[F2],⟨by rw[show _=_ from h4.arr];simp,?_,?_,?_,h4.kind,h4.fail⟩,by rw[F2];lia⟩
      ·refine Mg.trans (N9 (by simp)) h4.perm
      ·intro u hu
       rcases Ja.mp hu with z|z
       ·exact h4.ord u z
       ·simp at z;subst z;exact⟨U,ho⟩
      ·have h8:(Jt (NJ fv ((Jt fv).push (rs.flatten.length,r.length,0)))).toList=(Jt fv).toList++[(rs.flatten.length,r.length,0)]:=by
        show((Jt fv).push _).toList=_;rw[Js]
       rw[show _=_ from h8];exact h4.pend.join ⟨0,[],by rw[HL,O1],rfl⟩
 ·rintro r GH ⟨rs,R,rfl,L,GE⟩;have:=L.size;have:R=[]:=JL.mp ∅
  subst this;exact⟨rs,_,rfl,L⟩
 ·rintro r GH ⟨rs,lo,rfl,L⟩
  try dsimp only
  refine J4 (aD (Q:=λr st'=>r=(Y,())/\∃rs,Rn lt kd a₀ st' rs []/\rs.length<=1)
   (Ke (λi r st'=>r=(Y,())/\∃rs,Rn lt kd a₀ st' rs []/\rs.length+i<=size) ?_ ?_ ⟨rfl,rs,L,?_⟩) ?_)
  ·rintro i r J _ hi ⟨rfl,rs,L,GE⟩;refine J4 (NG ?_)
   try dsimp only
   have GN:(Jt J).size=rs.length:=by rw[<-Jy];exact L.pend.length
   refine ai (λh=>?_) (λh=>?_)
   ·exact ad ⟨rfl,rs,L,∅⟩
   ·have go:∀k,k+1<rs.length->wpS (Ju prog w) A E s (Ti k) (fun b st'=>b=N2/\∃rs',Rn lt kd a₀ st' rs' []/\rs'.length+1=rs.length) J:=by
     intro k hk;obtain⟨t,a,b,u,e,ht⟩:=BV hk;subst e;refine L.merge c hP ht.symm λm B O _=>⟨rfl,_,O,by simp;lia⟩
    refine J4 (aD (go _ ?_) ?_)
    ·(repeat' split)<;>lia
    ·rintro b B ⟨rfl,rs',O,G⟩;refine ai (λh=>absurd h (by simp)) (λ_=>ad ⟨rfl,rs',O,∅⟩)
  ·rintro r J ⟨rfl,rs,L,GE⟩;exact⟨rfl,rs,L,∅⟩
  ·have h1:=qt λr hr=>(L.ord r hr).1;have h2:=L.size;simp only[Mp]at h2;lia
  ·rintro r J ⟨rfl,rs,L,hl⟩;refine ad (q J (by rw[L.arr];exact L.perm) ?_ L.fail)
   rw[L.arr,K9]
   match rs,hl,L with
   |[],_,_=>exact Pu
   |[r],_,L=>simpa using(L.ord r (by simp)).2
end
end Srt
namespace Srt
def hJ(cap:Nat):Prop:=∀(prog:JB) (w:K1) (A:Kh) (E:hH->I7->Prop) (s:I7) (kd:ND) (P:J7->Prop) (lt:J7->J7->Bool),Cm prog w A s kd P lt->∀(st:Ki) (Q:Unit->Ki->Prop),L7 st=kd->LY st=Y->Jt st=#[]->(∀x∈(JZ st).toList,P x)->2<=(JZ st).size->(JZ st).size<=cap->
 (∀st',(JZ st').toList.Perm (JZ st).toList->Ord lt (JZ st').toList->LY st'=Y->Q () st')->wpS (Ju prog w) A E s sortRuns' Q st
theorem sg{cap:Nat}:hJ cap:=λ_ _ _ _ _ _ _ _ c _ _ j hf z B _ _ q=>pV c j hf z B q
end Srt
namespace Srt
inductive Ky where
 |int (i:Int)
 |tup (l:List Ky)
mutual
noncomputable def aA:Ky->Ky->Ordering
 |.int a,.int b=>if a<b then .lt else if a=b then .eq else .gt
 |.int _,.tup _=>.lt
 |.tup _,.int _=>.gt
 |.tup a,.tup b=>cmpKs a b
noncomputable def cmpKs:List Ky->List Ky->Ordering
 |[],[]=>.eq
 |[],_::_=>.lt
 |_::_,[]=>.gt
 |x::xs,y::ys=>(aA x y).then (cmpKs xs ys)
end
mutual
theorem cW:∀a b,aA b a=(aA a b).swap
 |.int a,.int b=>by
  simp only[aA]
  by_cases h1:a<b
  ·rw[if_pos h1,if_neg ∅,if_neg ∅];rfl
  ·by_cases h2:a=b
   ·rw[if_neg h1,if_pos h2,if_neg ∅,if_pos h2.symm];rfl
   ·rw[if_neg h1,if_neg h2,if_pos ∅];rfl
 |.int _,.tup _=>by simp[aA]
 |.tup _,.int _=>by simp[aA]
 |.tup a,.tup b=>by simp only[aA];exact cmpKs_swap a b
theorem cmpKs_swap:∀a b,cmpKs b a=(cmpKs a b).swap
 |[],[]=>rfl
 |[],_::_=>rfl
 |_::_,[]=>rfl
 |x::xs,y::ys=>by
  simp only[cmpKs];rw[cW x y,cmpKs_swap xs ys]
  cases aA x y<;>rfl
end
mutual
theorem hZ:∀a b,aA a b=.eq->a=b
 |.int a,.int b,h=>by
  simp only[aA]at h
  by_cases h1:a<b
  ·rw[if_pos h1]at h;cases h
  ·by_cases h2:a=b
   ·rw[h2]
   ·rw[if_neg h1,if_neg h2]at h;cases h
 |.int _,.tup _,h=>by simp[aA]at h
 |.tup _,.int _,h=>by simp[aA]at h
 |.tup a,.tup b,h=>by simp only[aA]at h;rw[cmpKs_eq a b h]
theorem cmpKs_eq:∀a b,cmpKs a b=.eq->a=b
 |[],[],_=>rfl
 |[],_::_,h=>by simp[cmpKs]at h
 |_::_,[],h=>by simp[cmpKs]at h
 |x::xs,y::ys,h=>by
  simp only[cmpKs]at h
  cases e:aA x y with
  |lt=>rw[e]at h;cases h
  |gt=>rw[e]at h;cases h
  |eq=>rw[e]at h;rw[hZ x y e,cmpKs_eq xs ys h]
end
mutual
theorem jx:∀a b c,aA a b=.lt->aA b c=.lt->aA a c=.lt
 |.int a,.int b,.int c,h,g=>by
  simp only[aA]at h g⊢;have h1:a<b:=by
   by_cases h1:a<b
   ·exact h1
   ·rw[if_neg h1]at h;split at h<;>cases h
  have h2:b<c:=by
   by_cases h1:b<c
   ·exact h1
   ·rw[if_neg h1]at g;split at g<;>cases g
  rw[if_pos ∅]
 |.int _,.tup _,.int _,_,g=>by simp[aA]at g
 |.int _,.int _,.tup _,_,_=>by simp[aA]
 |.int _,.tup _,.tup _,_,_=>by simp[aA]
 |.tup _,.int _,_,h,_=>by simp[aA]at h
 |.tup _,.tup _,.int _,_,g=>by simp[aA]at g
 |.tup a,.tup b,.tup c,h,g=>by simp only[aA]at h g⊢;exact cmpKs_trans a b c h g
theorem cmpKs_trans:∀a b c,cmpKs a b=.lt->cmpKs b c=.lt->cmpKs a c=.lt
 |[],[],_,h,_=>by simp[cmpKs]at h
 |[],_::_,[],_,g=>by simp[cmpKs]at g
 |[],_::_,_::_,_,_=>by simp[cmpKs]
 |_::_,[],_,h,_=>by simp[cmpKs]at h
 |_::_,_::_,[],_,g=>by simp[cmpKs]at g
 |x::xs,y::ys,z::zs,h,g=>by
  simp only[cmpKs]at h g⊢
  cases e:aA x y with
  |gt=>rw[e]at h;cases h
  |eq=>
   have:=hZ x y e;subst this;rw[e]at h
   cases e2:aA x z with
   |gt=>rw[e2]at g;cases g
   |lt=>rfl
   |eq=>rw[e2]at g;exact cmpKs_trans xs ys zs h g
  |lt=>
   cases e2:aA y z with
   |gt=>rw[e2]at g;cases g
   |lt=>rw[jx x y z e e2];rfl
   |eq=>have:=hZ y z e2;subst this;rw[e];rfl
end
noncomputable def ltK(a b:Ky):Bool:=aA a b==.lt
noncomputable def nT(a b:List Ky):Bool:=cmpKs a b==.lt
theorem xv(a b:Ky)(h:ltK a b=N2):ltK b a=Ua:=by unfold ltK at h⊢;rw[cW a b,(by simpa using h:aA a b=.lt)];rfl
theorem ln(a b:Ky)(h:ltK a b=Ua)(g:ltK b a=Ua):a=b:=by
 unfold ltK at h g;rw[cW a b]at g;apply hZ
 cases e:aA a b with
 |eq=>rfl
 |lt=>rw[e]at h;cases h
 |gt=>rw[e]at g;cases g
theorem A0(a b c:Ky)(h:ltK a c=N2):ltK a b=N2∨ltK b c=N2:=by
 cases e:ltK a b with
 |true=>exact .inl rfl
 |false=>
  right
  cases j:ltK b a with
  |false=>rw[ln a b e j]at h;exact h
  |true=>unfold ltK at h j⊢;rw[jx b a c (by simpa using j) (by simpa using h)];rfl
theorem uF(x y:Ky)(xs ys:List Ky):nT (x::xs) (y::ys)=if(!ltK x y && !ltK y x)=N2 then nT xs ys else ltK x y:=by
 unfold nT ltK;rw[cW x y];simp only[cmpKs]
 cases aA x y<;>simp
mutual
noncomputable def toK:KH->Ky
 |.int i=>.int i
 |.tuple xs=>.tup (toKs xs)
 |_=>.int 0
noncomputable def toKs:List KH->List Ky
 |[]=>[]
 |x::xs=>toK x::toKs xs
end
inductive Cmpb:KH->KH->Prop where
 |int (a b:Int):Cmpb (.int a) (.int b)
 |nil (ys:List KH):Cmpb (.tuple []) (.tuple ys)
 |nil' (xs:List KH):Cmpb (.tuple xs) (.tuple [])
 |cons {x y:KH} {xs ys:List KH}:Cmpb x y->Cmpb (.tuple xs) (.tuple ys)->Cmpb (.tuple (x::xs)) (.tuple (y::ys))
theorem Cmpb.eqv{x y:KH}(h:Cmpb x y):Km x y=(!ltK (toK x) (toK y) && !ltK (toK y) (toK x)):=by
 have g:∀{x y:KH},Cmpb x y->Km x y=(aA (toK x) (toK y)==.eq):=by
  intro x y h
  induction h with
  |int a b=>
   simp only[Km,toK,aA]
   by_cases h1:a<b
   ·rw[if_pos h1];simp;lia
   ·by_cases h2:a=b
    ·rw[if_neg h1,if_pos h2];simp[h2]
    ·rw[if_neg h1,if_neg h2];simp;lia
  |nil ys=>cases ys<;>simp[Km,Lk,toK,toKs,aA,cmpKs]
  |nil' xs=>cases xs<;>simp[Km,Lk,toK,toKs,aA,cmpKs]
  |@cons x y xs ys h1 h2 ih1 j=>
   simp only[Km]at j⊢;simp only[Lk,toK,toKs,aA,cmpKs]at j⊢;rw[ih1,j]
   cases aA (toK x) (toK y)<;>simp
 rw[g h];unfold ltK;rw[cW (toK x) (toK y)]
 cases aA (toK x) (toK y)<;>rfl
section
variable{prog:JB}{w:K1}{A:Kh}{E:hH->I7->Prop}{s:I7}
theorem trd{b:Bool}{Q:Bool->I7->Prop}(q:Q b s):Jm (Ju prog w) A (truthOfDropped (.bool b)) Q E s:=by
 unfold truthOfDropped
 wp_walk
 exact q
theorem i3(a b:Int):ltK (.int a) (.int b)=decide (a<b):=by
 simp only[ltK,aA]
 by_cases h:a<b
 ·simp[h]
 ·by_cases h2:a=b<;>simp[h,h2]
theorem uG{a b:Int}{t u:Tok}{Q:hH->I7->Prop}(q:Q (.bool (decide (a<b))) s):Jm (Ju prog w) A (SK .Lt (.int a t) (.int b u)) Q E s:=wpAny_richCompare_same (T:="int") rfl rfl F.slot_int_lt (call_int_lt ⟨by simp,q⟩)
noncomputable def cr:List KH->List KH->Option Bool
 |x::xs,y::ys=>if Km x y=N2 then cr xs ys else Z (ltK (toK x) (toK y))
 |_,_=>Y
theorem iK:∀{xs ys:List KH},Cmpb (.tuple xs) (.tuple ys)->ltK (toK (.tuple xs)) (toK (.tuple ys))=match cr xs ys with|some b=>b|none=>decide (xs.length<ys.length)
 |[],[],_=>rfl
 |[],_::_,_=>by simp[cr,toK,toKs,ltK,aA,cmpKs]
 |_::_,[],_=>by simp[cr,toK,toKs,ltK,aA,cmpKs]
 |x::xs,y::ys,h=>by
  cases h with
  |cons h1 h2=>
   have ih:=iK h2;have e:∀a b:List Ky,ltK (.tup a) (.tup b)=nT a b:=λa b=>by simp[ltK,nT,aA]
   simp only[toK,toKs,e]at ih⊢;rw[uF,<-h1.eqv];simp only[cr]
   split
   ·rw[ih];simp
   ·rfl
noncomputable def cA{α β:Type}(M:Oy)(A:Kh)(E:hH->I7->Prop)(f:α->β->Sem (ForInStep β))(Q:β->I7->Prop):List α->β->I7->Prop
 |[],c,s=>Q c s
 |x::xs,c,s=>Jm M A (f x c) (λr s'=>match r with|.done c'=>Q c' s'|.yield c'=>cA M A E f Q xs c' s') E s
theorem fJ{α β:Type}{M:Oy}{f:α->β->Sem (ForInStep β)}{Q:β->I7->Prop}:∀{l:List α} {c:β} {s:I7},cA M A E f Q l c s->Jm M A (forIn l c f) Q E s
 |[],c,s,h=>by rw[QI];exact D2 h
 |x::xs,c,s,h=>by
  rw[Mq];refine gV (LA h (λr s' j=>?_) λ_ _ z=>z)
  cases r with
  |done c'=>exact D2 j
  |yield c'=>exact fJ j
theorem ca{h:Heap}:∀{vs:List hH} {xs:List KH} {as:List Ub},QO h vs xs as->vs.length=xs.length
 |_,_,_,.nil=>rfl
 |_,_,_,.cons _ r=>by simp[ca r]
theorem iL{α β:Type}{M:Oy}{n:Nat}{f:α->Option β×Unit->Sem (ForInStep (Option β×Unit))}{g:Bool->β}{pr:α->hH×hH}{Q:Option β×Unit->I7->Prop}:
 ∀{l:List α} {vs us:List hH} {xs ys:List KH} {as bs:List Ub},l.map pr=vs.zip us->QO s.heap vs xs as->QO s.heap us ys bs->Cmpb (.tuple xs) (.tuple ys)->KS xs=N2->KS ys=N2->LW xs<=n->
  (∀(z:α) (x y:hH) (d e:KH) (as bs:List Ub) (R:ForInStep (Option β×Unit)->I7->Prop),z∈l->pr z=(x,y)->NY s.heap x d as->NY s.heap y e bs->Cmpb d e->d.canLay0=N2->e.canLay0=N2->d.depth<=n->
   R (if Km d e=N2 then .yield (Y,())else .done (Z (g (ltK (toK d) (toK e))),())) s->Jm M A (f z (Y,())) R E s)->
  Q ((cr xs ys).map g,()) s->cA M A E f Q l (Y,()) s
 |[],vs,us,xs,ys,as,bs,e,j,B,F,_,_,_,_,q=>by
  have h1:=ca j;have h2:=ca B;have:vs=[]∨us=[]:=by
   cases vs with
   |nil=>exact .inl rfl
   | cons v vs=>cases us with
     |nil=>exact .inr rfl
     |cons u us=>simp at e
  have G:cr xs ys=Y:=by
   rcases this with rfl|rfl
   ·cases xs with
    |nil=>simp[cr]
    |cons x xs=>simp at h1
   ·cases ys with
    |nil=>cases xs<;>simp[cr]
    |cons y ys=>simp at h2
  rw[G]at q;exact q
 |z::l,vs,us,xs,ys,as,bs,e,j,B,F,lx,ly,hd,hf,q=>by
  cases j with
  |nil=>simp at e
  |cons rx j=>
   cases B with
   |nil=>simp at e
   |cons ry B=>
    simp only[Jr,List.zip_cons_cons,SX]at e;simp only[KS,D1]at lx ly;simp only[LW]at hd
    cases F with
    |cons J L=>
     simp only[cA];refine hf z _ _ _ _ _ _ _ (by simp) e.1 rx ry J lx.1 ly.1 ∅ ?_
     simp only[cr]at q
     split at q
     ·next h=>rw[if_pos h];exact iL e.2 j B L lx.2 ly.2 ∅ (λz x y d e as bs R O=>hf z x y d e as bs R (by simp[O])) q
     ·next h=>rw[if_neg h];exact q
def Eu(n:Nat):Prop:=∀(prog:JB) (w:K1) (A:Kh) (s:I7) (a b:hH) (d e:KH) (as bs:List Ub) (E:hH->I7->Prop) (Q:hH->I7->Prop),d.depth<=n->Cmpb d e->NY s.heap a d as->NY s.heap b e bs->d.canLay0=N2->e.canLay0=N2->A.units+n+1<LF->
 Q (.bool (ltK (toK d) (toK e))) s->Jm (Ju prog w) A (SK .Lt a b) Q E s
theorem Dw:∀n,Eu n:=by
 intro n
 induction n with
 |zero=>
  intro prog w A s a b d e as bs E Q hd z ra rb ld le fv q
  cases z with
  |int i j=>
   cases ra;cases rb
   exact uG (by rw[<-i3];exact q)
  |nil ys=>simp[N1]at hd
  |nil' xs=>simp[N1]at hd
  |cons _ _=>simp[N1]at hd
 |succ n ih=>
  intro prog w A s a b d e as bs E Q hd z ra rb ld le fv q;have tup:∀xs ys,d=.tuple xs->e=.tuple ys->Jm (Ju prog w) A (SK .Lt a b) Q E s:=by
   rintro xs ys rfl rfl
   cases ra with
   |tuple h1 h2 h3 J=>
    cases rb with
    |tuple g1 g2 g3 L=>
     rename_i l ol vl nl p ob vb nb;have tl:s.TypeIs (.ref l) "tuple":=⟨_,h1,h2⟩;have tb:s.TypeIs (.ref p) "tuple":=⟨_,g1,g2⟩;refine OU tl tb SY (K7 SY tl F.entry_tuple_lt ?_ (F.args_tuple_lt_2 _ _)) ∅
     unfold LR.«tuple.__lt__»;refine gV ?_;have O:isSubtype (.type "tuple") (.type "tuple")=pure N2:=by rw[O6];kernel_rfl
     wp_walk
     rw[h3]
     wp_walk
     rw[g3];refine D2 ?_;refine D2 ?_;refine gV (fJ (iL (n:=n) (g:=λb=>Fin.done (Flow.ret (T9 b))) (pr:=id) (List.map_id _) J L z ld le (by simp[N1]at hd;lia) ?_ ?_))
     ·rintro⟨x,y⟩ x' y' d e as bs R _ hz rx ry z ld le hd r
      cases hz
      dsimp only;refine gV (Sm d e _ _ _ _ _ _ rx ry ld le ?_ prog w E _ ?_)
      ·show A.units+1+min d.depth e.depth<LF;lia
      ·by_cases B:Km d e=N2
       ·rw[if_pos B]at r;rw[B];exact D2 r
       ·rw[if_neg B]at r;have B:Km d e=Ua:=by simpa using B
        rw[B];refine gV (Ll (gV (ih prog w _ s x y d e as bs E _ hd z rx ry ld le ?_ ?_)))
        ·show A.units+1+n+1<LF;lia
        ·exact D2 r
     ·have G:=iK z
      cases e2:cr xs ys with
      |some b=>rw[e2]at G;dsimp only at G;rw[G]at q;exact D2 ⟨_,rfl,by simp,q⟩
      |none=>
       rw[e2]at G;dsimp only at G;rw[G]at q;have U:=ca J;have F2:=ca L;refine D2 ⟨_,rfl,?_,?_⟩
       ·simp[Ob]
       ·simp only[Jy]at U F2;simp only[Ob];rw[U,F2];exact q
  cases z with
  |int i j=>
   cases ra;cases rb
   exact uG (by rw[<-i3];exact q)
  |nil ys=>exact tup _ _ rfl rfl
  |nil' xs=>exact tup _ _ rfl rfl
  |cons _ _=>exact tup _ _ rfl rfl
end
end Srt
namespace Srt
section
variable{prog:JB}{w:K1}{A:Kh}{E:hH->I7->Prop}{s:I7}
theorem jy{α β:Type}{M:Oy}{f:α->Sem β}{g:α->β}:∀{l:List α} {Q:List β->I7->Prop},(∀x∈l,∀R:β->I7->Prop,R (g x) s->Jm M A (f x) R E s)->Q (l.map g) s->Jm M A (l.mapM f) Q E s
 |[],Q,_,q=>by rw[List.mapM_nil];exact D2 q
 |x::xs,Q,h,q=>by rw[List.mapM_cons];refine gV (h x (by simp) _ (gV (jy (λy j=>h y (by simp[j])) (D2 q))))
theorem eI{α β:Type}{M:Oy}{f:α->Sem β}{g:α->β}{xs:Array α}{Q:Array β->I7->Prop}(h:∀x∈xs.toList,∀R:β->I7->Prop,R (g x) s->Jm M A (f x) R E s)(q:Q (xs.map g) s):Jm M A (xs.mapM f) Q E s:=by
 rw[Array.mapM_eq_mapM_toList];rw[map_eq_pure_bind];refine gV (jy h (D2 ?_));have:(xs.toList.map g).toArray=xs.map g:=by apply Oo.mp;simp
 rw[this];exact q
theorem lp{a:Ub}{v:hH}{vs:List hH}{o:Obj}{n:Nat}(h1:s.heap.get? a=Z o)(h2:o.cls=.type "tuple")(j:o.data=.seq (v::vs).toArray n){Q:Option hH->I7->Prop}(q:Q (Z v) s):Jm (Ju prog w) A (firstOfTuple' (.ref a)) Q E s:=by
 unfold firstOfTuple';have ty:s.TypeIs (.ref a) "tuple":=⟨_,h1,h2⟩
 wp_walk
 rw[j];refine D2 ?_;refine D2 ?_;exact D2 q
theorem A1{a:Ub}{o:Obj}{T:hH}(h1:s.heap.get? a=Z o)(h2:o.cls=T){Q:hH->I7->Prop}(q:Q T s):Jm (Ju prog w) A (typeOf (.ref a)) Q E s:=by
 wp_walk
 rw[h2];exact q
theorem uH{n:Nat}{x y:hH}{d e:KH}{as bs:List Ub}(j:Cmpb d e)(rx:NY s.heap x d as)(ry:NY s.heap y e bs)(ld:d.canLay0=N2)(le:e.canLay0=N2)(hd:d.depth<=n)(z:A.units+n+1<LF){Q:Bool->I7->Prop}(q:Q (ltK (toK d) (toK e)) s):Jm (Ju prog w) A (oneLt' Ua x y) Q E s:=by rw[oneLt'_eq];exact gV (Dw n prog w A s x y d e as bs E _ hd j rx ry ld le z (trd q))
theorem lq{n:Nat}{b:Bool}{x y:hH}{xs ys:List KH}{as bs:List Ub}(hb:b=N2->∀d e,xs.head?=Z d->ys.head?=Z e->(∃i,d=.int i)/\∃i,e=.int i)(G:Cmpb (.tuple xs) (.tuple ys))(rx:NY s.heap x (.tuple xs) as)(ry:NY s.heap y (.tuple ys) bs)(lx:KS xs=N2)(ly:KS ys=N2)(hd:LW xs<=n)(hu:A.units+n+1<LF){Q:Bool->I7->Prop}(q:Q (ltK (toK (.tuple xs)) (toK (.tuple ys))) s):
 Jm (Ju prog w) A (keyLt' (tuples' b) x y) Q E s:=by
 cases rx with
 |tuple h1 h2 h3 J=>
  cases ry with
  |tuple g1 g2 g3 L=>
   refine gV (S2 h1 h3 ?_);refine gV (S2 g1 g3 ?_);refine gV (fJ (iL (n:=n) (g:=id) (pr:=Prod.fst) (List.zipIdx_map_fst _ _) J L G lx ly hd ?_ ?_))
   ·rintro⟨⟨x,y⟩,i⟩ x' y' d e as bs R hz hp rx ry G ld le hd r
    cases hp
    dsimp only;refine gV (Sm d e _ _ _ _ _ _ rx ry ld le ∅ prog w E _ ?_)
    by_cases F:Km d e=N2
    ·rw[if_pos F]at r;rw[F];exact D2 r
    ·rw[if_neg F]at r;have F:Km d e=Ua:=by simpa using F
     rw[F];refine gV ?_
     by_cases z:(b&&i==0)=N2
     ·rw[z];simp only[D1,beq_iff_eq]at z;obtain⟨rfl,rfl⟩:=z;have j:=Na.mp hz;obtain⟨U,F2,t1,fv,B,O⟩:∃(U F2:Int) (t1 fv:Tok),x=.int U t1/\y=.int F2 fv:=by
       generalize hV:Q7 _=vl at J j;generalize hU:Q7 _=ul at L j
       cases J with
       |nil=>simp at j
       |cons p1 p2=>
        cases L with
        |nil=>simp at j
        |cons q1 q2=>
         simp at j;obtain⟨⟨U,ei⟩,⟨F2,ej⟩⟩:=hb rfl _ _ rfl rfl;subst ei ej
         cases p1;cases q1
         exact⟨_,_,_,_,j.1.symm,j.2.symm⟩
      subst B O
      cases rx;cases ry
      refine oneLt_int ?_;rw[<-i3];exact D2 r
     ·have z:(b&&i==0)=Ua:=by simpa using z
      rw[z];exact uH G rx ry ld le hd hu (D2 r)
   ·have B:=iK G
    cases O:cr xs ys with
    |some b=>rw[O]at B;dsimp only at B;rw[B]at q;exact D2 q
    |none=>rw[O]at B;dsimp only at B;rw[B]at q;have n1:=ca J;have n2:=ca L;refine D2 ?_;simp only[Jy]at n1 n2;rw[n1,n2];exact q
end
end Srt
namespace Srt
structure nU(n:Nat)(ds:List KH):Prop where
 cmp:∀d∈ds,∀e∈ds,Cmpb d e
 lay:∀d∈ds,d.canLay0=N2/\d.depth<=n
 kind:(∀d∈ds,∃i,d=.int i)∨(∀d∈ds,∃i xs,d=.tuple (.int i::xs))∨(∀d∈ds,∃ys xs,d=.tuple (.tuple ys::xs))
noncomputable def cE(h:Heap):hH->Option hH
 |.ref a=>(h.get? a).bind λo=>match o.data with|.seq xs _=>xs[0]?|_=>Y
 |_=>Y
variable{vs:List hH}{h:Heap}{v:hH}
section
variable{prog:JB}{w:K1}{A:Kh}{E:hH->I7->Prop}{s:I7}
noncomputable def dw(h:Heap)(x:J7):Ky:=toK (Lp h x.1)
def RdL(h:Heap)(vs:List hH)(ds:List KH):Prop:=∀v∈vs,∃d∈ds,∃as,NY h v d as
theorem gu{arr:Array hH}{T:String}(h0:0<arr.size)(h:∀v∈arr.toList,∀R:hH->I7->Prop,R (.type T) s->Jm (Ju prog w) A (typeOf v) R E s){Q:Option hH->I7->Prop}(q:Q (Z (.type T)) s):Jm (Ju prog w) A (oneTypeOnly' arr) Q E s:=by
 rw[oneTypeOnly'_eq];refine gV (eI (g:=λ_=>L3 T) h ?_);have e:(Oq (λ_=>L3 T) arr)[0]?=Z (L3 T):=by rw[Array.getElem?_map,JQ h0];rfl
 rw[e];dsimp only;have j:((Oq (λ_=>L3 T) arr).all λx=>x==L3 T)=N2:=by rw[S4];intro i hi;simp
 rw[j];exact D2 q
theorem si{n:Nat}{kd:ND}{ds:List KH}(j:RdL s.heap vs ds)(hs:nU n ds)(h:∀(x y:hH) (d e:KH) (as bs:List Ub) (E:hH->I7->Prop) (Q:Bool->I7->Prop),d∈ds->e∈ds->NY s.heap x d as->NY s.heap y e bs->Q (ltK (toK d) (toK e)) s->Jm (Ju prog w) A (keyLt' kd x y) Q E s):
 Cm prog w A s kd (λx=>x.1∈vs) (λx y=>ltK (dw s.heap x) (dw s.heap y)) where
 asym:=λx y=>xv _ _
 neg:=λx y z=>A0 _ _ _
 run:=λx y E Q hx B q=>by obtain⟨d,hd,as,ra⟩:=j _ hx;obtain⟨e,he,bs,rb⟩:=j _ B;have F:=Mt (hs.lay d hd).1 ra;have G:=Mt (hs.lay e he).1 rb;unfold dw at q;rw[F,G]at q;exact h _ _ d e as bs E Q hd he ra rb q
theorem nV(j:∀v∈vs,∃u,cE h v=Z u):((vs.toArray.map (cE h)).all λx=>x.isSome)=N2:=by rw[S4];intro i hi;simp at hi;obtain⟨u,q⟩:=j vs[i] (KO hi);simp[q]
theorem uI{x:hH}(hx:x∈(T1 id (vs.toArray.map (cE h))).toList):∃v∈vs,cE h v=Z x:=by simp at hx;exact hx
theorem uJ{u:hH}(j:cE h v=Z u):0<(T1 id ((v::vs).toArray.map (cE h))).size:=by rw[<-Jy];simp[j]
theorem lr{d:KH}{xs:List KH}{as:List Ub}(r:NY h v (.tuple (d::xs)) as):∃a o u us n bs,v=.ref a/\h.get? a=Z o/\o.cls=.type "tuple"/\o.data=.seq (u::us).toArray n/\NY h u d bs:=by
 cases r with
 |@tuple a o vs n xs as h1 h2 j h4=>
  generalize q:vs.toList=vl at h4
  cases h4 with
  |@cons u us _ _ bs _ z p2=>exact⟨_,_,u,us,n,bs,rfl,h1,h2,by rw[j];congr 1;apply Oo.mp;simpa using q,z⟩
theorem Dx{n:Nat}{ds:List KH}(F2:RdL s.heap (v::vs) ds)(hs:nU n ds)(z:A.units+n+1<LF):
 ∃kd,(∀(E:hH->I7->Prop) (Q:ND->I7->Prop),Q kd s->Jm (Ju prog w) A (keyKind' (v::vs).toArray) Q E s)/\Cm prog w A s kd (λx=>x.1∈v::vs) (λx y=>ltK (dw s.heap x) (dw s.heap y)):=by
 rcases hs.kind with J|J|J
 ·refine⟨oneType',λE Q q=>?_,si F2 hs λx y d e as bs E Q hd he ra rb q=>?_⟩
  ·have hint:∀u∈v::vs,∃i t,u=.int i t:=fun u z=>by
    obtain⟨d,hd,as,ra⟩:=F2 u z;obtain⟨i,rfl⟩:=J d hd
    cases ra
    exact⟨_,_,rfl⟩
   rw[SM];refine gV (eI (g:=λ_=>(Y:Option hH)) (λu z R r=>?_) ?_)
   ·obtain⟨i,t,rfl⟩:=hint u (by simpa using z)
    rw[firstOfTuple'_int];exact D2 r
   ·have fv:((Oq (fun _=>(Y:Option hH)) (v::vs).toArray).all fun x=>x.isSome)=Ua:=by
     simp
    rw[fv];have B:((Oq (λ_=>(Y:Option hH)) (v::vs).toArray)[0]?.bind id).isSome=Ua:=by simp
    simp only[B,Ld,if_false];refine gV (gu (T:="int") (by simp) (λu z R r=>?_) ?_)
    ·obtain⟨i,t,rfl⟩:=hint u (by simpa using z)
     exact D2 r
    ·exact D2 q
  ·obtain⟨i,rfl⟩:=J d hd;obtain⟨j,rfl⟩:=J e he
   cases ra;cases rb
   rw[keyLt'_oneType];exact oneLt_int (by rw[<-i3];exact q)
 ·refine⟨tuples' N2,λE Q q=>?_,si F2 hs λx y d e as bs E Q hd he ra rb q=>?_⟩
  ·have hf:∀u∈v::vs,∃a o i t us n,u=.ref a/\s.heap.get? a=Z o/\o.cls=.type "tuple"/\o.data=.seq (.int i t::us).toArray n:=fun u z=>by
    obtain⟨d,hd,as,ra⟩:=F2 u z;obtain⟨i,xs,rfl⟩:=J d hd;obtain⟨a,o,u1,us,n,bs,fv,B,L,G,O⟩:=lr ra
    cases O
    exact⟨a,o,_,_,us,n,fv,B,L,G⟩
   have F:∀u∈v::vs,∃i t,cE s.heap u=Z (.int i t):=λu z=>by obtain⟨a,o,i,t,us,n,rfl,B,L,G⟩:=hf u z;exact⟨i,t,by simp[cE,B,G]⟩
   rw[SM];refine gV (eI (g:=cE s.heap) (λu z R r=>?_) ?_)
   ·obtain⟨a,o,i,t,us,n,rfl,B,L,G⟩:=hf u (by simpa using z)
    refine lp B L G ?_;simpa[cE,B,G]using r
   ·rw[nV (λu z=>let⟨i,t,e⟩:=F u z; ⟨_,e⟩)];refine gV (Ll ?_);obtain⟨i0,t0,e0⟩:=F v (by simp)
    refine gV (gu (T:="int") (uJ e0) (λu z R r=>?_) ?_)
    ·obtain⟨u',U,e⟩:=uI z;obtain⟨i,t,e'⟩:=F u' U;rw[e']at e;cases e;exact D2 r
    ·exact D2 q
  ·obtain⟨i,xs,rfl⟩:=J d hd;obtain⟨j,ys,rfl⟩:=J e he;have l1:=hs.lay _ hd;have l2:=hs.lay _ he;refine lq (n:=n) (λ_ d e hd he=>?_) (hs.cmp _ hd _ he) ra rb (by simpa[O7]using l1.1) (by simpa[O7]using l2.1) (by have:=l1.2;simp[N1]at this;lia) z q
   simp at hd he;subst hd he;exact⟨⟨_,rfl⟩,_,rfl⟩
 ·refine⟨tuples' Ua,λE Q q=>?_,si F2 hs λx y d e as bs E Q hd he ra rb q=>?_⟩
  ·have hf:∀u∈v::vs,∃a o b ob us n,u=.ref a/\s.heap.get? a=Z o/\o.cls=.type "tuple"/\o.data=.seq (.ref b::us).toArray n/\s.heap.get? b=Z ob/\ob.cls=.type "tuple":=fun u z=>by
    obtain⟨d,hd,as,ra⟩:=F2 u z;obtain⟨ys,xs,rfl⟩:=J d hd;obtain⟨a,o,u1,us,n,bs,fv,B,L,G,O⟩:=lr ra
    cases O with
    |tuple h1 h2 h3 h4=>exact⟨a,o,_,_,us,n,fv,B,L,G,h1,h2⟩
   have F:∀u∈v::vs,∃b ob,cE s.heap u=Z (.ref b)/\s.heap.get? b=Z ob/\ob.cls=.type "tuple":=λu z=>by obtain⟨a,o,b,ob,us,n,rfl,B,L,G,O,e6⟩:=hf u z;exact⟨b,ob,by simp[cE,B,G],O,e6⟩
   rw[SM];refine gV (eI (g:=cE s.heap) (λu z R r=>?_) ?_)
   ·obtain⟨a,o,b,ob,us,n,rfl,B,L,G,O,e6⟩:=hf u (by simpa using z)
    refine lp B L G ?_;simpa[cE,B,G]using r
   ·rw[nV (λu z=>let⟨i,t,e,_⟩:=F u z; ⟨_,e⟩)];refine gV (Ll ?_);obtain⟨i0,t0,e0,_⟩:=F v (by simp)
    refine gV (gu (T:="tuple") (uJ e0) (λu z R r=>?_) ?_)
    ·obtain⟨u',U,e⟩:=uI z;obtain⟨b,ob,e',O,e6⟩:=F u' U;rw[e']at e;cases e;exact A1 O e6 r
    ·exact D2 q
  ·obtain⟨zs,xs,rfl⟩:=J d hd;obtain⟨zs',ys,rfl⟩:=J e he;have l1:=hs.lay _ hd;have l2:=hs.lay _ he;exact lq (n:=n) (λh=>by cases h) (hs.cmp _ hd _ he) ra rb (by simpa[O7]using l1.1) (by simpa[O7]using l2.1) (by have:=l1.2;simp[N1]at this;lia) z q
end
end Srt
namespace Srt
inductive Pl:KH->Prop where
 |int (i:Int):Pl (.int i)
 |tup (xs:List KH):(∀x∈xs,Pl x)->Pl (.tuple xs)
theorem bE{h h':Heap}(k:∀b o,h.get? b=Z o->o.cls=.type "tuple"->h'.get? b=Z o){d:KH}(p:Pl d):∀{v:hH} {as:List Ub},NY h v d as->NY h' v d as:=by
 induction p with
 |int i=>intro v as r;cases r;exact .int _ _
 |tup xs hx ih=>
  intro v as r
  cases r with
  |tuple h1 h2 q z=>
   refine .tuple (k _ _ h1 h2) h2 q ?_;have g:∀(xs:List KH),(∀x∈xs,∀{v:hH} {as:List Ub},NY h v x as->NY h' v x as)->∀(vs:List hH) (as:List Ub),QO h vs xs as->QO h' vs xs as:=by
    intro xs
    induction xs with
    |nil=>intro _ vs as r;cases r;exact .nil
    |cons x xs ihx=>
     intro j vs as r
     cases r with
     |cons B p2=>exact .cons (j x (by simp) B) (ihx (λy F=>j y (by simp[F])) _ _ p2)
   exact g xs ih _ _ z
section
variable{prog:JB}{w:K1}{A:Kh}{E:hH->I7->Prop}{s:I7}
theorem xw{α:Type}{R:α->α->Prop}:∀{l:List α},l.length<2->l.Pairwise R
 |[],_=>.nil
 |[_],_=>List.pairwise_singleton _ _
theorem A2{α:Type}:∀{l:List α},2<=l.length->∃x r,l=x::r
 |x::r,_=>⟨x,r,rfl⟩
theorem A3{cap:Nat}(S:hJ cap){m:Nat}{a:Ub}{vs:List hH}{n:Nat}{ds:List KH}(ha:s.heap.get? a=Z (Sn "list" vs.toArray n))(F2:RdL s.heap vs ds)(hs:nU m ds)(hp:∀d∈ds,Pl d)(hl:vs.length<=J9)(GE:vs.length<=cap)(hu:A.units+m+1<LF){Q:PySem.Fin->I7->Prop}(q:∀(h':Heap) (out:List hH) (n':Nat),(∀b o,b≠a->s.heap.get? b=Z o->h'.get? b=Z o)->h'.get? a=Z (Sn "list" out.toArray n')->out.Perm vs->out.Pairwise (λx y=>ltK (toK (Lp s.heap y)) (toK (Lp s.heap x))=Ua)->Q (.done (.ret .none)) {s with heap:=h'}):
 Jm (Ju prog w) A (LR.«list.sort» ⟨[.ref a],[]⟩) Q E s:=by
 rw[list_sort_plain];refine gV (S2 ha rfl ?_);refine gV (Ox ha rfl ?_ (by simpa using hl) (by simp))
 have g1:=NH ha (λ_=>#[]);generalize GF:s.heap.update a (MY λ_=>#[])=h1 at g1;generalize (if((#[]:Array hH).size==vs.toArray.size)=N2 then n else n+1)=n1 at g1
 refine gV (SN g1 rfl ?_);refine gV (QJ ?_ (by simpa using hl))
 refine gV (PF ?_ (by simp))
 refine Kj ?_;dsimp only;generalize O:({heap:=(h1.push {cls:=L3 "tuple",data:=Oz vs.toArray.toList.toArray}).push {cls:=L3 "list",data:=Oz [].toArray},gens:=s.gens,drawn:=s.drawn,toks:=s.toks,os:=s.os}:I7)=s3;have g3:s3.heap.get? a=Z (Sn "list" #[] n1):=by rw[<-O];exact D0 _ (D0 _ g1)
 have keep:∀b o,b≠a->s.heap.get? b=Z o->s3.heap.get? b=Z o:=λb o G J=>by rw[<-O,<-GF];exact D0 _ (D0 _ (by rw[Lu _ _ _ _ G];exact J))
 have keepT:∀b o,s.heap.get? b=Z o->o.cls=.type "tuple"->s3.heap.get? b=Z o:=λb o G hc=>keep b o (λz=>by rw[z,ha]at G;cases G;simp at hc) G
 have GG:RdL s3.heap vs ds:=λv hv=>by obtain⟨d,hd,as,r⟩:=F2 v hv;exact⟨d,hd,as,bE keepT (hp d hd) r⟩
 have same:∀v∈vs,Lp s3.heap v=Lp s.heap v:=λv hv=>by obtain⟨d,hd,as,r⟩:=F2 v hv;rw[Mt (hs.lay d hd).1 r,Mt (hs.lay d hd).1 (bE keepT (hp d hd) r)]
 have q:∀(h':Heap) (out:List hH) (n':Nat),(∀b o,b≠a->s.heap.get? b=Z o->h'.get? b=Z o)->h'.get? a=Z (Sn "list" out.toArray n')->out.Perm vs->out.Pairwise (λx y=>ltK (toK (Lp s.heap y)) (toK (Lp s.heap x))=Ua)->Q (.done (.ret .none)) {s3 with heap:=h'}:=by rw[<-O];exact q
 have GI:∀A':Kh,A'.units=A.units->True:=λ_ _=>trivial;clear O
 let Good:Ki->Prop:=λst'=>LY st'=Y/\(JZ st').toList.Perm (vs.zip vs)/\(JZ st').toList.Pairwise (λx y=>ltK (dw s3.heap y) (dw s3.heap x)=Ua)
 by_cases F:vs.toArray.size<2
 ·rw[if_pos F,if_pos F];refine gV (D2 ?_);have B:vs.length<2:=by simpa using F
  have run:Jm (Ju prog w) A ((pure ():StateT Ki Sem Unit).run (Om general' (vs.toArray.zip vs.toArray) #[] 7 Y)) (λr s'=>s'=s3/\Good r.2) E s3:=by
   refine D2 ⟨rfl,rfl,?_,?_⟩
   ·show(vs.toArray.zip vs.toArray).toList.Perm _;simp
   ·show List.Pairwise _ (vs.toArray.zip vs.toArray).toList;exact xw (by simpa using B)
  refine gV (LA (Q:=λr s'=>s'=s3/\Good r.2) run (λr s' F2=>?_) (λ_ _ z=>z));obtain⟨rfl,L,j,U⟩:=F2;obtain⟨u,st'⟩:=r;refine gV (SN g3 rfl ?_);refine gV (Ox g3 rfl ?_ (by simp) (by simp only[Array.size_map];have:=j.length_eq;simp at this;rw[this];lia))
  dsimp only at L;rw[L];simp only[bne_self_eq_false,Ld,if_false];refine D2 ?_;have gq:=NH g3 (λ_=>Oq (λx=>x.snd) (JZ st'));have eo:Oq (λx=>x.snd) (JZ st')=((JZ st').toList.map λx=>x.snd).toArray:=by apply Oo.mp;simp
  refine q _ ((JZ st').toList.map λx=>x.snd) _ (λb o G J=>?_) (by rw[gq,eo]) ?_ ?_
  ·rw[Lu _ _ _ _ G];exact keep b o G J
  ·have fv:=j.map (λx:J7=>x.snd);rw[So (by simp)]at fv
   exact fv
  ·rw[KU];refine U.imp_of_mem λ{x y} hx hy hxy=>?_;have mx:=OV (j.mem_iff.mp hx);have my:=OV (j.mem_iff.mp hy);unfold dw at hxy;rw[mx.1,my.1,same y.2 (by rw[<-my.1];exact my.2),same x.2 (by rw[<-mx.1];exact mx.2)]at hxy
   exact hxy
 ·rw[if_neg F,if_neg F];have B:2<=vs.length:=by simpa using F
  obtain⟨v0,GH,GA⟩:=A2 B;obtain⟨kd,GB,GC⟩:=Dx (prog:=prog) (w:=w) (A:=A) (v:=v0) (vs:=GH) (by rw[<-GA];exact GG) hs hu
  rw[<-GA]at GB GC;refine gV (GB E _ ?_);have run:Jm (Ju prog w) A (sortRuns'.run (Om kd (vs.toArray.zip vs.toArray) #[] 7 Y)) (λr s'=>s'=s3/\Good r.2) E s3:=by
   have ez:(JZ (Om kd (vs.toArray.zip vs.toArray) #[] 7 Y)).toList=vs.zip vs:=by show(vs.toArray.zip vs.toArray).toList=_;simp
   have h9:wpS (Ju prog w) A E s3 sortRuns' (λ_ st'=>Good st') (Om kd (vs.toArray.zip vs.toArray) #[] 7 Y):=by
    have GD:(JZ (Om kd (vs.toArray.zip vs.toArray) #[] 7 Y)).size=vs.length:=by rw[<-Jy,ez];simp
    refine S _ _ _ _ _ _ _ _ GC (Om kd (vs.toArray.zip vs.toArray) #[] 7 Y) _ rfl rfl rfl (λx hx=>?_) (by rw[GD];exact B) (by rw[GD];exact GE) λst' p1 p2 p3=>⟨p3,by rw[ez]at p1;exact p1,p2⟩
    rw[ez]at hx;exact(OV hx).2
   exact h9
  refine gV (LA (Q:=λr s'=>s'=s3/\Good r.2) run (λr s' F2=>?_) (λ_ _ z=>z));obtain⟨rfl,L,j,U⟩:=F2;obtain⟨u,st'⟩:=r;refine gV (SN g3 rfl ?_);refine gV (Ox g3 rfl ?_ (by simp) (by simp only[Array.size_map];have:=j.length_eq;simp at this;rw[this];lia))
  dsimp only at L;rw[L];simp only[bne_self_eq_false,Ld,if_false];refine D2 ?_;have gq:=NH g3 (λ_=>Oq (λx=>x.snd) (JZ st'));have eo:Oq (λx=>x.snd) (JZ st')=((JZ st').toList.map λx=>x.snd).toArray:=by apply Oo.mp;simp
  refine q _ ((JZ st').toList.map λx=>x.snd) _ (λb o G J=>?_) (by rw[gq,eo]) ?_ ?_
  ·rw[Lu _ _ _ _ G];exact keep b o G J
  ·have fv:=j.map (λx:J7=>x.snd);rw[So (by simp)]at fv
   exact fv
  ·rw[KU];refine U.imp_of_mem λ{x y} hx hy hxy=>?_;have mx:=OV (j.mem_iff.mp hx);have my:=OV (j.mem_iff.mp hy);unfold dw at hxy;rw[mx.1,my.1,same y.2 (by rw[<-my.1];exact my.2),same x.2 (by rw[<-mx.1];exact mx.2)]at hxy
   exact hxy
theorem sj(u:hH):checkBuiltinCall "sorted" ⟨[u],[]⟩=pure ():=by kernel_rfl
theorem uK{cap:Nat}(S:hJ cap){m:Nat}{u:hH}{ds:List KH}{C:Heap->List hH->Prop}{Q:hH->I7->Prop}(hu:A.units+m+3<LF)(hs:nU m ds)(F:∀d∈ds,Pl d)(G:∀(E:hH->I7->Prop) (R:List hH->I7->Prop),(∀(h':Heap) (vs':List hH) (t':Nat),C h' vs'->RdL h' vs' ds->vs'.length<=J9/\vs'.length<=cap->s.toks<=t'->R vs' {s with heap:=h',toks:=t'})->Jm (Ju prog w) A.in1 (collect u) R E s)(q:∀(h1 h2:Heap) (vs out:List hH) (n' t':Nat),C h1 vs->(∀b o,h1.get? b=Z o->h2.get? b=Z o)->h2.get? h1.objs.size=Z (Sn "list" out.toArray n')->out.Perm vs->out.Pairwise (λx y=>ltK (toK (Lp h2 y)) (toK (Lp h2 x))=Ua)->RdL h2 out ds->vs.length<=J9->s.toks<=t'->Q (.ref h1.objs.size) {s with heap:=h2,toks:=t'}):
 Jm (Ju prog w) A (call (.builtin "sorted") [u]) Q E s:=by
 refine wpAny_call (codeAny_call_builtin plain_sorted entry_sorted (MU (sj u) ?_));unfold Builtin.sorted;refine gV (MU (a:=()) (by kernel_rfl) ?_)
 refine gV (G _ _ λh1 vs t' hC L J ht=>?_);obtain⟨J,O⟩:=J;refine gV (PF ?_ J);refine gV (Kj ?_);have U:RdL (h1.push {cls:=L3 "list",data:=Oz vs.toArray}) vs ds:=λv B=>by obtain⟨d,hd,as,r⟩:=L v B;exact⟨d,hd,as,bE (λb o z _=>D0 _ z) (F d hd) r⟩
 have ha:(h1.push {cls:=L3 "list",data:=Oz vs.toArray}).get? h1.objs.size=Z (Sn "list" vs.toArray 0):=Jf _ rfl;refine K7 slot_list_sort (T:="list") ⟨_,ha,rfl⟩ entry_list_sort ?_ (args_list_sort _);refine A3 S (m:=m) ha U hs F J O (by show A.units+1+1+m+1<LF;lia) λh2 out n' keep g2 j F2=>⟨_,rfl,D2 ?_⟩
 have old:∀b o,h1.get? b=Z o->h2.get? b=Z o:=λb o z=>keep b o (JU (Jl z)) (D0 _ z);have fv:RdL h2 vs ds:=λv B=>by obtain⟨d,hd,as,r⟩:=L v B;exact⟨d,hd,as,bE (λb o z _=>old b o z) (F d hd) r⟩
 refine q h1 h2 vs out n' t' hC old g2 j ?_ (λv B=>fv v (j.mem_iff.mp B)) J ht;have same:∀v∈vs,Lp (h1.push {cls:=L3 "list",data:=Oz vs.toArray}) v=Lp h2 v:=λv B=>by obtain⟨d,hd,as,r⟩:=L v B;rw[Mt (hs.lay d hd).1 (bE (λb o z _=>old b o z) (F d hd) r),Mt (hs.lay d hd).1 (bE (λb o z _=>D0 _ z) (F d hd) r)]
 refine F2.imp_of_mem λ{x y} hx hy hxy=>?_;rw[same y (j.mem_iff.mp hy),same x (j.mem_iff.mp hx)]at hxy;exact hxy
end
end Srt
namespace It
end It
namespace It
end It
namespace It
end It
section
section
variable{P:JB}{w:K1}{H:Hp}{h:Heap}{a:Ub}{o:HO}
theorem ObjOk.there(x:ObjOk P w H h a o):∃ob,h.get? a=Z ob:=by
 cases o with
 |lst xs=>obtain⟨_,_,_,_,e⟩:=x;exact⟨_,e⟩
 |tup xs=>obtain⟨_,_,_,_,e,_⟩:=x;exact⟨_,e⟩
 |dK kvs=>obtain⟨_,_,_,_,o,_,_,e,_⟩:=x;exact⟨_,e⟩
 |dT kvs=>obtain⟨_,_,_,_,o,_,_,e,_⟩:=x;exact⟨_,e⟩
 |set S n=>obtain⟨o,_,_,_,e,_⟩:=x;exact⟨_,e⟩
 |ins C dx fs=>obtain⟨_,_,_,e,_⟩:=x;exact⟨_,e⟩
 |own y=>obtain⟨_,e⟩:=x;exact⟨_,e⟩
 |xd fs=>obtain⟨_,⟨_,_,_,e,_⟩,_⟩:=x;exact⟨_,e⟩
 |rng lo hi=>obtain⟨_,_,_,e⟩:=x;exact⟨_,e⟩
 |frz ob u=>obtain⟨e,_⟩:=x;exact⟨_,e⟩
 |tbl ps=>exact⟨_,show h.get? a=Z _ from x⟩
 |met f y=>exact⟨_,show h.get? a=Z _ from x⟩
 |ext φ=>obtain⟨_,⟨_,e⟩,_⟩:=x;exact⟨_,e⟩
end
noncomputable def lay(H:Hp)(N:Ub->Option HO):Hp:=λb=>match N b with|some o=>Z o|none=>H b
section
variable{X:Cx}{pins:List (Ub×Obj)}{σ:List (Option V)}{H:Hp}{s:I7}{h':Heap}{N:Ub->Option HO}
theorem A4{o:HO}(e:N b=Z o):lay H N b=Z o:=by unfold lay;rw[e]
theorem kf(e:N b=Y):lay H N b=H b:=by unfold lay;rw[e]
theorem Inv.fresh'(I:Inv X pins σ H s)(e:s.heap.get? b=Y):H b=Y:=by
 cases q:H b with
 |none=>rfl
 |some o=>obtain⟨ob,eo⟩:=(I.hok b o q).there;rw[e]at eo;cases eo
theorem Inv.laidN(I:Inv X pins σ H s)(k:∀b u,s.heap.get? b=Z u->h'.get? b=Z u)(j:∀b o,N b=Z o->s.heap.get? b=Y)(new:∀b o,N b=Z o->ObjOk X.prog X.w (lay H N) h' b o):Inv X pins σ (lay H N) {s with heap:=h',toks:=t'}:=by
 have old:∀b u,s.heap.get? b=Z u->N b=Y:=λb u e=>by
  cases q:N b with
  |none=>rfl
  |some o=>rw[j b o q]at e;cases e
 have oldH:∀b o,H b=Z o->lay H N b=Z o:=λb o e=>by obtain⟨ob,eo⟩:=(I.hok b o e).there;rw[kf (old b ob eo)];exact e
 refine I.un ⟨λb u q _ _ _=>k b u q,λb u q _ _ _=>⟨u.slots,k b u q⟩,λb u q n _=>by rw[kf (old b u q)];exact n,λb u q _=>⟨u,k b u q⟩,λb xs q=>oldH b _ q,λb u xs q=>oldH b _ q,λb ps q=>⟨#[],by rw[oldH b _ q];simp⟩⟩ λb o e=>?_
 cases q:N b with
 |some o'=>rw[A4 q]at e;cases e;exact new b o q
 |none=>rw[kf q]at e;exact(I.hok b o e).stay (λc v _ q=>k c v q) (λc q=>oldH c _ q) λc xs q=>oldH c _ q
end
namespace Mi
open L2.Srt
inductive Sh where
 |int
 |tup (l:List Sh)
mutual
noncomputable def hs:Sh->D->Bool
 |.int,.int _=>N2
 |.tup l,.tup ds=>hss l ds
 |_,_=>Ua
noncomputable def hss:List Sh->List D->Bool
 |[],[]=>N2
 |s::l,d::ds=>hs s d&&hss l ds
 |_,_=>Ua
end
mutual
noncomputable def pd:D->KH
 |.int i=>.int i
 |.tup ds=>.tuple (pds ds)
 |_=>.none
noncomputable def pds:List D->List KH
 |[]=>[]
 |d::ds=>pd d::pds ds
end
mutual
noncomputable def dep:Sh->Nat
 |.int=>0
 |.tup l=>deps l+1
noncomputable def deps:List Sh->Nat
 |[]=>0
 |s::l=>max (dep s) (deps l)
end
noncomputable def kg:Sh->Bool
 |.int=>N2
 |.tup (.int::l)=>decide (deps l<=6)
 |.tup (.tup a::l)=>decide (deps (.tup a::l)<=6)
 |.tup []=>Ua
noncomputable def kyD(d:D):Ky:=toK (pd d)
mutual
theorem uL:∀(s:Sh) (x y:D),hs s x=N2->hs s y=N2->Cmpb (pd x) (pd y)
 |.int,.int a,.int b,_,_=>by simp only[pd];exact .int a b
 |.tup l,.tup a,.tup b,h,g=>by simp only[hs]at h g;simp only[pd];exact hss_cmp l a b h g
 |.int,.int _,.non,_,g=>by simp[hs]at g
 |.int,.int _,.bl _,_,g=>by simp[hs]at g
 |.int,.int _,.str _,_,g=>by simp[hs]at g
 |.int,.int _,.tup _,_,g=>by simp[hs]at g
 |.int,.int _,.con _,_,g=>by simp[hs]at g
 |.int,.int _,.ref _,_,g=>by simp[hs]at g
 |.int,.non,_,h,_=>by simp[hs]at h
 |.int,.bl _,_,h,_=>by simp[hs]at h
 |.int,.str _,_,h,_=>by simp[hs]at h
 |.int,.tup _,_,h,_=>by simp[hs]at h
 |.int,.con _,_,h,_=>by simp[hs]at h
 |.int,.ref _,_,h,_=>by simp[hs]at h
 |.tup _,.non,_,h,_=>by simp[hs]at h
 |.tup _,.bl _,_,h,_=>by simp[hs]at h
 |.tup _,.int _,_,h,_=>by simp[hs]at h
 |.tup _,.str _,_,h,_=>by simp[hs]at h
 |.tup _,.con _,_,h,_=>by simp[hs]at h
 |.tup _,.ref _,_,h,_=>by simp[hs]at h
 |.tup _,.tup _,.non,_,g=>by simp[hs]at g
 |.tup _,.tup _,.bl _,_,g=>by simp[hs]at g
 |.tup _,.tup _,.int _,_,g=>by simp[hs]at g
 |.tup _,.tup _,.str _,_,g=>by simp[hs]at g
 |.tup _,.tup _,.con _,_,g=>by simp[hs]at g
 |.tup _,.tup _,.ref _,_,g=>by simp[hs]at g
theorem hss_cmp:∀(l:List Sh) (a b:List D),hss l a=N2->hss l b=N2->Cmpb (.tuple (pds a)) (.tuple (pds b))
 |[],[],[],_,_=>by simp only[pds];exact .nil _
 |[],[],_::_,_,g=>by simp[hss]at g
 |[],_::_,_,h,_=>by simp[hss]at h
 |_::_,[],_,h,_=>by simp[hss]at h
 |_::_,_::_,[],_,g=>by simp[hss]at g
 |s::l,x::a,y::b,h,g=>by simp only[hss,D1]at h g;simp only[pds];exact .cons (uL s x y h.1 g.1) (hss_cmp l a b h.2 g.2)
end
mutual
theorem sk:∀(s:Sh) (x:D),hs s x=N2->Pl (pd x)/\(pd x).canLay0=N2/\(pd x).depth<=dep s
 |.int,.int a,_=>by simp only[pd];exact⟨.int a,rfl,by simp[N1]⟩
 |.tup l,.tup a,h=>by simp only[hs]at h;obtain⟨h1,h2,j⟩:=hss_pl l a h;simp only[pd];exact⟨.tup _ h1,by simpa[O7]using h2,by simp[N1,dep];lia⟩
 |.int,.non,h=>by simp[hs]at h
 |.int,.bl _,h=>by simp[hs]at h
 |.int,.str _,h=>by simp[hs]at h
 |.int,.tup _,h=>by simp[hs]at h
 |.int,.con _,h=>by simp[hs]at h
 |.int,.ref _,h=>by simp[hs]at h
 |.tup _,.non,h=>by simp[hs]at h
 |.tup _,.bl _,h=>by simp[hs]at h
 |.tup _,.int _,h=>by simp[hs]at h
 |.tup _,.str _,h=>by simp[hs]at h
 |.tup _,.con _,h=>by simp[hs]at h
 |.tup _,.ref _,h=>by simp[hs]at h
theorem hss_pl:∀(l:List Sh) (a:List D),hss l a=N2->(∀x∈pds a,Pl x)/\KS (pds a)=N2/\LW (pds a)<=deps l
 |[],[],_=>by simp[pds,KS,LW]
 |[],_::_,h=>by simp[hss]at h
 |_::_,[],h=>by simp[hss]at h
 |s::l,x::a,h=>by
  simp only[hss,D1]at h;obtain⟨h1,h2,q⟩:=sk s x h.1;obtain⟨g1,g2,g3⟩:=hss_pl l a h.2;simp only[pds];refine⟨λy j=>?_,by simp[KS,h2,g2],by simp[LW,deps];lia⟩
  rcases Jp.mp j with z|z
  ·rw[z];exact h1
  ·exact g1 y z
end
mutual
theorem yB(M:Mem):∀(s:Sh) (x:D) (n:Nat),hs s x=N2->dep s<=n->rb n M x=Z (pd x)
 |.int,.int a,n,_,_=>by cases n<;>simp[rb,pd]
 |.tup l,.tup a,n,h,j=>by
  simp only[hs]at h;simp only[dep]at j;obtain⟨k,rfl⟩:∃k,n=k+1:=⟨n-1,∅⟩
  simp only[rb,pd];rw[hss_rb M l a k h ∅];rfl
 |.int,.non,_,h,_=>by simp[hs]at h
 |.int,.bl _,_,h,_=>by simp[hs]at h
 |.int,.str _,_,h,_=>by simp[hs]at h
 |.int,.tup _,_,h,_=>by simp[hs]at h
 |.int,.con _,_,h,_=>by simp[hs]at h
 |.int,.ref _,_,h,_=>by simp[hs]at h
 |.tup _,.non,_,h,_=>by simp[hs]at h
 |.tup _,.bl _,_,h,_=>by simp[hs]at h
 |.tup _,.int _,_,h,_=>by simp[hs]at h
 |.tup _,.str _,_,h,_=>by simp[hs]at h
 |.tup _,.con _,_,h,_=>by simp[hs]at h
 |.tup _,.ref _,_,h,_=>by simp[hs]at h
theorem hss_rb(M:Mem):∀(l:List Sh) (a:List D) (n:Nat),hss l a=N2->deps l<=n->aF (rb n M) a=Z (pds a)
 |[],[],_,_,_=>by simp[pds,aF]
 |[],_::_,_,h,_=>by simp[hss]at h
 |_::_,[],_,h,_=>by simp[hss]at h
 |s::l,x::a,n,h,j=>by simp only[hss,D1]at h;simp only[deps]at j;simp only[pds,aF];rw[yB M s x n h.1 ∅,hss_rb M l a n h.2 ∅];rfl
end
theorem nW{s:Sh}(h:kg s=N2):dep s<=7:=by
 match s,h with
 |.int,_=>simp[dep]
 |.tup (.int::l),h=>simp[kg]at h;simp[dep,deps];lia
 |.tup (.tup a::l),h=>simp only[kg,decide_eq_true_eq]at h;simp only[dep];lia
theorem A5{s:Sh}(h:kg s=N2){xs:List D}(hx:∀x∈xs,hs s x=N2):nU 7 (xs.map pd)/\∀d∈xs.map pd,Pl d:=by
 refine⟨⟨?_,?_,?_⟩,?_⟩
 ·intro d hd e he;obtain⟨x,h1,rfl⟩:=J8.mp hd;obtain⟨y,h2,rfl⟩:=J8.mp he;exact uL s x y (hx x h1) (hx y h2)
 ·intro d hd;obtain⟨x,h1,rfl⟩:=J8.mp hd;obtain⟨_,g2,g3⟩:=sk s x (hx x h1);exact⟨g2,by have:=nW h;lia⟩
 ·match s,h with
  |.int,_=>
   left
   intro d hd;obtain⟨x,h1,rfl⟩:=J8.mp hd;have:=hx x h1
   cases x<;>simp[hs]at this
   exact⟨_,rfl⟩
  |.tup (.int::l),_=>
   right;left
   intro d hd;obtain⟨x,h1,rfl⟩:=J8.mp hd;have:=hx x h1
   cases x<;>simp[hs]at this
   rename_i ds
   cases ds with
   |nil=>simp[hss]at this
   |cons y ys=>
    simp[hss]at this
    cases y<;>simp[hs]at this
    exact⟨_,_,rfl⟩
  |.tup (.tup a::l),_=>
   right;right
   intro d hd;obtain⟨x,h1,rfl⟩:=J8.mp hd;have:=hx x h1
   cases x<;>simp[hs]at this
   rename_i ds
   cases ds with
   |nil=>simp[hss]at this
   |cons y ys=>
    simp[hss]at this
    cases y<;>simp[hs]at this
    exact⟨_,_,rfl⟩
 ·intro d hd;obtain⟨x,h1,rfl⟩:=J8.mp hd;exact(sk s x (hx x h1)).1
theorem lu{α β:Type}(f:α->β):∀{l m:List β},l.Perm m->∀{t:List α},t.map f=m->∃t':List α,t'.Perm t/\t'.map f=l:=by
 intro l m h
 induction h with
 |nil=>intro t e;exact⟨[],by rw[List.map_eq_nil_iff.mp e],rfl⟩
 |cons x h ih=>
  intro t e
  cases t with
  |nil=>simp at e
  |cons a t=>simp at e;obtain⟨t',h1,h2⟩:=ih e.2;exact⟨a::t',h1.cons a,by simp[h2,e.1]⟩
 |swap x y l=>
  intro t e
  match t,e with
  |a::b::t,e=>simp at e;exact⟨b::a::t,.swap _ _ _,by simp[e]⟩
 |trans h1 h2 j q=>intro t e;obtain⟨G,p2,z⟩:=q e;obtain⟨t1,B,F⟩:=j z;exact⟨t1,B.trans p2,F⟩
def nX(ys:List D):Prop:=ys.Pairwise λa b=>ltK (kyD b) (kyD a)=Ua
theorem qu{K:Frag}{H:Hp}:∀{ds:List D} {vs:List V} {us:List hH},RDs K H ds vs->Vals vs us->∃t:List (D×V×hH),t.map (·.1)=ds/\t.map (·.2.1)=vs/\t.map (·.2.2)=us/\∀p∈t,RD K H p.1 p.2.1/\RelV p.2.1 p.2.2
 |[],vs,us,h,g=>by
  cases RDs.nil_iff.mp h
  cases g
  exact⟨[],rfl,rfl,rfl,λ_ h=>by simp at h⟩
 |d::ds,vs,us,h,g=>by
  obtain⟨v,r,rfl,h1,h2⟩:=TL.mp h
  cases g with
  |cons g1 g2=>
   rename_i u us;obtain⟨t,j,q,B,F⟩:=qu h2 g2;exact⟨(d,v,u)::t,by simp[j],by simp[q],by simp[B],λp G=>by
    rcases Jp.mp G with z|z
    ·rw[z];exact⟨h1,g1⟩
    ·exact F p z⟩
theorem qv{K:Frag}{H:Hp}:∀{t:List (D×V×hH)},(∀p∈t,RD K H p.1 p.2.1/\RelV p.2.1 p.2.2)->RDs K H (t.map (·.1)) (t.map (·.2.1))/\Vals (t.map (·.2.1)) (t.map (·.2.2))
 |[],_=>⟨RDs.nil,.nil⟩
 |p::t,h=>by
  obtain⟨h1,h2⟩:=qv (t:=t) λq j=>h q (by simp[j])
  exact⟨RDs.cons (h p (by simp)).1 h1,.cons (h p (by simp)).2 h2⟩
section
variable{X:Cx}
theorem pW{cap:Nat}(S:hJ cap)(L:X.A.units+16<LF){pins:List (Ub×Obj)}{s:I7}{σ:St}{H:Hp}{Q:VK}(I:Inv X pins σ H s){M:Mem}(rm:RM X.K M H){es:List D}{sh:Sh}{vs:List V}{p:Ub}(rvs:RDs X.K H es vs)(hok:kg sh=N2)(O:∀d∈es,hs sh d=N2)(q:∀p ys,M p=Y->ys.Perm es->nX ys->KE' X.K M H Q (.ref p) (ah M p (.lst ys))){its:List hH}(hv:Vals vs its)(hl:vs.length<=J9)(GC:vs.length<=cap)(U:∀(E:hH->I7->Prop) (R:List hH->I7->Prop),(∀(h':Heap) (tk:Nat),(∀b o,s.heap.get? b=Z o->h'.get? b=Z o)->s.toks<=tk->R its {s with heap:=h',toks:=tk})->Jm (Ju X.prog X.w) X.A.in1 (collect (.ref p)) R E s):
 Jm (Ju X.prog X.w) X.A (call (.builtin "sorted") [.ref p]) (EP X pins σ Q) X.xe s:=by
 obtain⟨hS,J⟩:=A5 hok O;have GF:=nW hok;obtain⟨t,t1,t2,t3,t4⟩:=qu rvs hv;have F2:∀pp∈t,∃as,NY s.heap pp.2.2 (pd pp.1) as:=λpp j=>by
  have hm:pp.1∈es:=by rw[<-t1];exact JA j
  exact bY I rm 16 pp.1 (pd pp.1) pp.2.1 pp.2.2 (yB M sh pp.1 16 (O _ hm) ∅) (t4 pp j).1 (t4 pp j).2
 have fv:RdL s.heap its (es.map pd):=λu L=>by rw[<-t3]at L;obtain⟨pp,j,rfl⟩:=J8.mp L;obtain⟨as,ra⟩:=F2 pp j;exact⟨pd pp.1,JA (by rw[<-t1];exact JA j),as,ra⟩
 refine uK S (m:=7) (ds:=es.map pd) (C:=λh' vs'=>vs'=its/\∀b o,s.heap.get? b=Z o->h'.get? b=Z o) ∅ hS J (λE R hR=>?_) λh1 h2 vs' out n' tk hC old g2 F GA GG GH ht=>?_
 ·refine U E R λh' tk kp GD=>hR h' its tk ⟨rfl,kp⟩ (λu L=>?_) ⟨by rw[<-hv.length];exact hl,by rw[<-hv.length];exact GC⟩ GD
  obtain⟨d,hd,as,ra⟩:=fv u L;exact⟨d,hd,as,bE (λb o e _=>kp b o e) (J d hd) ra⟩
 ·obtain⟨rfl,kp⟩:=hC;rw[<-t3]at F;obtain⟨t',p1,p2⟩:=lu (fun pp:D×V×hH=>pp.2.2) F rfl;have hz:=qv (t:=t') fun pp j=>t4 pp (p1.mem_iff.mp j);have GB:∀b o,s.heap.get? b=Z o->h2.get? b=Z o:=fun b o e=>old b o (kp b o e);have z:s.heap.get? h1.objs.size=Y:=by
   cases hq:s.heap.get? h1.objs.size with
   |none=>rfl
   |some o=>exact absurd (Jl (kp _ _ hq)) (La _)
  have GE:=I.fresh' z;have hlen:(t'.map (·.2.1)).length<=J9:=by rw[h7,p1.length_eq,<-h7 (f:=λpp:D×V×hH=>pp.2.1),t2];exact hl
  have I2:=I.laidN (t':=tk) (h':=h2) (N:=λb=>if b=h1.objs.size then Z (.lst (t'.map (·.2.1)))else Y) GB (λb o e=>by
   by_cases B:b=h1.objs.size
   ·rw[B];exact z
   ·rw[if_neg B]at e;cases e) (λb o e=>by
   by_cases B:b=h1.objs.size
   ·subst B;rw[if_pos rfl]at e;cases e;exact⟨hlen,out,n',by rw[<-p2];exact hz.2,g2⟩
   ·rw[if_neg B]at e;cases e)
  have eH:lay H (λb=>if b=h1.objs.size then Z (.lst (t'.map (·.2.1)))else Y)=upd H h1.objs.size (.lst (t'.map (·.2.1))):=by
   funext b
   unfold lay upd;dsimp only
   by_cases B:b=h1.objs.size
   ·rw[if_pos B,if_pos B]
   ·rw[if_neg B,if_neg B]
  rw[eH]at I2;refine⟨.ref h1.objs.size,_,I2,rfl,?_⟩;refine cH rm hz.1 (λp' n=>q p' _ n ?_ ?_) GE
  ·have:=p1.map (λpp:D×V×hH=>pp.1);rw[t1]at this;exact this
  ·unfold nX;rw[KU];rw[<-p2,KU]at GA;refine GA.imp_of_mem fun {a b} ha B hab=>?_;have rd:∀pp∈t',Lp h2 pp.2.2=pd pp.1:=fun pp j=>by
    have G:=p1.mem_iff.mp j;obtain⟨as,ra⟩:=F2 pp G;have hm:pp.1∈es:=by rw[<-t1];exact JA G
    exact Mt (hS.lay _ (JA hm)).1 (bE (λb o e _=>GB b o e) (J _ (JA hm)) ra)
   rw[rd a ha,rd b B]at hab;exact hab
end
end Mi
end
namespace Mi
open L2.Srt
def kh(K:Frag)(H:Hp)(kv:D×D)(e:LQ):Prop:=∃kV vV,RD K H kv.1 kV/\RelV kV e.key/\RD K H kv.2 vV/\RelV vV e.val
variable{K:Frag}{H:Hp}
theorem qw{d:D}{k:Key}(h:RKey d k):RD K H d (kV k):=by
 cases d<;>first
  |exact h.elim
  |(cases h;first|exact TJ.mpr rfl|exact TU.mpr rfl)
theorem lw{K:Frag}{H:Hp}:∀{ds:List D} {ks:List Key},JX RKey ds ks->RDs K H ds (ks.map kV)
 |_,_,.nil=>RDs.nil
 |_,_,.cons r t=>RDs.cons (qw r) (lw t)
theorem yC{P:JB}{w:K1}{K:Frag}{H:Hp}:∀{kvs:List (D×D)} {ps:List (Key×V)} {vs:List (Key×hH)} {es:List LQ},JX (λ(p:D×D) (q:Key×V)=>RKey p.1 q.1/\RD K H p.2 q.2) kvs ps->KV ps vs->Pairs (aE P w) es vs->JX (kh K H) kvs es
 |_,_,_,_,.nil,.nil,.nil=>.nil
 |_,_,_,_,.cons B t1,.cons F G,.cons h1 h2 t3=>by
  refine .cons ⟨kV _,_,qw B.1,?_,B.2,by rw[h2];exact F.2⟩ (yC t1 G t3)
  rw[<-F.1]at h1
  rcases aU h1 with⟨i,t,j,z⟩|⟨x,t,j,z⟩
  ·rw[j,z];exact⟨t,rfl⟩
  ·rw[j,z];exact⟨t,rfl⟩
theorem yD{P:JB}{w:K1}{K:Frag}{H:Hp}:∀{kvs:List (D×D)} {ps:List (List Key×V)} {xs:List (List Key×Ub×hH)},JX (λ(p:D×D) (q:List Key×V)=>RKeys p.1 q.1/\RD K H p.2 q.2) kvs ps->JX (λ(p:List Key×V) (q:List Key×Ub×hH)=>p.1=q.1/\H q.2.1=Z (.tup (p.1.map kV))/\RelV p.2 q.2.2) ps xs->JX (kh K H) kvs (xs.map (entryOfKey (Nq (aE P w))))
 |_,_,_,.nil,.nil=>.nil
 |kv::_,_,_,.cons z t1,.cons B F=>by
  refine .cons ?_ (yD t1 F);obtain⟨d,v⟩:=kv;have j:=z.1
  cases d<;>first
   |exact j.elim
   |exact⟨.ref _,_,U0 ⟨_,_,rfl,B.2.1,lw j⟩,rfl,z.2,B.2.2⟩
theorem bg{α β:Type}{R:α->β->Prop}:∀{l:List α} {m:List β},JX R l m->l.length=m.length
 |_,_,.nil=>rfl
 |_,_,.cons _ t=>by simp[bg t]
variable{a:Ub}{kvs:List (D×D)}
section
variable{X:Cx}
theorem nY{h:Heap}{P:JB}{w:K1}{ps:List (List Key×V)}(ok:ObjOk P w H h a (.dT ps))(pr:JX (λ(p:D×D) (q:List Key×V)=>RKeys p.1 q.1/\RD K H p.2 q.2) kvs ps):
 ∃cd dd sl es ep,h.get? a=Z {cls:=cd,dict:=dd,data:=.dict es ep,slots:=sl}/\es.size<=J9/\JX (kh K H) kvs es.toList:=by
 obtain⟨G,B,xs,j,o,es,ep,h1,h2,z,F,J⟩:=ok;obtain⟨cd,dd,dat,sl⟩:=o;dsimp only at z;subst z;have pp:=yD (P:=P) (w:=w) pr j;rw[<-F]at pp;refine⟨cd,dd,sl,es,ep,h1,?_,pp⟩;have:=bg pp;have:=bg pr;simp at *;lia
theorem A6{pins:List (Ub×Obj)}{σ:St}{s:I7}{M:Mem}(I:Inv X pins σ H s)(rm:RM X.K M H){t:Bool}(e:M a=Z (.dct t kvs)):
 ∃cd dd sl es ep,s.heap.get? a=Z {cls:=cd,dict:=dd,data:=.dict es ep,slots:=sl}/\es.size<=J9/\JX (kh X.K H) kvs es.toList/\IsD H a:=by
 have ro:=rm a _ e
 cases t with
 |false=>obtain⟨ps,j,pr⟩:=ro;obtain⟨G,B,vs,z,o,es,ep,h1,h2,q,J,F,L⟩:=I.hok a _ j;obtain⟨cd,dd,dat,sl⟩:=o;dsimp only at q;subst q;have pp:=yC pr z F;refine⟨cd,dd,sl,es,ep,h1,?_,pp,.inl ⟨_,Rd.of j⟩⟩;have:=bg pp;have:=bg pr;simp at *;lia
 |true=>obtain⟨ps,j,pr⟩:=ro;obtain⟨cd,dd,sl,es,ep,h1,h2,q⟩:=nY (I.hok a _ j) pr;exact⟨cd,dd,sl,es,ep,h1,h2,q,.inr ⟨_,Rd.of j⟩⟩
end
section
noncomputable def mG(to tk tx:TEd):TEd:=λρ M Q=>to ρ M λx M1=>∃a t kvs,x=.ref a/\M1 a=Z (.dct t kvs)/\tk ρ M1 λk M2=>tx ρ M2 λz M3=>∃t' kvs',M3 a=Z (.dct t' kvs')/\fC t' k=N2/\Q ((dget kvs' k).getD z) M3
theorem uM{to tk tx:TEd}(h1:af to)(h2:af tk)(B:af tx):af (mG to tk tx):=λρ M Q Q' i q=>h1 _ _ _ _ (λx U j=>(by obtain⟨a,t,kvs,e,F,G⟩:=j;exact⟨a,t,kvs,e,F,h2 _ _ _ _ (λk M2 J=>B _ _ _ _ (λz F2 j=>(by obtain⟨t',kvs',L,ok,O⟩:=j;exact⟨t',kvs',L,ok,i _ _ O⟩)) J) G⟩)) q
section
variable{X:Cx}
theorem BW{M:Mem}(rm:RM K M H){t:Bool}(e:M a=Z (.dct t kvs)):IsD H a:=by
 have ro:=rm a _ e
 cases t with
 |false=>obtain⟨ps,j,_⟩:=ro;exact .inl ⟨_,Rd.of j⟩
 |true=>obtain⟨ps,j,_⟩:=ro;exact .inr ⟨_,Rd.of j⟩
theorem A7{o e f:Expr}{to tk tx:TEd}{apos cpos:Pos}(F2:X.A.units+1<LF)(mo:af to)(mk:af tk)(mx:af tx)(ho:PE X o (lE X.K to))(he:PE X e (lE X.K tk))(hf:PE X f (lE X.K tx))(m:M2 X o "get" apos e f cpos):
 PE X (.Call (.Attribute o "get" apos) [e,f] [] cpos) (lE X.K (mG to tk tx)):=by
 refine PE.imp (wm F2 ho he hf m) λσ H Q h=>?_;obtain⟨ρ,M,rs,rm,q⟩:=h;refine⟨ρ,M,rs,rm,mo _ _ _ _ (λx fv g9 v H1 L j rd1=>?_) q⟩;obtain⟨a,t,kvs,e,e1,q1⟩:=g9;subst e
 cases TK.mp rd1
 have B:=rs.mono (L.stab rm);refine⟨a,rfl,BW j e1,ρ,fv,B,j,mk _ _ _ _ (λk M2 q2 v2 H2 O F G=>?_) q1⟩;have J:=B.mono (O.stab j);refine⟨ρ,M2,J,F,mx _ _ _ _ (λz M3 g9 v3 H3 U rm3 rd3=>?_) q2⟩;obtain⟨t',kvs',e3,ok,q3⟩:=g9;obtain⟨w,g,g1,g2⟩:=jW rm3 e3 ok (G.mono (U.stab F));refine⟨w,g,?_⟩;refine q3 _ H3 (L.trans (O.trans U)) rm3 ?_
 cases e4:dget kvs' k with
 |none=>rw[g2 e4];exact rd3
 |some d=>obtain⟨w',e5,r5⟩:=g1 d e4;rw[e5];exact r5
end
end
end Mi
namespace Mi
end Mi
namespace Mi
end Mi
namespace Mi
end Mi
section
section
variable{prog:JB}{w:K1}{A:Kh}{E:hH->I7->Prop}{s:I7}
theorem A8:typeLookup (.type "list") "keys"=pure Y:=by rw[typeLookup_type,Qx];kernel_rfl
theorem A9{l:Ub}{o:Obj}{xs:Array hH}{k:Nat}{Q:Option hH->I7->Prop}(B:A.handled=Y)(ho:s.heap.get? l=Z o)(z:o.cls=.type "list")(hd:o.data=.seq xs k)(j:o.dict=Y)(q:∀h' tk,(∀b o,s.heap.get? b=Z o->h'.get? b=Z o)->Q Y {s with heap:=h',toks:=tk}):Jm (model prog w) A (getAttr? (.ref l) "keys") Q E s:=by
 have ty:s.TypeIs (.ref l) "list":=⟨_,ho,z⟩;unfold getAttr?;unfold mkText;refine gV ?_;refine gV (wpAny_fresh ?_);refine D2 ?_;unfold getAttrBy?;refine gV (MJ ?_);unfold getAttrBy;refine Kj ?_;refine gV (Mv (s:={s with toks:=s.toks+1}) ty ?_)
 refine gV (MU F.slot_list_getattribute.lookup ?_);refine Qr (by decide) ?_
 unfold getAttrByItsOwn hookBefore;rw[if_neg (by decide)]
 refine gV (D2 ?_);refine gV (MJ (Kj ?_));unfold callGetattribute boundAndCalled;rw[if_neg (by decide)]
 refine gV (MU (F.slot_list_getattribute.bind _) ?_);dsimp only;obtain⟨cls,dd,dat,sl⟩:=o;dsimp only at z hd j;subst z hd j;refine Qh F.slot_list_getattribute (s:={s with toks:=s.toks+1}) ty am_entry_list_getattribute (F.args_list_getattribute_2 _ _) ((meets_getattribute_miss_list l xs k sl "keys" s.toks A8 (by decide) (by decide)).inModel prog w) ⟨ho,B,λh' tk a ne=>?_⟩
 ·have ne:s.heap.NewAttrErr h' a (.ref l) "keys":=ne;obtain⟨t,u,he⟩:=ne.there;unfold getattributeRaised;refine gV (Mf (T:="AttributeError") (b:=N2) ⟨_,he,rfl⟩ (by rw[O6];kernel_rfl) ?_)
  rw[if_pos rfl];unfold hookBehind;rw[if_neg (by decide)]
  refine gV (MU am_list_getattr_none ?_);unfold hookOrError attributeErrorLeaves;dsimp only;rw[if_pos (by decide)]
  refine gV (SI ?_);refine gV (Mf (T:="AttributeError") (b:=N2) ⟨_,he,rfl⟩ (by rw[O6];kernel_rfl) ?_)
  rw[if_pos rfl];exact D2 (q h' tk ne.keeps)
end
end
section
theorem nZ:entryFor table "dict.update.loop"=Z LR.«dict.update.loop»:=Sr (by kernel_rfl)
theorem og:plainId "dict.update.loop"=N2:=by decide +kernel
section
variable{X:Cx}{pins:List (Ub×Obj)}{σ:St}{H:Hp}
def PrV(H:Hp)(v:V)(kv:List Key×V):Prop:=∃t b,v=.ref t/\H t=Z (.tup [.ref b,kv.2])/\H b=Z (.tup (kv.1.map kV))
noncomputable abbrev bS(kvs:List (List Key×V)):List (List Key×V):=kvs.foldl (λa kv=>bA a kv.1 kv.2) []
theorem sn(kvs:List (List Key×V)):(bS kvs).length<=kvs.length:=by
 have g:∀(r:List (List Key×V)) (a:List (List Key×V)),(r.foldl (λa kv=>bA a kv.1 kv.2) a).length<=a.length+r.length:=by
  intro r
  induction r with
  |nil=>intro a;simp
  |cons x r ih=>intro a;have h1:=ih (bA a x.1 x.2);have h2:=cT a x.1 x.2;simp only[L5,Jw];lia
 have:=g kvs [];simpa using this
theorem jz{α β:Type}{R:α->β->Prop}:∀{l:List α} {m:List β} {i:Nat} {x:α},JX R l m->l[i]?=Z x->∃y,m[i]?=Z y/\R x y
 |_,_,_,_,.nil,e=>by simp at e
 |_,_,0,_,.cons r _,e=>by simp at e;subst e;exact⟨_,rfl,r⟩
 |_,_,i+1,x,.cons _ t,e=>by simp at e;obtain⟨y,h1,h2⟩:=jz t e;exact⟨y,by simpa using h1,h2⟩
theorem Aa(hu:A.units+1<LF)(hn:A.handled=Y){l it p:Ub}{vs:List V}(fv:H p=Y)(F2:H l=Z (.lst vs))(G:JX (PrV H) vs kvs)(hz:vs.length<J9){R:Result->I7->Prop}(hf:cj X pins H it)(j:it≠p):
 ∀(k i:Nat) (s:I7),vs.length-i=k->i<=vs.length->Inv X pins σ (upd H p (.dT (bS (kvs.take i)))) s->s.heap.IsListIter it l i->
  (∀s',Inv X pins σ (upd H p (.dT (bS kvs))) s'->R (.ok (.ret .none)) s')->
  Ow (model X.prog X.w) A (.builtin "dict.update.loop" ⟨[.ref p,.ref it,Pz i,.none],[]⟩) R s:=by
 have J:l≠p:=λz=>by rw[z,fv]at F2;cases F2
 have hlen:vs.length=kvs.length:=Lj G;obtain⟨f0,f1,f2,f3,f4,f5⟩:=hf;intro k
 induction k with
 |zero=>
  intro i s hk hi I st q;have GA:i=vs.length:=∅
  obtain⟨its,rv,pl,_⟩:=I.list (SqL.of (K:=X.K) ((am J).trans F2));refine OM nZ ?_;unfold LR.«dict.update.loop»;dsimp only;refine gV (Qt hn st pl.isList (by have:=rv.length;simp;lia) λh' eb=>?_)
  refine gV ?_;unfold Builtin.Dict.addKeywords;refine gV ?_;have B:=I.turned (t':=s.toks) (h':=h') (λb o F e=>eb b o F e) ((am j).trans f0) f1 f3 f4 f5;rw[GA,hlen,Q2]at B;exact D2 (D2 (D2 (q _ B)))
 |succ k ih=>
  intro i s hk hi I st q;have L:i<vs.length:=∅
  obtain⟨its,rv,pl,_⟩:=I.list (SqL.of (K:=X.K) ((am J).trans F2));obtain⟨u,GB,ru⟩:=rv.get (z4 L);obtain⟨kv,GC,t,b,hv,ht,F⟩:=jz G (z4 L);rw[hv]at ru
  cases(show u=KY t from ru)
  refine OM nZ ?_;rw[RB (by rfl) (by rfl)]
  unfold LR.«dict.update.loop»;dsimp only;refine gV (Q8 st pl.isList (x:=.ref t) (by simpa using GB) λh' st' sb=>?_)
  have B:=I.turned (t':=s.toks) (h':=h') (λb o F e=>(sb.2 b F).trans e) ((am j).trans f0) f1 f3 f4 f5;dsimp only;have GD:t≠p:=λz=>by rw[z,fv]at ht;cases ht
  have GE:b≠p:=λz=>by rw[z,fv]at F;cases F
  obtain⟨tits,rt,tt,_⟩:=B.tuple (SqT.of (K:=X.K) ((am GD).trans ht));obtain⟨ob,O,GF,nt,GG⟩:=id tt
  cases rt with
  |cons r1 rt=>
   cases rt with
   |cons r2 rt=>
    cases rt
    cases(show _=KY b from r1)
    rename_i uv;refine gV (Kj ?_);refine gV (wpAny_tryCatch ?_);unfold Builtin.Dict.pairItems;refine gV (Mv (T:="tuple") (s:={s with heap:=h'}) ⟨ob,O,GF⟩ ?_)
    rw[if_pos (by decide)]
    refine gV (LJ (s:={s with heap:=h'}) O GG ?_)
    refine D2 ?_;refine Kj ?_;obtain⟨z,hd,xs,rel,dd⟩:=rB (a:=p) B.hok ay;have GH:xs.length<=J9:=by rw[<-Lj rel];exact z
    have U:upd H p (.dT (bS (kvs.take i))) b=Z (.tup (kv.1.map kV)):=(am GE).trans F;have GI:(bA (bS (kvs.take i)) kv.1 kv.2).length<=J9:=by have h1:=cT (bS (kvs.take i)) kv.1 kv.2;have h2:=sn (kvs.take i);rw[JG]at h2;lia
    have etk:bA (bS (kvs.take i)) kv.1 kv.2=bS (kvs.take (i+1)):=by unfold bS;rw[List.take_succ,GC,Nj];rfl
    refine RC (hsz:=GH) (knd:=Nq (aE X.prog X.w)) (LC hu) (cU B.hok U) dd λh2 dd' hs=>?_;obtain⟨q',es,ep,hq,g2,g3,g4,_,g5⟩:=dd';have I2:=gJ (t':=s.toks+(Nq (aE X.prog X.w)).draws kv.1) B (a:=p) (ob:=.dT (bA (bS (kvs.take i)) kv.1 kv.2)) (by rw[ay];exact Oh) hs ⟨q',hq⟩ ⟨GI,hd,_,(rel.put kv.1 U r2).keeps λc ys ec=>?_,q',es,ep,hq,g2,g3,g4,g5⟩
    ·rw[yT,etk]at I2;refine D2 ⟨Rh og _,ih (i+1) _ ∅ ∅ I2 ?_ q⟩
     exact st'.at λo e=>(hs.2 it j).trans e
    ·rw[am (qY ec ay (λz=>nomatch z))];exact ec
end
section
variable{X:Cx}
theorem jA(hu:X.A.units+16<LF)(hc:X.calm=N2):CallR X (.type "dict") (λxs H Q=>∃l vs kvs,xs=[V.ref l]/\H l=Z (.lst vs)/\JX (PrV H) vs kvs/\vs.length<J9/\∀p,H p=Y->Q (.ref p) (upd H p (.dT (bS kvs)))):=by
 intro pins s σ H xs us Q I r h;obtain⟨l,vs,kvs,rfl,J,L,hz,q⟩:=h
 cases r with
 |cons r1 rr=>
 cases rr
 cases(show _=KY l from r1)
 have fv:=I.ok.hd hc;have O:H s.heap.objs.size=Y:=I.hok.fresh (J6 _);have I1:=I.laid (a:=s.heap.objs.size) (o:=.dT []) (t':=s.toks) (λ_ _ q=>D0 _ q) (J6 _) (iE s.heap I.big);have U:l≠s.heap.objs.size:=λz=>by rw[z,O]at J;cases J
 refine callType_codes (Q₁:=λobj s₁=>obj=.ref s.heap.objs.size/\s₁={s with heap:=s.heap.push {cls:=.type "dict",data:=.dict #[]}}) F.kt_called_dict (F.kt_typeCall_dict_1 _) F.entry_dict_init (kt_code_dict_new _ ⟨rfl,rfl⟩) λobj s₁ h₁=>?_
 obtain⟨rfl,rfl⟩:=h₁;refine⟨⟨_,Jf _ rfl,rfl⟩,F.args_dict_init_2 _ _,?_⟩;unfold LR.«dict.__init__»;refine gV ?_;unfold Builtin.Dict.selfAndRest;unfold Builtin.Dict.notOrdered;rw[if_pos (by decide)]
 have tyd:Shared.TypeIs {s with heap:=s.heap.push {cls:=.type "dict",data:=.dict #[]}} (.ref s.heap.objs.size) "dict":=⟨_,Jf _ rfl,rfl⟩
 refine gV (gV (Mv tyd ?_));rw[if_neg (by decide)]
 refine D2 ?_;refine gV (D2 (D2 ?_));unfold Builtin.Dict.updateCommon Builtin.Dict.updateFrom;dsimp only;obtain⟨its,rv,pl,_⟩:=I1.list (SqL.of (K:=X.K) ((am U).trans J));have il:=pl.isList;refine gV (Mv il.typeIs ?_);rw[if_pos (by decide)]
 obtain⟨ob,nn,e1,j,B,G⟩:=id pl;refine gV (A9 fv e1 j G B λh1 tk kp=>?_);rw[if_pos (show(Y:Option hH).isNone=N2 from rfl)];refine gV (Ll ?_);have F2:=I1.kept (t':=tk) kp;refine gV (LS (s:={s with heap:=h1,toks:=tk}) (PlainL.isList (⟨ob,nn,kp _ _ e1,j,B,G⟩)) ?_)
 have I3:=F2.kept (t':=tk) (h':=h1.push {cls:=.type "list_iterator",data:=.fields #[.ref l,.int 0 0]}) λb o e=>D0 _ e;refine D2 ⟨Rh og _,?_⟩;have hle:s.heap.objs.size<h1.objs.size:=Jl (kp _ _ (Jf _ rfl));have hf:cj X pins H h1.objs.size:=by have:=F2.fpOk (H':=upd H s.heap.objs.size (.dT [])) (J6 _) (F2.hok.fresh (J6 _));exact⟨by rw[<-this.1,am (Ma hle)],this.2⟩
 refine Aa (A:=X.A.in1) (X:=X) (pins:=pins) (σ:=σ) (H:=H) (p:=s.heap.objs.size) (kvs:=kvs) (by have:X.A.in1.units=X.A.units+1:=rfl;lia) fv O J L hz hf (Ma hle) vs.length 0 _ ∅ ∅ I3 ⟨_,Jf _ rfl,rfl,rfl⟩ λs' I'=>?_
 exact⟨rfl,.ref s.heap.objs.size,_,I',rfl,q _ O⟩
end
end
namespace Mi
section
section
variable{X:Cx}
noncomputable def so(kvs:List (D×D)):List (D×D):=kvs.foldl (λa kv=>bX a kv.1 kv.2) []
noncomputable def mH:RAd:=λds M Q=>∃a kvs,ds=[.ref a]/\M a=Z (.lst (kvs.map λkv:D×D=>.tup [kv.1,kv.2]))/\(∀kv∈kvs,bK kv.1=N2)/\kvs.length<J9/\∀p,M p=Y->Q (.ref p) (ah M p (.dct N2 (so kvs)))
theorem lB:aV mH:=λ_ _ _ _ h j=>(by obtain⟨a,kvs,e,z,B,F,q⟩:=j;exact⟨a,kvs,e,z,B,F,λp n=>h _ _ (q p n)⟩)
theorem oh{K:Frag}{H:Hp}:∀{kvs:List (D×D)} {vs:List V},RDs K H (kvs.map λkv:D×D=>.tup [kv.1,kv.2]) vs->(∀kv∈kvs,bK kv.1=N2)->
 ∃ps:List (List Key×V),JX (PrV H) vs ps/\JX (λ(p:D×D) (q:List Key×V)=>RKeys p.1 q.1/\RD K H p.2 q.2) kvs ps
 |[],vs,r,_=>by rw[RDs.nil_iff.mp r];exact⟨[],.nil,.nil⟩
 |kv::kvs,vs,r,h=>by
  rw[Jr]at r;obtain⟨v,vr,rfl,G,J⟩:=TL.mp r;obtain⟨ps,h1,h2⟩:=oh J λx hx=>h x (J3 _ hx);have z:=h kv (Je ..);obtain⟨k,v⟩:=kv;obtain⟨ks,j⟩:=gK z
  cases k<;>first
   |exact j.elim
   | (obtain⟨t,us,rfl,B,ru⟩:=U2 rfl G
      obtain⟨fv,ur,rfl,L,ru⟩:=TL.mp ru;obtain⟨O,U,rfl,F2,ru⟩:=TL.mp ru;rw[RDs.nil_iff.mp ru]at B;obtain⟨b,ws,rfl,F,rw'⟩:=U2 (gL z) L;rw[dU j rw']at F;exact⟨(ks,O)::ps,.cons ⟨t,b,rfl,B,F⟩ h1,.cons ⟨j,F2⟩ h2⟩)
theorem oi{K:Frag}{H:Hp}:∀{kvs:List (D×D)} {ps:List (List Key×V)} {a:List (D×D)} {b:List (List Key×V)},JX (λ(p:D×D) (q:List Key×V)=>RKeys p.1 q.1/\RD K H p.2 q.2) kvs ps->JX (λ(p:D×D) (q:List Key×V)=>RKeys p.1 q.1/\RD K H p.2 q.2) a b->
 JX (λ(p:D×D) (q:List Key×V)=>RKeys p.1 q.1/\RD K H p.2 q.2) (kvs.foldl (λa kv=>bX a kv.1 kv.2) a) (ps.foldl (λa kv=>bA a kv.1 kv.2) b)
 |_,_,_,_,.nil,h=>h
 |_,_,_,_,.cons r t,h=>by have g:=oi t (iI (RK:=RKeys) RKeys.inj RKeys.fun r.1 r.2 h);exact g
theorem pX(j:X.A.units+16<LF)(B:X.calm=N2):CallR X (.type "dict") (lR X.K mH):=by
 refine CallR.of (jA j B) λvs H Q h=>?_;obtain⟨ds,M,rm,rs,a,kvs,rfl,e,F,G,q⟩:=h;obtain⟨v,rfl,r⟩:=rs.one
 cases TK.mp r
 obtain⟨us,J,ru⟩:=rm _ _ e;obtain⟨ps,h1,h2⟩:=oh ru F;refine⟨a,us,ps,rfl,J,h1,by rw[ru.length,h7];exact G,λp n=>?_⟩
 have st:Stab H (upd H p (.dT (bS ps))):=(TZ (M:=M) n).stab rm;exact q p (rm.out n) (.ref p) _ (Ext.lay n) (rm.lay n ⟨_,ay,TN (oi h2 .nil) λ_ _ z=>⟨z.1,z.2.mono st⟩⟩) (TK.mpr rfl)
end
end
end Mi
namespace Dk
variable{it d:Ub}{ep:Nat}{dd:Option Ub}{sl:Array (Option hH)}{es:Array LQ}
section
variable{prog:JB}{w:K1}{A:Kh}{E:hH->I7->Prop}{s:I7}
noncomputable def kO(d:Ub)(i n ep:Nat):Obj:={cls:=.type "dict_keyiterator",data:=.fields #[.ref d,.int i 0,.int n 0,.int ep 0]}
theorem slot_next:Slot "dict_keyiterator" "__next__" "dict_keyiterator.__next__":=.of (owner:="dict_keyiterator") (n:="__next__") (by rw[typeLookup_type,Qx];kernel_rfl) (by decide +kernel) (by decide +kernel) (by decide +kernel) (.inl (by decide +kernel)) (by rw[O6];kernel_rfl)
theorem jB:entryFor table "dict_keyiterator.__next__"=Z LR.«dict_keyiterator.__next__»:=Sr (by kernel_rfl)
theorem lD(a:hH):argsOk "dict_keyiterator.__next__" ⟨[a],[]⟩:=by unfold argsOk;kernel_rfl
theorem uN(ty:s.TypeIs (.ref it) "dict_keyiterator"){types:List String}{Q:Bool->I7->Prop}(q:Q (types.any λt=>[L3 "dict_keyiterator",L3 "object"].contains (L3 t)) s):Jm (model prog w) A (Pg (.ref it) types) Q E s:=by
 have hm:=Ri;unfold Pg
 wp_walk
 exact q
theorem nx_item{i:Nat}{cd:hH}{e:LQ}{Q:Option hH->I7->Prop}(hi:s.heap.get? it=Z (kO d i es.size ep))(hd:s.heap.get? d=Z {cls:=cd,dict:=dd,data:=.dict es ep,slots:=sl})(he:es[i]?=Z e)(q:∀h',h'.get? it=Z (kO d (i+1) es.size ep)->Lc it s.heap h'->Q (Z e.key) {s with heap:=h'}):Jm (model prog w) A (NR (.ref it)) Q E s:=by
 have ty:s.TypeIs (.ref it) "dict_keyiterator":=⟨_,hi,rfl⟩;unfold NR;refine gV (MJ (JY (name:=JN "__next__") ty slot_next (K7 slot_next ty jB ?_ (lD _))));unfold LR.«dict_keyiterator.__next__»;have hm:=Ri
 wp_walk
 dsimp only;rw[if_neg (by simp)]
 simp only[Jd,he];refine gV (LA (Q:=λn s'=>n=0/\s'=s) ?_ (λn s' hs=>?_) λ_ _ z=>z)
 ·wp_walk
  exact⟨by kernel_rfl,rfl⟩
 obtain⟨rfl,rfl⟩:=hs;refine gV (uN ty ?_);refine gV (K5 hi (by simp) λh1 j s1=>?_)
 rw[if_neg (by decide +kernel)]at j
 have j:h1.get? it=Z (kO d (i+1) es.size ep):=j;have B:Shared.TypeIs {s' with heap:=h1} (.ref it) "dict_keyiterator":=⟨_,j,rfl⟩
 refine gV (Kj ?_);refine gV (uN B ?_);refine QT (by decide +kernel) ?_
 refine D2 (D2 ⟨_,rfl,D2 ?_⟩);exact q h1 j s1
theorem nx_end{cd:hH}{Q:Option hH->I7->Prop}(j:A.handled=Y)(hi:s.heap.get? it=Z (kO d es.size es.size ep))(hd:s.heap.get? d=Z {cls:=cd,dict:=dd,data:=.dict es ep,slots:=sl})(q:∀h',(∀b o,b≠it->s.heap.get? b=Z o->h'.get? b=Z o)->Q Y {s with heap:=h'}):Jm (model prog w) A (NR (.ref it)) Q E s:=by
 have ty:s.TypeIs (.ref it) "dict_keyiterator":=⟨_,hi,rfl⟩;unfold NR;refine gV (MJ (JY (name:=JN "__next__") ty slot_next (K7 slot_next ty jB ?_ (lD _))));unfold LR.«dict_keyiterator.__next__»;have hm:=Ri
 wp_walk
 dsimp only;rw[if_neg (by simp)]
 have he:es[es.size]?=Y:=O8 (J6 _);simp only[Jd,he];refine gV (LA (Q:=λn s'=>n=0/\s'=s) ?_ (λn s' hs=>?_) λ_ _ z=>z)
 ·wp_walk
  exact⟨by kernel_rfl,rfl⟩
 obtain⟨rfl,rfl⟩:=hs;refine gV (K5 hi (by simp) λh1 F s1=>?_)
 refine gV (m:=newExc (.type "StopIteration") []) ?_;simp only[newExc,newTuple];refine gV (L9 ?_ (by size_fits))
 refine gV (m:=Pb _ _) (MU (a:=Nl) (by first|rfl|(simp only[Pb];rfl)) (L9 ?_ (by size_fits)))
 simp only[raiseNew];refine gV (wpAny_handled ?_)
 first|rw[show A.in1.handled=Y from j]|rw[j]
 refine gV (D2 (SI ?_));exact gV (Mf (T:="StopIteration") (b:=N2) ⟨_,Jf _ rfl,rfl⟩ QK (D2 (q _ λb o B e=>D0 _ (D0 _ (s1.extBut b o B e)))))
theorem it_dict{Q:hH->I7->Prop}(j:(d==Ks)=Ua)(hd:s.heap.get? d=Z {cls:=.type "dict",dict:=dd,data:=.dict es ep,slots:=sl})(q:Q (.ref s.heap.objs.size) {s with heap:=s.heap.push (kO d 0 es.size ep)}):Jm (model prog w) A (Rt (.ref d)) Q E s:=by
 have ty:s.TypeIs (.ref d) "dict":=⟨_,hd,rfl⟩;refine wpAny_pyIter_slot ty Ss (K7 Ss ty F.entry_dict_iter ?_ (F.args_dict_iter_1 _));unfold LR.«dict.__iter__»
 wp_walk
 exact⟨_,rfl,"dict_keyiterator",_,⟨_,Jf _ rfl,rfl⟩,slot_next.lookup,q⟩
theorem walk(hn:A.handled=Y)(it d:Ub)(hne:d≠it)(es:Array LQ)(ep:Nat):
 Walks prog w A it [it,d] [it] es.size (λi v=>∃e,es[i]?=Z e/\v=e.key) (λi h=>h.get? it=Z (kO d i es.size ep)/\∃cd dd sl,h.get? d=Z {cls:=cd,dict:=dd,data:=.dict es ep,slots:=sl}) where
 sub:=λb hb=>by simp at hb;simp[hb]
 frame:=λ_ _ _ st k=>⟨k it (by simp) _ st.1,by obtain⟨cd,dd,sl,h⟩:=st.2;exact⟨cd,dd,sl,k d (by simp) _ h⟩⟩
 item:=λi s Q E hi st q=>by obtain⟨h1,cd,dd,sl,h2⟩:=st;refine nx_item (e:=es[i]) h1 h2 (JQ hi) λh' e' s'=>?_;exact q _ h' s.toks ⟨_,JQ hi,rfl⟩ ⟨e',cd,dd,sl,s'.extBut d _ hne h2⟩ λb o hb x=>s'.extBut b o (λz=>hb (by simp[z])) x
 done:=λs Q E st q=>by obtain⟨h1,cd,dd,sl,h2⟩:=st;exact nx_end hn h1 h2 λh' k=>q h' s.toks λb o hb x=>k b o (λz=>hb (by simp[z])) x
 self:=λi s Q E st q=>QU ⟨_,st.1,rfl,rfl⟩ q
theorem uO{Q:Bool->I7->Prop}(ty:s.TypeIs (.ref d) "dict")(q:Q Ua s):Jm (model prog w) A (OW (.ref d)) Q E s:=by
 unfold OW;refine gV (wpAny_specialOf ty F.slot_dict_len.lookup ?_);generalize j:("dict.__len__":String)=z
 (fail_if_success (clear j z));wp_delta
 rw[show splitId z=Z ("dict","__len__")from by subst j;decide +kernel]
 subst j;refine gV (Mf (b:=N2) ty (by rw[O6];kernel_rfl) ?_)
 rw[if_neg (by decide)]
 refine QT (by decide +kernel) ?_
 refine gV (Mv ty ?_);exact D2 q
open Builtin.List in
theorem xx(hn:A.handled=Y){S:Ub}{c:Nat}{R:Result->I7->Prop}(res:hH)(fv:(d==Ks)=Ua)(hd:s.heap.get? d=Z {cls:=.type "dict",dict:=dd,data:=.dict es ep,slots:=sl})(F2:s.heap.get? S=Z {cls:=.type "list",data:=.seq #[] c})(hz:es.size<=J9)(q:∀(h':Heap) (tk:Nat) (acc':Array hH) (c':Nat),(∀b o,b≠S->s.heap.get? b=Z o->h'.get? b=Z o)->h'.get? S=Z {cls:=.type "list",data:=.seq acc' c'}->acc'.toList=es.toList.map (·.key)->s.toks<=tk->R (.ok (.ret res)) {s with heap:=h',toks:=tk}):
 Jm (model prog w) A.in1 (listExtendWith (.ref S) (.ref d) res) (λfin s'=>match fin with|.done f=>R (.ok f) s'|.again c'=>c'.quiet=N2/\Ow (model prog w) A c' R s') (λe s'=>R (.error e) s') s:=by
 have ty:s.TypeIs (.ref d) "dict":=⟨_,hd,rfl⟩;have G:S≠d:=λe=>by rw[e,hd]at F2;simp at F2
 have h1:listSameRef (.ref S) (.ref d)=Ua:=by simp[listSameRef,G]
 unfold listExtendWith;refine gV (Mv ty ?_);rw[if_neg (by rw[h1];decide)]
 refine gV (it_dict fv hd ?_);refine gV (Kj (uO (s:={s with heap:=s.heap.push (kO d 0 es.size ep)}) ⟨_,D0 _ hd,rfl⟩ ?_))
 have B:=Jl F2;have J:=Jl hd;have W:=(walk (prog:=prog) (w:=w) (A:=A.in1) hn s.heap.objs.size d (JU J) es ep).toS;have GA:S∉[s.heap.objs.size,d]:=λhm=>by
  simp only[Jp,K8,or_false]at hm
  rcases hm with e|e
  ·exact absurd (e▸B) (La _)
  ·exact G e
 refine QT (by decide +kernel) ?_
 refine gV (Ll ?_);unfold listTouch;have L:(s.heap.push (kO d 0 es.size ep)).get? S=Z (Sn "list" #[] c):=D0 _ F2;refine gV (gV (Ox L rfl ?_ (by simp) (by simp)))
 have O:=NH L (λx=>x.push Nl);refine Ox O rfl ?_ (by simp;decide) (by simp)
 have GB:=NH O (λx=>x.pop);have oth:∀b o,b≠S->s.heap.get? b=Z o->(((s.heap.push (kO d 0 es.size ep)).update S (MY λx=>x.push Nl)).update S (MY λx=>x.pop)).get? b=Z o:=λb o U e=>by rw[Lu _ _ _ _ U,Lu _ _ _ _ U];exact D0 _ e
 have hit:(((s.heap.push (kO d 0 es.size ep)).update S (MY λx=>x.push Nl)).update S (MY λx=>x.pop)).get? s.heap.objs.size=Z (kO d 0 es.size ep):=by rw[Lu _ _ _ _ (Ma B),Lu _ _ _ _ (Ma B)];exact Jf _ rfl
 refine D2 ⟨Rh F.plain_extend_loop _,codeAny_extend_loopS W hz _ GA _ es.size 0 _ _ _ rfl (Ku _) ⟨hit,_,_,_,oth d _ G.symm hd⟩ GB (ItemsOf.nil _) λs' acc c' hm GC ha=>?_⟩;rw[hm.eq_with];refine q _ _ acc c' (λb o U e=>?_) GC ?_ hm.toks
 ·exact hm.heap b o (fun z=>by
   simp only[Jp,K8,or_false]at z
   rcases z with z|z
   ·exact U z
   ·exact absurd (z▸Jl e) (La _)) (oth b o U e)
 ·obtain⟨g1,g2⟩:=ha;apply Lo;intro j;rw[JD,Jj,JD]
  by_cases hj:j<es.size
  ·obtain⟨e,he,hv⟩:=g2 j (acc[j]'∅) (JQ ∅)
   rw[JQ ∅,hv,he];rfl
  ·rw[O8 ∅,O8 ∅];rfl
theorem collect_dict(L:A.handled=Y){Q:List hH->I7->Prop}(j:(d==Ks)=Ua)(hd:s.heap.get? d=Z {cls:=.type "dict",dict:=dd,data:=.dict es ep,slots:=sl})(O:es.size<=J9)(q:∀(h':Heap) (tk:Nat),(∀b o,s.heap.get? b=Z o->h'.get? b=Z o)->s.toks<=tk->Q (es.toList.map (·.key)) {s with heap:=h',toks:=tk}):Jm (model prog w) A (collect (.ref d)) Q E s:=by
 unfold collect;refine gV (wpAny_runValue (OM F.entry_proto_collect ?_));unfold LR.«proto.collect»;dsimp only;refine gV (PF ?_ (by simp))
 refine D2 ⟨Code.quiet_builtin _ (by decide +kernel),?_⟩
 refine OM entry_list_iadd' ?_;unfold LR.«list.__iadd__»;refine gV (MU (a:=(KY s.heap.objs.size,[KY d])) (by kernel_rfl) ?_)
 have z:(s.heap.push {cls:=L3 "list",data:=Oz [].toArray}).get? s.heap.objs.size=Z {cls:=L3 "list",data:=Oz #[] 0}:=Jf _ rfl;rw[RB (by rfl) (by rfl)]
 refine LA (xx (s:={s with heap:=s.heap.push {cls:=L3 "list",data:=Oz [].toArray}}) (R:=λr s'=>r=.ok (.ret (.ref s.heap.objs.size))/\Jm (model prog w) A (do
  let o <-load s.heap.objs.size
  match o.data with
  |.seq xs _=>pure xs.toList
  |_=>unsupported "internal:collect") Q E s') L (KY s.heap.objs.size) j (D0 _ hd) z O λh' tk acc c' kp B U G=>⟨rfl,?_⟩) (λfn s' h=>?_) (λe s' h=>?_)
 ·refine gV (wpAny_load B ?_);refine D2 ?_;rw[U];exact q h' tk (λb o e=>kp b o (JU (Jl e)) (D0 _ e)) G
 ·cases fn with
  |done f=>
   obtain⟨e,h⟩:=h
   cases e
   exact h
  |again c'=>refine⟨h.1,NS h.2 λr s1 J=>?_⟩;obtain⟨rfl,J⟩:=J;exact J
 ·cases h.1
end
end Dk
namespace Mi
open L2.Srt
noncomputable def jC:RAd:=λds M Q=>∃a t kvs sh,ds=[.ref a]/\M a=Z (.dct t kvs)/\kg sh=N2/\(∀kv∈kvs,hs sh kv.1=N2)/\∀p ys,M p=Y->ys.Perm (kvs.map (·.1))->nX ys->Q (.ref p) (ah M p (.lst ys))
theorem jD:aV jC:=λ_ _ _ _ h j=>(by obtain⟨a,t,kvs,sh,e,z,B,F,q⟩:=j;exact⟨a,t,kvs,sh,e,z,B,F,λp ys n G hs=>h _ _ (q p ys n G hs)⟩)
theorem qz{K:Frag}{H:Hp}:∀{kvs:List (D×D)} {es:List LQ},JX (kh K H) kvs es->∃vs,RDs K H (kvs.map (·.1)) vs/\Vals vs (es.map (·.key))
 |_,_,.nil=>⟨[],RDs.nil,.nil⟩
 |_,_,.cons r t=>by obtain⟨vs,h1,h2⟩:=qz t;obtain⟨kV,vV,g1,g2,_,_⟩:=r;exact⟨kV::vs,RDs.cons g1 h1,.cons g2 h2⟩
section
variable{X:Cx}
theorem oj(L:X.A.units+16<LF)(O:X.calm=N2):CallR X (.builtin "sorted") (lR X.K jC):=by
 intro pins s σ H xs us Q I r h;obtain⟨ds,M,rm,rs,a,t,kvs,sh,rfl,e,hok,j,q⟩:=h;obtain⟨v,rfl,rv⟩:=rs.one;obtain⟨u,rfl,ru⟩:=di r
 cases TK.mp rv
 cases(show u=KY a from ru)
 obtain⟨cd,dd,sl,es,ep,hd,U,z,F2⟩:=A6 I rm e;obtain⟨t1,t2,B⟩:=jb I F2;obtain⟨vs,h1,h2⟩:=qz z;have F:cd=.type "dict":=by obtain⟨o,g1,g2⟩:=t1;rw[hd]at g1;cases g1;exact g2
 subst F;have fv:X.A.in1.handled=Y:=I.ok.hd O;exact pW (cap:=J9) sg L I rm h1 hok (λd hd=>by obtain⟨kv,G,rfl⟩:=J8.mp hd;exact j kv G) q h2 (by have:=h2.length;rw[h7]at this;simp at this;lia) (by have:=h2.length;rw[h7]at this;simp at this;lia) λE R hR=>Dk.collect_dict fv B hd U λh' tk kp J=>hR h' tk kp J
end
end Mi
namespace Mi
end Mi
namespace Mi
end Mi
section
section
variable{X:Cx}{pins:List (Ub×Obj)}{σ:St}{H:Hp}{s:I7}
theorem Inv.freeze(I:Inv X pins σ H s){ps:List (List Key×V)}(e:H a=Z (.dT ps)):∃o,Inv X pins σ (upd H a (.frz o (.dT ps))) s:=by
 obtain⟨B,j,xs,pr,o,es,ep,h1,h2,F,G,J⟩:=id (I.hok a _ e);have mu:Mut (H a):=by rw[e];exact Oh
 have u:Un X.fs [] H (upd H a (.frz o (.dT ps))) s.heap s.heap:=Un.write mu (.inl rfl) (λb u _ q=>q) ⟨_,h1⟩;have ok:HOk X.prog X.w (upd H a (.frz o (.dT ps))) s.heap:=HOk.write I.hok mu (.inl rfl) (λb u _ q=>q) ⟨_,h1⟩
  ⟨h1,(I.hok a _ e).stay (λb u _ q=>q) (λb q=>by rw[am (λz=>by subst z;rw[e]at q;cases q)];exact q) (λb xs q=>by rw[am (λz=>by subst z;rw[e]at q;cases q)];exact q)⟩
 exact⟨o,I.un (t':=s.toks) u ok⟩
end
noncomputable def Itk(n:Nat)(G:Hp->Prop)(yl:Nat->V->Hp->Prop):It:=⟨λi H=>i<n/\G H,λi H x H'=>H'=H/\yl i x H,λi H=>n<=i/\G H⟩
theorem uP{tg:Expr}(a it:Ub){cd:hH}{dd:Option Ub}{sl:Array (Option hH)}{es:Array LQ}{ep:Nat}{G:Hp->Prop}{yl:Nat->V->Hp->Prop}(U:∀H,G H->∃u,H a=Z (.frz {cls:=cd,dict:=dd,data:=.dict es ep,slots:=sl} u))(fv:∀i H h,HOk P w H h->G H->∀e,es[i]?=Z e->∃x,RelV x e.key/\yl i x H):
 fW P w K tg (Itk es.size G yl) [it] it (λi h=>i<=es.size/\h.get? it=Z (Dk.kO a i es.size ep)) where
 mem:=by simp
 obj:=λi h st b q=>by
  have e:b=it:=by simpa using q
  subst e;exact⟨_,st.2,λv z=>by cases z⟩
 keep:=λi h h' st k=>⟨st.1,k it (by simp) _ st.2⟩
 item:=by
  intro X B hw F F2 i pins s σ H E I hf st j;subst B hw F;obtain⟨hi,j⟩:=j;obtain⟨u,J⟩:=U H j;obtain⟨f0,f1,f2,L,f4,O⟩:=hf it (by simp)
  obtain⟨x,rx,yx⟩:=fv i H s.heap I.hok j es[i] (JQ hi);refine Dk.nx_item (e:=es[i]) st.2 (I.hok a _ J).1 (JQ hi) λh' st' sb=>?_;have I1:Inv X pins σ H {s with heap:=h'}:=I.turned (t':=s.toks) (λb o q e=>(sb.2 b q).trans e) f0 f1 L f4 O
  exact⟨_,rfl,m8 (s:={s with heap:=h'}) (n:="dict_keyiterator") st' rfl rfl (by decide) ⟨x,H,I1,rx,⟨rfl,yx⟩,⟨hi,st'⟩,λb q=>(hf b q).1⟩⟩
 done:=by
  intro X B hw F F2 i pins s σ H E I hf st j;subst B hw F;obtain⟨hi,j⟩:=j;obtain⟨u,J⟩:=U H j;obtain⟨f0,f1,f2,L,f4,O⟩:=hf it (by simp)
  have e:i=es.size:=by have:=st.1;lia
  subst e;exact Dk.nx_end (I.ok.hd F2) st.2 (I.hok a _ J).1 λh' k=>⟨rfl,I.turned (t':=s.toks) (λb o q e=>k b o q e) f0 f1 L f4 O⟩
 self:=λA i s Q E st h=>QU ⟨_,st.2,rfl,rfl⟩ h
namespace Mi
section
variable{X:Cx}
noncomputable def iM(i:Nat)(t:TSd):TSd:=λA ρ M=>∃a kvs,ρ[i]?=Z (Z (.ref a))/\((M a=Z (.dct N2 kvs)/\t A ρ (ah M a (.fdc kvs)))∨(M a=Z (.fdc kvs)/\t A ρ M))
theorem xz{i:Nat}{t:TSd}(h:aI t):aI (iM i t):=λa b ρ M l g9=>(by obtain⟨p,kvs,e,q⟩:=g9;exact⟨p,kvs,e,q.imp (λq=>⟨q.1,h _ _ _ _ l q.2⟩) λq=>⟨q.1,h _ _ _ _ l q.2⟩⟩)
theorem BX{st:Stmt}{i:Nat}{t:TSd}(h:PS X st (lS X.K t)):PS X st (lS X.K (iM i t)):=by
 intro pins s σ H D I ⟨ρ,M,A,rs,rm,lk,a,kvs,e,q⟩
 rcases q with⟨m,q⟩|⟨m,q⟩
 ·obtain⟨ps,j,pr⟩:=rm a _ m;obtain⟨o,I'⟩:=I.freeze j;have sb:Stab H (upd H a (.frz o (.dT ps))):=rm.stabPut m;exact h pins s σ _ D I' ⟨ρ,ah M a (.fdc kvs),A,rs.mono sb,rm.put m ⟨o,ps,ay,TN pr λ_ _ z=>⟨z.1,z.2.mono sb⟩⟩,lk.ext (Ext.put m),q⟩
 ·exact h pins s σ H D I ⟨ρ,M,A,rs,rm,lk,q⟩
noncomputable def mJ(ta:TEd):TId:=λρ M R=>ta ρ M λx M1=>∃a kvs,x=.ref a/\M1 a=Z (.fdc kvs)/\R (kvs.map (·.1)) (λ_=>True) M1
theorem uQ{ta:TEd}(h:af ta):cg (mJ ta):=λρ M Q Q' i q=>h _ _ _ _ (λx F j=>(by obtain⟨a,ds,e,z,B⟩:=j;exact⟨a,ds,e,z,i _ _ _ B⟩)) q
theorem qA{K:Frag}{H:Hp}:∀{kvs:List (D×D)} {es:List LQ},JX (kh K H) kvs es->∀(i:Nat) (e:LQ),es[i]?=Z e->∃(kv:D×D) (v:V),kvs[i]?=Z kv/\RD K H kv.1 v/\RelV v e.key
 |_,_,.nil,_,_,h=>by simp at h
 |_,_,.cons r t,0,_,h=>by simp at h;subst h;obtain⟨kV,vV,g1,g2,_,_⟩:=r;exact⟨_,kV,rfl,g1,g2⟩
 |_,_,.cons _ t,i+1,e,h=>by
  obtain⟨kv,v,h1,h2⟩:=qA t i e (by simpa using h)
  exact⟨kv,v,by simpa using h1,h2⟩
theorem Ab{tg e:Expr}{ta:TEd}(m:af ta)(he:PE X e (lE X.K ta)):PI X tg e (lI X.K (mJ ta)):=by
 intro pins s σ H R I h;obtain⟨ρ,M,rs,rm,q⟩:=h;have hq:lE X.K ta σ H (λv H1=>∃a kvs B,v=.ref a/\Ext M H B H1/\RM X.K B H1/\B a=Z (.fdc kvs)/\∀J,gd X.K H1 (kvs.map (·.1)) (λ_=>True) J->R J H1):=
  ⟨ρ,M,rs,rm,m _ _ _ _ (fun x B ⟨a,kvs,e,O,U⟩ v H1 F2 j rd1=>by
   subst e
   cases TK.mp rd1
   exact⟨a,kvs,B,rfl,F2,j,O,λJ ij=>U J H1 F2 j ij⟩) q⟩
 refine thn (he pins s σ H _ I hq) λu s1 g9=>?_;obtain⟨x,H1,F,r1,a,kvs,B,e0,F2,j,O,U⟩:=g9;subst e0
 cases r1
 obtain⟨o,ps,fv,pr⟩:=j _ _ O;obtain⟨g0,ok⟩:=F.hok a _ fv;obtain⟨cd,dd,sl,es,ep,g1,g2,g3⟩:=nY ok pr;obtain⟨ty,_,GA⟩:=jb F (.inr ⟨ps,.inr ⟨o,fv⟩⟩);rw[g0]at g1
 cases g1
 have GB:cd=.type "dict":=by obtain⟨o,h1,h2⟩:=ty;rw[g0]at h1;cases h1;exact h2
 subst GB;have lz:kvs.length=es.size:=by have:=bg g3;simpa using this
 refine Dk.it_dict GA g0 ?_;refine⟨s1.heap.objs.size,[s1.heap.objs.size],_,_,H1,rfl,F.kept (t':=s1.toks) λb o e=>D0 _ e,uP (G:=λH=>H a=Z (.frz {cls:=.type "dict",dict:=dd,data:=.dict es ep,slots:=sl} (.dT ps))/\JX (λ(p:D×D) (q:List Key×V)=>RKeys p.1 q.1/\RD X.K H p.2 q.2) kvs ps) (yl:=λi x H=>∃kv,kvs[i]?=Z kv/\RD X.K H kv.1 x) a _ (λH h=>⟨_,h.1⟩) (λi H h hok ⟨ha,pr'⟩ e he=>?_),⟨Ku _,Jf _ rfl⟩,λb hb=>?_,U _ ?_⟩
 ·obtain⟨z0,ok'⟩:=hok a _ ha;obtain⟨cd,dd,sl',es',ep',z1,_,z3⟩:=nY ok' pr';rw[z0]at z1
  cases z1
  obtain⟨kv,v,y1,y2,y3⟩:=qA z3 i e (by simpa using he)
  exact⟨v,y3,kv,y1,y2⟩
 ·have e:b=s1.heap.objs.size:=by simpa using hb
  subst e;exact F.fpOk (J6 _) (F.hok.fresh (J6 _))
 ·intro M' H' st rm' _ i;have L:=st.frz _ _ _ fv;have pr':JX (λ(p:D×D) (q:List Key×V)=>RKeys p.1 q.1/\RD X.K H' p.2 q.2) kvs ps:=TN pr λ_ _ z=>⟨z.1,z.2.mono st⟩;rw[h7,lz];refine⟨λhi=>⟨hi,L,pr'⟩,λhi=>⟨⟨hi,L,pr'⟩,λx H'' y=>?_⟩⟩;obtain⟨e,kv,y1,y2⟩:=y;subst e;exact⟨.inl rfl,kv.1,by rw[Jj,y1];rfl,y2⟩
end
end Mi
end
section
section
variable{prog:JB}{w:K1}{K:Type}[DecidableEq K]{knd:HeapKind prog w K}{A:Kh}{E:hH->I7->Prop}{s:I7}
noncomputable def dg(ev:hH->hH->Bool)(xb:List (K×Ub×hH))(x:K×Ub×hH):Bool:=match QF xb x.1 with
 |some p=>ev x.2.2 p.2
 |none=>Ua
theorem BY{nm:String}{xa xb:List (K×Ub×hH)}{ev:hH->hH->Bool}{Q:Bool->I7->Prop}(hu:knd.room A)(ha:(a==Ks)=Ua)(hb:(b==Ks)=Ua)(da:s.heap.DictOfH knd a xa)(db:s.heap.DictOfH knd b xb)(GF:∀x∈xa,∀y∈xb,SeqAt.EqAt A s x.2.2 y.2.2 (ev x.2.2 y.2.2))(h:Q (xa.length==xb.length&&xa.all (dg ev xb)) s):
 Jm (model prog w) A (Qm nm a b) Q E s:=by
 obtain⟨oa,es,ep,F,_,G,GC,GG,GM⟩:=da;obtain⟨ob,es',ep',L,_,O,U,GH,GD⟩:=db;have F2:xa.length=es.size:=(size_of_entries GC).symm;have GI:xb.length=es'.size:=(size_of_entries U).symm;rw[F2,GI]at h;unfold Qm Builtin.Dict.showsAll;rw[if_neg (show ¬(a==Ks)=N2 by rw[ha];exact Jg),if_neg (show ¬(b==Ks)=N2 by rw[hb];exact Jg)]
 refine gV (D2 (gV (D2 ?_)));refine gV (Nk F G ?_);dsimp only;refine gV (Nk L O ?_)
 by_cases hsz:es.size=es'.size
 case neg=>
  rw[if_pos (by simpa using hsz)]
  have GJ:(es.size==es'.size)=Ua:=by simpa using hsz
  rw[GJ,P2]at h;exact gV (Ll (D2 h))
 case pos=>
  have h':Q (xa.all (dg ev xb)) s:=by simpa[hsz]using h
  rw[if_neg (by rw[hsz];simp)]
  refine gV (wpAny_dictEpoch F G ?_);refine gV ?_;rw[Std.Legacy.Range.forIn_eq_forIn_range'];simp only[Std.Legacy.Range.size,Nat.sub_zero,RA,Nat.div_one];refine wpAny_forIn_list _
   (λrest q s'=>s'=s/\q=(Y,())/\∃i,rest=List.range' i (es.size-i)/\i<=es.size/\xa.all (dg ev xb)=(xa.drop i).all (dg ev xb))
   _ ?_ ?_ _ _ ⟨rfl,rfl,0,by simp,Ku _,by simp⟩
  ·rintro x rest q s' ⟨rfl,rfl,i,fv,hi,z⟩;have GE:i<es.size:=by
    rcases OX i es.size with h|h
    ·exact h
    ·rw[Nat.sub_eq_zero_of_le h]at fv;simp at fv
   obtain⟨rfl,GA⟩:x=i/\rest=List.range' (i+1) (es.size-(i+1)):=by
    have e:es.size-i=(es.size-(i+1))+1:=∅
    rw[e,Su]at fv
    injection fv with h1 h2
    exact⟨h1,h2⟩
   have B:x<xa.length:=by rw[F2];exact GE
   refine gV (Nk F G ?_);rw[entry_at GC x,z4 B];have GB:xa.drop x=xa[x]::xa.drop (x+1):=KG B;have J:xa[x]∈xa:=KO B;rw[GB,MK]at z;show Jm _ _ (holding [_,_] _>>=_) _ _ _;refine gV (Kj (gV (wpAny_dictFind_heap (k:=xa[x].1) (a:=xa[x].2.1) hu (GG _ J) L O U GH GD (λGK=>?_) (λj p hj=>?_))))
   ·have hn:dg ev xb xa[x]=Ua:=by unfold dg;rw[atKey_none_of_get GK]
    rw[z,hn,P2]at h';refine D2 ?_;show Jm _ _ (if(!false)=N2 then _ else _) _ _ _
    rw[if_pos (by decide)]
    exact D2 (D2 h')
   ·have hn:dg ev xb xa[x]=ev xa[x].2.2 p.2:=by unfold dg;rw[atKey_of_get GD hj]
    refine gV (Nk L O ?_);rw[entry_at U j,hj];refine Kj (GF _ J _ (Jh hj) prog w _ _ ?_);show Jm _ _ (if(!(ev xa[x].2.2 p.2))=N2 then _ else _) _ _ _
    rw[hn]at z
    cases e:ev xa[x].2.2 p.2 with
    |false=>
     rw[e,P2]at z;rw[z]at h';rw[if_pos (by decide)]
     exact D2 (D2 h')
    |true=>
     rw[e,Bool.true_and]at z;rw[if_neg (by decide)]
     refine gV (wpAny_dictEpoch F G ?_);rw[if_neg (by simp)]
     exact D2 ⟨rfl,rfl,x+1,GA,GE,z⟩
  ·rintro q s' ⟨rfl,rfl,i,fv,hi,z⟩;have GL:i=es.size:=by
    rcases OX i es.size with h|h
    ·have e:es.size-i=(es.size-(i+1))+1:=by lia
     rw[e,Su]at fv;exact nomatch fv
    ·exact ON hi h
   refine D2 ?_;rw[GL,<-F2,Q0]at z;rw[z]at h';exact h'
theorem Dy{xa xb:List (K×Ub×hH)}{ev:hH->hH->Bool}{Q:hH->I7->Prop}(q:A.units<LF)(z:knd.room A.in1)(B:(a==Ks)=Ua)(G:(b==Ks)=Ua)(da:s.heap.DictOfH knd a xa)(db:s.heap.DictOfH knd b xb)(j:∀x∈xa,∀y∈xb,SeqAt.EqAt A.in1 s x.2.2 y.2.2 (ev x.2.2 y.2.2))(h:Q (.bool (xa.length==xb.length&&xa.all (dg ev xb))) s):
 Jm (model prog w) A (KN .Eq (.ref a) (.ref b)) Q E s:=by
 refine OU (op:=.Eq) da.typeIs db.typeIs QV (K7 QV da.typeIs PySem.F.entry_dict_eq ?_ (PySem.F.args_dict_eq_2 _ _)) q;show Jm _ _ (Pm "__eq__" ⟨[.ref a,.ref b],[]⟩>>=_) _ _ s;refine gV ?_;unfold Pm;refine gV (wpAny_notOrdered_dict da.typeIs ?_);show Jm _ _ (pure (KY a,KY b)) _ _ s;refine D2 ?_;refine gV (Mf (T:="dict") db.typeIs PySem.F.sub_dict_dict ?_);simp only[Bool.not_true,Ld,if_false];refine gV (D2 (gV (D2 ?_)));refine gV (BY z B G da db j ?_);refine D2 ⟨_,rfl,?_,?_⟩
 ·exactλx=>nomatch x
 ·simpa using h
end
namespace Mi
variable{K:Frag}{H:Hp}{kvs:List (D×D)}{ps:List (List Key×V)}{xs:List (List Key×Ub×hH)}
section
variable{X:Cx}
def dI(M:Mem)(a:Ub)(kvs:List (D×D)):Prop:=(M a=Z (.dct N2 kvs)∨M a=Z (.fdc kvs))/\∀kv∈kvs,∃i,kv.2=.int i
noncomputable def eqD(ps qs:List (D×D)):Bool:=ps.length==qs.length&&ps.all λkv=>decide (dget qs kv.1=Z kv.2)
noncomputable def sr:R2d:=λx y M Q=>∃a b ps qs,x=.ref a/\y=.ref b/\dI M a ps/\dI M b qs/\Q (.bl (eqD ps qs)) M
theorem xA:aJ sr:=λ_ _ _ _ _ h j=>(by obtain⟨a,b,ps,qs,z,B,F,G,q⟩:=j;exact⟨a,b,ps,qs,z,B,F,G,h _ _ q⟩)
noncomputable def evI:hH->hH->Bool
 |.int i _,.int j _=>i==j
 |_,_=>Ua
theorem dI.at{M:Mem}{a:Ub}(rm:RM K M H)(h:dI M a kvs):∃ps,Rd H a (.dT ps)/\JX (λ(p:D×D) (q:List Key×V)=>RKeys p.1 q.1/\RD K H p.2 q.2) kvs ps:=by
 rcases h.1 with e|e
 ·obtain⟨ps,j,pr⟩:=rm a _ e;exact⟨ps,.inl j,pr⟩
 ·obtain⟨o,ps,j,pr⟩:=rm a _ e;exact⟨ps,.inr ⟨o,j⟩,pr⟩
theorem oo(pr:JX (λ(p:D×D) (q:List Key×V)=>RKeys p.1 q.1/\RD K H p.2 q.2) kvs ps)(kt:KT H ps xs)(hi:∀kv∈kvs,∃i,kv.2=.int i):∀x∈xs,∃i t,x.2.2=.int i t:=by
 induction pr generalizing xs with
 |nil=>cases kt;intro x hx;exact nomatch hx
 |@cons p q ps qs h t ih=>
  cases kt with
  |cons g gt=>
   intro x hx
   rcases Jp.mp hx with e|hx
   ·subst e;obtain⟨i,ei⟩:=hi p (by simp)
    have:=h.2;rw[ei]at this;have z:=g.2.2;rw[TJ.mp this]at z;obtain⟨t,B⟩:=z;exact⟨i,t,B⟩
   ·exact ih gt (λkv j=>hi kv (by simp[j])) x hx
theorem BZ(pr:JX (λ(p:D×D) (q:List Key×V)=>RKeys p.1 q.1/\RD K H p.2 q.2) kvs ps)(kt:KT H ps xs)(hi:∀kv∈kvs,∃i,kv.2=.int i){k:D}{q:List Key}(G:RKeys k q)(i:Int)(t:Tok)(b:Ub):dg evI xs (q,b,.int i t)=decide (dget kvs k=Z (.int i)):=by
 obtain⟨g1,g2⟩:=fD (RK:=RKeys) RKeys.inj RKeys.fun G pr;have B:=KT.val kt q;unfold dg;dsimp only
 cases e:dget kvs k with
 |none=>
  rw[g2 e]at B
  cases z:QF xs q with
  |none=>simp
  |some p=>rw[z]at B;exact B.elim
 |some d=>
  obtain⟨v,J,L⟩:=g1 d e;rw[J]at B
  cases z:QF xs q with
  |none=>rw[z]at B;exact B.elim
  |some p=>
   rw[z]at B;obtain⟨j,ej⟩:∃j,d=.int j:=by unfold dget at e;obtain⟨kv,h1,h2⟩:=Mb.mp e;obtain⟨j,O⟩:=hi kv (Pn h1);exact⟨j,by rw[<-h2];exact O⟩
   subst ej
   cases TJ.mp L
   obtain⟨t',U⟩:∃t',p.2=.int j t':=B;dsimp only;rw[U];show(i==j)=decide (Z (D.int j)=Z (D.int i))
   by_cases hij:i=j
   ·subst hij;simp
   ·have F:¬j=i:=λz=>hij z.symm;simp[hij,F]
theorem C0{ls:List (D×D)}{us:List (List Key×V)}{ys:List (List Key×Ub×hH)}(pr:JX (λ(p:D×D) (q:List Key×V)=>RKeys p.1 q.1/\RD K H p.2 q.2) kvs ps)(kt:KT H ps xs)(hi:∀kv∈kvs,∃i,kv.2=.int i)(pr':JX (λ(p:D×D) (q:List Key×V)=>RKeys p.1 q.1/\RD K H p.2 q.2) ls us)(kt':KT H us ys)(j:∀kv∈ls,∃i,kv.2=.int i):
 (xs.length==ys.length&&xs.all (dg evI ys))=eqD kvs ls:=by
 have l1:xs.length=kvs.length:=by rw[bg pr,bg kt]
 have l2:ys.length=ls.length:=by rw[bg pr',bg kt']
 unfold eqD;rw[l1,l2];congr 1;clear l1 l2
 induction pr generalizing xs with
 |nil=>cases kt;rfl
 |@cons p q ps qs h t ih=>
  cases kt with
  |@cons _ x _ xs g gt=>
   rw[MK,MK,ih gt (λkv B=>hi kv (by simp[B]))]
   congr 1;obtain⟨i,ei⟩:=hi p (by simp)
   have:=h.2;rw[ei]at this;have z:=g.2.2;rw[TJ.mp this]at z;obtain⟨t,F⟩:∃t',x.2.2=.int i t':=z;obtain⟨J,G,L⟩:=x;dsimp only at F g;subst F;rw[ei,<-g.1];exact BZ pr' kt' j h.1 i t G
theorem xB{pins:List (Ub×Obj)}{σ:St}{s:I7}{M:Mem}{A:Kh}{E Q:hH->I7->Prop}{ps qs:List (D×D)}{a b:Ub}(J:A.units+2<LF)(I:Inv X pins σ H s)(rm:RM X.K M H)(h1:dI M a ps)(h2:dI M b qs)(h:Q (.bool (eqD ps qs)) s):Jm (model X.prog X.w) A (KN .Eq (.ref a) (.ref b)) Q E s:=by
 obtain⟨us,z,pr⟩:=h1.at rm;obtain⟨vs,q,pr'⟩:=h2.at rm;obtain⟨_,sm,xs,kt,dd⟩:=dj I.hok z;obtain⟨_,sm',ys,kt',dd'⟩:=dj I.hok q;have B:=oo pr kt h1.2;have F:=oo pr' kt' h2.2;refine Dy (ev:=evI) ∅ (LC ∅) sm sm' dd dd' (λx hx y G=>?_) (by rw[C0 pr kt h1.2 pr' kt' h2.2];exact h)
 obtain⟨i,t,e⟩:=B x hx;obtain⟨j,u,e'⟩:=F y G;rw[e,e'];exact SeqAt.EqAt.int_int i t j u
theorem xC(j:X.A.units+2<LF):OpR X (KN .Eq) (l2 X.K sr):=by
 intro pins s σ H x y v u Q I rx ry h;obtain⟨x',y',M,rm,rdx,rdy,a,b,ps,qs,rfl,rfl,h1,h2,q⟩:=h
 cases TK.mp rdx
 cases TK.mp rdy
 cases rx
 cases ry
 exact xB j I rm h1 h2 ⟨.bl (eqD ps qs),H,I,rfl,q _ H Ext.refl rm (TM.mpr rfl)⟩
end
end Mi
end
namespace Mi
end Mi
namespace Mi
section
section
variable{X:Cx}
def DF(M:Mem)(a:Ub)(t:Bool)(kvs:List (D×D)):Prop:=M a=Z (.dct t kvs)∨(t=N2/\M a=Z (.fdc kvs))
noncomputable def iN(neg:Bool):R2d:=λk x M Q=>∃a t kvs,x=.ref a/\DF M a t kvs/\fC t k=N2/\Q (.bl (if neg then !(dget kvs k).isSome else(dget kvs k).isSome)) M
theorem ot{neg:Bool}:aJ (iN neg):=λ_ _ _ _ _ h j=>(by obtain⟨a,t,kvs,z,B,F,q⟩:=j;exact⟨a,t,kvs,z,B,F,h _ _ q⟩)
theorem uR{K:Frag}{M:Mem}{H:Hp}{a:Ub}{t:Bool}{kvs:List (D×D)}{k:D}{v:V}(rm:RM K M H)(e:DF M a t kvs)(ok:fC t k=N2)(rk:RD K H k v):∃o,DGet H a v o/\o.isSome=(dget kvs k).isSome:=by
 have:∃o,DGet H a v o/\(∀d,dget kvs k=Z d->∃w,o=Z w/\RD K H d w)/\(dget kvs k=Y->o=Y):=by
  rcases e with e|⟨rfl,e⟩
  ·exact jW rm e ok rk
  ·obtain⟨ob,ps,j,pr⟩:=rm a _ e;exact ny (.inr ⟨ob,j⟩) pr ok rk
 obtain⟨o,g,g1,g2⟩:=this;refine⟨o,g,?_⟩
 cases h:dget kvs k with
 |none=>rw[g2 h];rfl
 |some d=>obtain⟨w,rfl,_⟩:=g1 d h;rfl
theorem xD(j:X.A.units+1<LF):OpR X (KN .In) (l2 X.K (iN Ua)):=by
 intro pins s σ H y x u v Q I ry rx h;obtain⟨dk,dx,M,rm,rk,rd,a,t,kvs,rfl,e,ok,q⟩:=h
 cases TK.mp rd
 cases rx
 obtain⟨o,g,ho⟩:=uR rm e ok rk;exact Ep j I g ry λs' I'=>⟨.bl o.isSome,H,I',rfl,by rw[ho];exact q _ H Ext.refl rm (TM.mpr rfl)⟩
theorem uS(j:X.A.units+1<LF):OpR X (KN .NotIn) (l2 X.K (iN N2)):=by
 intro pins s σ H y x u v Q I ry rx h;obtain⟨dk,dx,M,rm,rk,rd,a,t,kvs,rfl,e,ok,q⟩:=h
 cases TK.mp rd
 cases rx
 obtain⟨o,g,ho⟩:=uR rm e ok rk;exact zn j I g ry λs' I'=>⟨.bl (!o.isSome),H,I',rfl,by rw[ho];exact q _ H Ext.refl rm (TM.mpr rfl)⟩
end
end
end Mi
section
noncomputable def tD1(tk tv:TE):TE:=λσ H Q=>∀p,H p=Y->mZ [(tk,tv)] σ (upd H p (.dT [])) λps H2=>∃x y,ps=[(x,y)]/\H2 p=Z (.dT [])/\∃b k,x=.ref b/\H2 b=Z (.tup (k.map kV))/\Q (.ref p) (upd H2 p (.dT [(k,y)]))
theorem Dz{ke ve:Expr}{tk tv:TE}(F:X.A.units+1<LF)(G:PE X ke tk)(J:PE X ve tv):PE X (.Dict [Z ke] [ve] pos) (tD1 tk tv):=by
 intro pins s σ H Q I q;have L:=I.hok.fresh (J6 s.heap.objs.size);have O:=I.laid (a:=s.heap.objs.size) (o:=.dT []) (h':=s.heap.push {cls:=.type "dict",data:=.dict #[]}) (t':=s.toks) (λ_ _ q=>D0 _ q) (J6 _) (iE s.heap I.big);have pp:PPs X pos [Z ke] [ve] [(tk,tv)]:=wl G J zo;refine wpAny_Dict_any rfl rfl (by simp) (by simp) (thn (pp pins _ σ _ (λps H2=>∃x y,ps=[(x,y)]/\H2 s.heap.objs.size=Z (.dT [])/\∃b k,x=.ref b/\H2 b=Z (.tup (k.map kV))/\Q (.ref s.heap.objs.size) (upd H2 s.heap.objs.size (.dT [(k,y)]))) O ?_) λws s2 ⟨ps,H2,j,rel,x,y,ep,e,b,k,ex,eb,U⟩=>?_)
 ·exact q _ L
 ·subst ep ex
  cases rel with
  |@cons _ w _ _ h t=>
   cases t
   obtain⟨F2,fv⟩:=w;obtain⟨h1,h2⟩:=h
   cases(show F2=KY b from h1)
   obtain⟨z,hd,xs,rk,dd⟩:=rB j.hok e
   cases rk
   unfold storeAll;rw[Mq];refine gV (gV (RC (hsz:=by simp) (show(Nq (aE X.prog X.w)).room X.A from Nat.lt_of_succ_lt F) (cU j.hok eb) dd λh' dd' hs=>?_))
   refine D2 (D2 ⟨.ref s.heap.objs.size,_,?_,rfl,U⟩);obtain⟨qo,es,ep,B,g2,g3,g4,_,g5⟩:=dd';have rel':KT H2 [(k,y)] (storedH [] k b fv):=KT.put (kvs:=[]) (xs:=[]) .nil k eb h2;refine gJ j (by rw[e];exact Oh) hs ⟨qo,B⟩ ⟨by rw[r4];simp,hd,_,rel'.keeps λc ys ec=>?_,qo,es,ep,B,g2,g3,g4,g5⟩
   rw[am (qY ec e (λz=>nomatch z))];exact ec
theorem uT:CallR X (.builtin "len") (λxs H Q=>∃a kvs,xs=[.ref a]/\Rd H a (.dT kvs)/\Q (.int kvs.length) H):=by
 intro pins s σ H xs us Q I r h;obtain⟨a,kvs,rfl,e,q⟩:=h;obtain⟨u,rfl,rx⟩:=di r
 cases rx
 obtain⟨z,hd,ys,rel,o,es,ep,ho,G,j,he,J,O⟩:=dj I.hok e;have hlen:es.size=kvs.length:=by rw[Lj rel,<-Jy,he,h7]
 have B:s.TypeIs (.ref a) "dict":=⟨_,ho,G.1⟩;have mt:MeetsIn X.prog X.w (LR.«dict.__len__» ⟨[.ref a],[]⟩) (λ_ R s=>s.heap.get? a=Z o/\R (.ok (.ret (.int kvs.length s.toks))) {s with toks:=s.toks+1}):=.of_wp λA R s ⟨ho,h⟩=>by show Jm _ _ (dictSize a>>=_) _ _ s;unfold dictSize;refine gV (gV (Nk ho j (D2 ?_)));show Jm _ _ (Builtin.Dict.pendingCount a>>=_) _ _ s;refine gV (wpAny_pendingCount_other hd (wpAny_ret_mkInt ?_));rw[Nat.add_zero,hlen];exact h
 have L:=eR;rw[r4]at z;refine Calls.call_function_entry kind_len plain_len entry_len (args_len1 _) ?_;unfold LR.«len»;refine gV (m:=oneArg "len" _) (D2 ?_);refine gV (m:=callSpecial? (.ref a) (JN "__len__")) (JY (name:=JN "__len__") B T2 (Qh T2 B F.entry_dict_len (F.args_dict_len_1 _) mt ⟨ho,?_⟩));show Jm _ _ _ _ _ {s with toks:=s.toks+1}
 refine gV (Kj (D2 ?_));refine gV (Px ?_);show Jm _ _ (if((kvs.length:Nat):Int)<0 then _ else _) _ _ _
 rw[if_neg (by omega)]
 show Jm _ _ (if((kvs.length:Nat):Int)≥2^63 then _ else _) _ _ _
 rw[if_neg (by omega)]
 exact gV (wpAny_mkInt (D2 ⟨_,rfl,⟨.int kvs.length,H,I.tok _,⟨_,rfl⟩,q⟩⟩))
namespace Mi
section
variable{X:Cx}
noncomputable def mK:RAd:=λxs M Q=>∃a kvs,xs=[.ref a]/\DF M a N2 kvs/\Q (.int kvs.length) M
theorem lF:aV mK:=λ_ _ _ _ h j=>(by obtain⟨a,kvs,e,l,q⟩:=j;exact⟨a,kvs,e,l,h _ _ q⟩)
theorem pY:CallR X (.builtin "len") (lR X.K mK):=by
 refine CallR.of uT λvs H Q h=>?_;obtain⟨ds,M,rm,rs,a,kvs,rfl,e,q⟩:=h;obtain⟨v,rfl,r⟩:=rs.one
 cases TK.mp r
 have:∃ps:List (List Key×V),Rd H a (.dT ps)/\kvs.length=ps.length:=by
  rcases e with e|⟨_,e⟩
  ·obtain⟨ps,j,pr⟩:=rm _ _ e;exact⟨ps,.inl j,Lj pr⟩
  ·obtain⟨ob,ps,j,pr⟩:=rm _ _ e;exact⟨ps,.inr ⟨ob,j⟩,Lj pr⟩
 obtain⟨ps,j,pr⟩:=this;exact⟨a,ps,rfl,j,by rw[<-pr];exact q _ H Ext.refl rm (TJ.mpr rfl)⟩
noncomputable def wD1(tk tv:TEd):TEd:=λρ M Q=>∀p,M p=Y->tk ρ (ah M p (.dct N2 [])) λk M1=>tv ρ M1 λv M2=>bK k=N2/\M2 p=Z (.dct N2 [])/\Q (.ref p) (ah M2 p (.dct N2 [(k,v)]))
theorem Ac{tk tv:TEd}(j:af tk)(z:af tv):af (wD1 tk tv):=λρ M Q Q' i q p n=>j _ _ _ _ (λk J B=>z _ _ _ _ (λv M2 F=>(by obtain⟨a,b,G⟩:=F;exact⟨a,b,i _ _ G⟩)) B) (q p n)
theorem DA{ke ve:Expr}{tk tv:TEd}{pos:Pos}(hu:X.A.units+1<LF)(mk:af tk)(mv:af tv)(hk:PE X ke (lE X.K tk))(hv:PE X ve (lE X.K tv)):PE X (.Dict [Z ke] [ve] pos) (lE X.K (wD1 tk tv)):=by
 refine PE.imp (Dz hu hk hv) λσ H Q h=>?_;obtain⟨ρ,M,rs,rm,q⟩:=h;intro p n;have x0:Ext M H (ah M p (.dct N2 [])) (upd H p (.dT [])):=Ext.lay n;have B:RM X.K (ah M p (.dct N2 [])) (upd H p (.dT [])):=rm.lay n ⟨[],ay,.nil⟩;have F:=rs.mono (x0.stab rm);refine⟨ρ,_,F,B,mk _ _ _ _ (λk M1 q1 v1 H1 U G L=>?_) (q p (rm.out n))⟩;refine⟨ρ,M1,F.mono (U.stab B),G,mv _ _ _ _ (λv M2 g9 v2 H2 F2 j O=>?_) q1⟩;obtain⟨ok,em,q2⟩:=g9;have J:=L.mono (F2.stab G);obtain⟨ps,hp,pr⟩:=j _ _ em
 cases pr
 obtain⟨kq,z⟩:=gK ok
 cases k<;>first
  |exact z.elim
  | (obtain⟨b,us,rfl,fv,ru⟩:=U2 (gL ok) J
     rw[dU z ru]at fv;refine⟨_,_,rfl,hp,b,kq,rfl,fv,?_⟩;have st:Stab H2 (upd H2 p (.dT [(kq,v2)])):=j.stabPut em;exact q2 _ _ ((x0.trans (U.trans F2)).trans (Ext.put em)) (j.put (o:=.dct N2 [(_,v)]) em ⟨_,ay,.cons ⟨z,O.mono st⟩ .nil⟩) (TK.mpr rfl))
end
end Mi
end
namespace Mi
open L2.Srt
end Mi
namespace Srt
open AutoSeq1 (wpAny_loadPart')
open MeetsSeq MeetsSeq2 MeetsSeq3
end Srt
namespace Srt
end Srt
namespace Mi
open L2.Srt
end Mi
namespace Mi
end Mi
namespace Mi
end Mi
namespace Mi
end Mi
namespace It
end It
namespace Mi
end Mi
namespace Mi
end Mi
namespace Mi
open L2.Srt
end Mi
namespace Mi
end Mi
namespace Mi
end Mi
namespace Mi
section
mutual
noncomputable def GV(K:Frag):D->hH->Prop
 |.int i,v=>∃t,v=.int i t
 |.str x,v=>∃t,v=.str x t
 |.tup ds,v=>∃a o its n,v=.ref a/\K.lookup a=Z o/\o.cls=.type "tuple"/\o.data=.seq its n/\its.size<=J9/\fk ds=Ua/\GVs K ds its.toList
 |_,_=>False
noncomputable def GVs(K:Frag):List D->List hH->Prop
 |[],us=>us=[]
 |d::ds,us=>∃u r,us=u::r/\GV K d u/\GVs K ds r
end
theorem GV.ints{K:Frag}{i:Int}{t}:GV K (.int i) (.int i t):=by unfold GV;exact⟨t,rfl⟩
mutual
theorem yE{K:Frag}:∀{d:D} {u:hH},GV K d u->∃v,RelV v u/\∀H,RD K H d v
 |.int i,u,h=>by unfold GV at h;obtain⟨t,rfl⟩:=h;exact⟨.int i,⟨t,rfl⟩,λH=>TJ.mpr rfl⟩
 |.str i,u,h=>by unfold GV at h;obtain⟨t,rfl⟩:=h;exact⟨.str i,⟨t,rfl⟩,λH=>TU.mpr rfl⟩
 |.tup ds,u,h=>by unfold GV at h;obtain⟨a,o,its,n,rfl,h1,h2,j,q,z,B⟩:=h;obtain⟨vs,g1,g2⟩:=gvs_rd B;exact⟨.ref a,rfl,λH=>TX.mpr ⟨a,vs,rfl,.inr ⟨z,.inr ⟨o,its,n,h1,h2,j,q,g1⟩⟩,g2 H⟩⟩
 |.non,u,h=>by unfold GV at h;exact h.elim
 |.bl _,u,h=>by unfold GV at h;exact h.elim
 |.con _,u,h=>by unfold GV at h;exact h.elim
 |.ref _,u,h=>by unfold GV at h;exact h.elim
 |.fn _,u,h=>by unfold GV at h;exact h.elim
theorem gvs_rd{K:Frag}:∀{ds:List D} {us:List hH},GVs K ds us->∃vs,Vals vs us/\∀H,RDs K H ds vs
 |[],us,h=>by unfold GVs at h;subst h;exact⟨[],.nil,λH=>RDs.nil⟩
 |d::ds,us,h=>by unfold GVs at h;obtain⟨u,r,rfl,h1,h2⟩:=h;obtain⟨v,g1,g2⟩:=yE h1;obtain⟨vs,g3,j⟩:=gvs_rd h2;exact⟨v::vs,.cons g1 g3,λH=>RDs.cons (g2 H) (j H)⟩
end
end
end Mi
namespace Mi
end Mi
namespace Mi
section
inductive BOp where|add|sub|mul|fdiv|mod|pow
inductive COp where|eq|ne|lt|le|gt|ge|eqD|inD|ninD
inductive BF where|len|abs|max2|min2|int|list|tuple|any|dict|sortk|lenT
inductive MF where|append|extend
set_option genCtorIdx false
set_option genInjectivity false
mutual
inductive MG where
 |name (i:Nat)
 |tup (gs:MGs)
inductive MGs where
 |nil
 |cons (g:MG) (r:MGs)
end
mutual
inductive ME where
 |var (i:Nat)
 |int (i:Int)
 |bl (b:Bool)
 |non
 |str (x:Str)
 |bin (op:BOp) (a b:ME)
 |neg (a:ME)
 |cmp (op:COp) (a b:ME)
 |and (es:MEs)
 |or (es:MEs)
 |not (a:ME)
 |ite (c:MT) (a b:ME)
 |tup (es:MEs)
 |lst (es:MEs)
 |ix (a b:ME)
 |sl (a:ME) (lo hi:MO)
 |call (f:Nat) (es:MEs)
 |blt (f:BF) (es:MEs)
 |glob (x:Str) (d:D)
 |dnew (t:Bool)
 |d1 (k v:ME)
 |dget (o k x:ME)
 |meth (m:MF) (o a:ME)
 |comp (fr:List (Option Nat)) (N:List Str) (c:MC)
inductive MEs where
 |nil
 |cons (e:ME) (r:MEs)
inductive MO where
 |none
 |some (e:ME)
inductive MT where
 |tru (e:ME)
 |cmp (op:COp) (a b:ME)
 |and (ts:MTs)
 |or (ts:MTs)
 |not (t:MT)
inductive MTs where
 |nil
 |cons (t:MT) (r:MTs)
inductive MI where
 |seq (e:ME)
 |rng1 (a:ME)
 |rng2 (a b:ME)
 |zip (a b:ME)
 |enum (a:ME)
 |keys (a:ME)
inductive MC where
 |last (src:MI) (g:MG) (ifs:MTs) (elt:ME)
 |more (src:MI) (g:MG) (ifs:MTs) (rest:MC)
end
mutual
inductive MS where
 |asg (g:MG) (e:ME)
 |par (i j:Nat) (a b:ME)
 |put (o i e:ME)
 |aug (i:Nat) (op:BOp) (e:ME)
 |drop (e:ME)
 |ret (e:ME)
 |ite (c:MT) (a b:MSs)
 |for (g:MG) (src:MI) (b:MSs)
 |while (c:MT) (b:MSs)
 |frz (i:Nat) (s:MS)
 |pass|brk|cnt
inductive MSs where
 |nil
 |cons (s:MS) (r:MSs)
end
set_option genCtorIdx true
set_option genInjectivity true
noncomputable def opB:BOp->R2d
 |.add=>dS|.sub=>jU|.mul=>eN|.fdiv=>jh|.mod=>gb|.pow=>nj
noncomputable def opC:COp->R2d
 |.eq=>wEq|.ne=>wNe|.lt=>wLt|.le=>wLe|.gt=>wGt|.ge=>wGe| .eqD=>sr| .inD=>iN Ua|.ninD=>iN N2
noncomputable def opF:BF->RAd
 |.len=>fE| .lenT=>mK| .abs=>jX|.max2=>ji|.min2=>jj|.int=>jY|.list=>m9|.tuple=>gc| .any=>se| .dict=>mH|.sortk=>jC
noncomputable def opM:MF->D->List D->Mem->QD->Prop
 |.append=>gP|.extend=>gQ
noncomputable def opI:BOp->R2d
 |.add=>jr|.sub=>jt|.mul=>ju|_=>λ_ _ _ _=>False
theorem ou:∀o,aJ (opB o)
 |.add=>ww|.sub=>wx|.mul=>wy|.fdiv=>tY|.mod=>wz|.pow=>wB
theorem fK:∀o,aJ (opC o)
 |.eq=>zx|.ne=>zy|.lt=>zB|.le=>zC|.gt=>zD|.ge=>zE| .eqD=>xA| .inD=>ot|.ninD=>ot
theorem xE:∀o,aV (opF o)
 |.len=>nA| .lenT=>lF| .abs=>nB|.max2=>kT|.min2=>kU|.int=>nC|.list=>kW|.tuple=>jk| .any=>nJ| .dict=>lB|.sortk=>jD
theorem xF:∀o,jl (opM o)
 |.append=>iy|.extend=>iz
theorem xG:∀o,aJ (opI o)
 |.add=>lg|.sub=>lh|.mul=>lj
 |.fdiv=>λ_ _ _ _ _ _ q=>q.elim|.mod=>λ_ _ _ _ _ _ q=>q.elim|.pow=>λ_ _ _ _ _ _ q=>q.elim
noncomputable abbrev Phi:=Nat->RAd
mutual
noncomputable def bG:MG->BT
 |.name i=>be i
 |.tup gs=>nF (bGs gs)
noncomputable def bGs:MGs->BTs
 |.nil=>fG
 |.cons g r=>bI (bG g) (bGs r)
end
mutual
noncomputable def wE(Φ:Phi):ME->TEd
 |.var i=>aY i
 |.int i=>wC (.int i)
 |.bl b=>wC (.bl b)
 |.non=>wC .non
 |.str x=>wC (.str x)
 |.bin op a b=>wOp (opB op) (wE Φ a) (wE Φ b)
 |.neg a=>wUn nk (wE Φ a)
 |.cmp op a b=>wOp (opC op) (wE Φ a) (wE Φ b)
 |.and es=>wAnds Φ es
 |.or es=>wOrs Φ es
 |.not a=>mm (wE Φ a)
 |.ite c a b=>wIf (wT Φ c) (wE Φ a) (wE Φ b)
 |.tup es=>wAr nh (wA Φ es)
 |.lst es=>wAr rG (wA Φ es)
 |.ix a b=>wOp wIx (wE Φ a) (wE Φ b)
 |.sl a lo hi=>wSl (wE Φ a) (wO Φ lo) (wO Φ hi)
 |.call f es=>wAr (Φ f) (wA Φ es)
 |.blt f es=>wAr (opF f) (wA Φ es)
 |.glob _ d=>wC d
 |.dnew t=>mF t
 |.d1 k v=>wD1 (wE Φ k) (wE Φ v)
 |.dget o k x=>mG (wE Φ o) (wE Φ k) (wE Φ x)
 |.meth m o a=>wBM (opM m) (wE Φ o) (aN (wE Φ a) bF)
 |.comp fr _ c=>wCmp Φ fr c
noncomputable def wA(Φ:Phi):MEs->TAd
 |.nil=>bF
 |.cons e r=>aN (wE Φ e) (wA Φ r)
noncomputable def wAnds(Φ:Phi):MEs->TEd
 |.nil=>λ_ _ _=>False
 |.cons e .nil=>wE Φ e
 |.cons e (.cons f r)=>mj (wE Φ e) (wAnds Φ (.cons f r))
noncomputable def wOrs(Φ:Phi):MEs->TEd
 |.nil=>λ_ _ _=>False
 |.cons e .nil=>wE Φ e
 |.cons e (.cons f r)=>rO (wE Φ e) (wOrs Φ (.cons f r))
noncomputable def wO(Φ:Phi):MO->TOd
 |.none=>gO
 |.some e=>mn (wE Φ e)
noncomputable def wT(Φ:Phi):MT->TTd
 |.tru e=>rM (wE Φ e)
 |.cmp op a b=>iF (wOp (opC op) (wE Φ a) (wE Φ b))
 |.and ts=>wAndTs Φ ts
 |.or ts=>wOrTs Φ ts
 |.not t=>md (wT Φ t)
noncomputable def wAndTs(Φ:Phi):MTs->TTd
 |.nil=>λ_ _ _=>False
 |.cons e .nil=>wT Φ e
 |.cons e (.cons f r)=>mf (wT Φ e) (wAndTs Φ (.cons f r))
noncomputable def wOrTs(Φ:Phi):MTs->TTd
 |.nil=>λ_ _ _=>False
 |.cons e .nil=>wT Φ e
 |.cons e (.cons f r)=>rN (wT Φ e) (wOrTs Φ (.cons f r))
noncomputable def wTl(Φ:Phi):MTs->List TTd
 |.nil=>[]
 |.cons t r=>wT Φ t::wTl Φ r
noncomputable def wI(Φ:Phi):MI->TId
 |.seq e=>rQ (wE Φ e)
 |.rng1 a=>mq (aN (wE Φ a) bF)
 |.rng2 a b=>mw (aN (wE Φ a) (aN (wE Φ b) bF))
 |.zip a b=>jZ (wE Φ a) (wE Φ b)
 |.enum a=>mz (wE Φ a)
 |.keys a=>mJ (wE Φ a)
noncomputable def wCl(Φ:Phi):MC->TCd
 |.last src g ifs elt=>dE (wI Φ src) (bG g) (bu (wTl Φ ifs) (bJ (wE Φ elt)))
 |.more src g ifs rest=>dE (wI Φ src) (bG g) (bu (wTl Φ ifs) (wCl Φ rest))
noncomputable def wCmp(Φ:Phi)(fr:List (Option Nat)):MC->TEd
 |.last src g ifs elt=>gS fr (wI Φ src) (bG g) (bu (wTl Φ ifs) (bJ (wE Φ elt)))
 |.more src g ifs rest=>gS fr (wI Φ src) (bG g) (bu (wTl Φ ifs) (wCl Φ rest))
end
mutual
noncomputable def wS(Φ:Phi):MS->TSd
 |.asg g e=>kc (wE Φ e) (bG g)
 |.par i j a b=>rS (aN (wE Φ a) (aN (wE Φ b) bF)) (bI (be i) (bI (be j) fG))
 |.put o i e=>rZ (wE Φ e) (wE Φ o) (wE Φ i)
 |.aug i op e=>s9 i (opI op) (wE Φ e)
 |.drop e=>mD (wE Φ e)
 |.ret e=>rR (wE Φ e)
 |.ite c a b=>sIf (wT Φ c) (wSs Φ a) (wSs Φ b)
 |.for g src b=>rT (wI Φ src) (bG g) (wSs Φ b)
 |.while c b=>jq (wT Φ c) (wSs Φ b)
 |.frz i s=>iM i (wS Φ s)
 |.pass=>jn
 |.brk=>jo
 |.cnt=>mC
noncomputable def wSs(Φ:Phi):MSs->TSd
 |.nil=>jn
 |.cons s r=>wX (wS Φ s) (wSs Φ r)
end
section
variable{Φ:Phi}(hΦ:∀f,aV (Φ f))
include hΦ
mutual
theorem mE:∀m,af (wE Φ m)
 |.var _=>wt
 |.int _=>ga
 |.bl _=>ga
 |.non=>ga
 |.str _=>ga
 |.bin op a b=>eS (ou op) (mE a) (mE b)
 |.neg a=>zt nr (mE a)
 |.cmp op a b=>eS (fK op) (mE a) (mE b)
 |.and es=>mAnds es
 |.or es=>mOrs es
 |.not a=>u8 (mE a)
 |.ite c a b=>zL (mT c) (mE a) (mE b)
 |.tup es=>gM tV (mA es)
 |.lst es=>gM tW (mA es)
 |.ix a b=>eS qi (mE a) (mE b)
 |.sl a lo hi=>zO (mE a) (mO lo) (mO hi)
 |.call f es=>gM (hΦ f) (mA es)
 |.blt f es=>gM (xE f) (mA es)
 |.glob _ _=>ga
 |.dnew _=>uz
 |.d1 k v=>Ac (mE k) (mE v)
 |.dget o k x=>uM (mE o) (mE k) (mE x)
 |.meth m o a=>zP (xF m) (mE o) (ax (mE a) az)
 |.comp fr _ c=>mCmp fr c
theorem mA:∀m,bj (wA Φ m)
 |.nil=>az
 |.cons e r=>ax (mE e) (mA r)
theorem mAnds:∀m,af (wAnds Φ m)
 |.nil=>λ_ _ _ _ _ q=>q.elim
 |.cons e .nil=>mE e
 |.cons e (.cons f r)=>u7 (mE e) (mAnds (.cons f r))
theorem mOrs:∀m,af (wOrs Φ m)
 |.nil=>λ_ _ _ _ _ q=>q.elim
 |.cons e .nil=>mE e
 |.cons e (.cons f r)=>wP (mE e) (mOrs (.cons f r))
theorem mO:∀m,fF (wO Φ m)
 |.none=>pR
 |.some e=>ua (mE e)
theorem mT:∀m,aH (wT Φ m)
 |.tru e=>wM (mE e)
 |.cmp op a b=>wu (eS (fK op) (mE a) (mE b))
 |.and ts=>mAndTs ts
 |.or ts=>mOrTs ts
 |.not t=>u5 (mT t)
theorem mAndTs:∀m,aH (wAndTs Φ m)
 |.nil=>λ_ _ _ _ _ q=>q.elim
 |.cons e .nil=>mT e
 |.cons e (.cons f r)=>u6 (mT e) (mAndTs (.cons f r))
theorem mOrTs:∀m,aH (wOrTs Φ m)
 |.nil=>λ_ _ _ _ _ q=>q.elim
 |.cons e .nil=>mT e
 |.cons e (.cons f r)=>wN (mT e) (mOrTs (.cons f r))
theorem mTl:∀m,∀t∈wTl Φ m,aH t
 |.nil=>by rw[wTl];intro t j;simp at j
 |.cons t r=>by
  rw[wTl];intro t' j
  rcases Jp.mp j with e|e
  ·rw[e];exact mT t
  ·exact mTl r t' e
theorem mI:∀m,cg (wI Φ m)
 |.seq e=>wV (mE e)
 |.rng1 a=>ud (ax (mE a) az)
 |.rng2 a b=>ue (ax (mE a) (ax (mE b) az))
 |.zip a b=>wW (mE a) (mE b)
 |.enum a=>uf (mE a)
 |.keys a=>uQ (mE a)
theorem mCl:∀m,ci (wCl Φ m)
 |.last src g ifs elt=>iA (mI src) (aT (bM (mE elt)) (mTl ifs))
 |.more src g ifs rest=>iA (mI src) (aT (mCl rest) (mTl ifs))
theorem mCmp(fr:List (Option Nat)):∀m,af (wCmp Φ fr m)
 |.last src g ifs elt=>kX (mI src) (aT (bM (mE elt)) (mTl ifs))
 |.more src g ifs rest=>kX (mI src) (aT (mCl rest) (mTl ifs))
end
mutual
theorem mS:∀m,aI (wS Φ m)
 |.asg g e=>xc (mE hΦ e)
 |.par i j a b=>xf (ax (mE hΦ a) (ax (mE hΦ b) az))
 |.put o i e=>xm (mE hΦ e) (mE hΦ o) (mE hΦ i)
 |.aug i op e=>xq (xG op) (mE hΦ e)
 |.drop e=>ui (mE hΦ e)
 |.ret e=>wY (mE hΦ e)
 |.ite c a b=>wZ (mT hΦ c) (mSs a) (mSs b)
 |.for g src b=>xg (mI hΦ src) (mSs b)
 |.while c b=>rW (mT hΦ c) (mSs b)
 |.frz i s=>xz (mS s)
 |.pass=>kZ
 |.brk=>rV
 |.cnt=>ug
theorem mSs:∀m,aI (wSs Φ m)
 |.nil=>kZ
 |.cons s r=>uh (mS s) (mSs r)
end
end
end
variable{e:Expr}{es:List Expr}{env:Env}
section
structure Ctx where
 Γ:List Str
 N:List Str
 sc:Scope
 fn:List Str
 cs:List (Str×D)
noncomputable def glB(sc:Scope)(x:Str):Bool:=sc.names.lookup x==Z .globalImplicit
noncomputable def xH(sc:Scope)(x:Str):Bool:=sc.names.lookup x==Z .local || sc.names.lookup x==Z .cell || sc.names.lookup x==Z .free
noncomputable def su(sc:Scope)(x:Str):Bool:=sc.names.lookup x==Z .local || sc.names.lookup x==Z .cell
noncomputable def bh:Expr->Bool
 |.Starred ..=>Ua
 |_=>N2
noncomputable def uU:Expr->Bool
 |.Name ..|.Call ..|.Subscript ..|.Constant ..|.BinOp ..|.Attribute ..=>N2
 |_=>Ua
noncomputable def ki:Expr->Bool
 |.Slice ..=>Ua
 |_=>N2
noncomputable def jE:Expr->Bool
 |.ListComp ..|.SetComp ..|.DictComp ..=>Ua
 |_=>N2
noncomputable def mL:Expr->Bool
 |.Set ..=>Ua
 |_=>N2
noncomputable def kj:Expr->Bool
 |.Call _ (_::_) _ _=>N2
 |.Call ..=>Ua
 |_=>N2
noncomputable def opO:BOp->NQ
 |.add=>.Add|.sub=>.Sub|.mul=>.Mult|.fdiv=>.FloorDiv|.mod=>.Mod|.pow=>.Pow
noncomputable def xI:COp->CmpOp
 |.eq=>.Eq|.ne=>.NotEq|.lt=>.Lt|.le=>.LtE|.gt=>.Gt|.ge=>.GtE| .eqD=>.Eq| .inD=>.In|.ninD=>.NotIn
noncomputable def ow:BF->Str
 |.len=>"len"| .lenT=>"len"| .abs=>"abs"|.max2=>"max"|.min2=>"min"|.int=>"int"|.list=>"list"|.tuple=>"tuple"| .any=>"any"| .dict=>"dict"|.sortk=>"sorted"
noncomputable def C1:MF->Str
 |.append=>"append"|.extend=>"extend"
noncomputable def bltNames:List Str:=["len","abs","max","min","int","list","tuple","sum","isinstance","range","bool","str","dict","zip","enumerate","reversed","sorted","all","any","set"]
noncomputable def iO(sc osc:Scope):Scope:={sc with names:=sc.names.map λ(n,k)=>if(k==.free&&osc.kind==.function&&osc.names.lookup n==Z .cell)then(n,.cell)else(n,k)}
theorem pZ(sc:Scope)(env:Env):relabel sc env=iO sc env.scope:=rfl
noncomputable def xJ(sc osc:Scope)(oN N':List Str)(fr:List (Option Nat)):Bool:=
 decide (sc.kind=.function)&&decide ((sc.names.map (·.1)).Nodup)&&decide (N'.Nodup)
  && sc.names.all (λx=>!(x.2==.free) || osc.names.lookup x.1==Z .cell || osc.names.lookup x.1==Z .free)
  && decide (fr.length=N'.length)
  && (J2 N'.length).all λi=>match fr[i]?,N'[i]? with
   |some (Z j),Z x=>decide (oN[j]?=Z x)&&sc.names.any (λy=>decide (y=(x,JT)))
   |_,_=>N2
theorem pk{p:Prop}[d:Decidable p]{t:p->Bool}(h:dite p t (λ_=>Ua)=N2):∃c,t c=N2:=by
 cases d with
 |isTrue c=>exact⟨c,h⟩
 |isFalse c=>cases h
noncomputable def eJ(e:Expr)(f:Str->Pos->Bool):Bool:=if h:e.ctorIdx=23 then @Tw.elim (λ_=>Bool) e h f else Ua
@[elab_as_elim]
theorem fL{P:Expr->Prop}(e:Expr){f:Str->Pos->Bool}(h:eJ e f=N2)(k:∀a b,f a b=N2->P (.Name a b)):P e:=(pk h).elim λc=>@Tw.elim (λe=>∀c,@Tw.elim (λ_=>Bool) e c f=N2->P e) e c (λa b _=>k a b) c
noncomputable def cX(e:Expr)(f:Const->Nat->Pos->Bool):Bool:=if h:e.ctorIdx=19 then @Rj.elim (λ_=>Bool) e h f else Ua
@[elab_as_elim]
theorem eK{P:Expr->Prop}(e:Expr){f:Const->Nat->Pos->Bool}(h:cX e f=N2)(k:∀a b c,f a b c=N2->P (.Constant a b c)):P e:=(pk h).elim λc=>@Rj.elim (λe=>∀c,@Rj.elim (λ_=>Bool) e c f=N2->P e) e c (λa b c _=>k a b c) c
noncomputable def uV(e:Expr)(f:Expr->NQ->Expr->Pos->Bool):Bool:=if h:e.ctorIdx=2 then @Tj.elim (λ_=>Bool) e h f else Ua
@[elab_as_elim]
theorem C2{P:Expr->Prop}(e:Expr){f:Expr->NQ->Expr->Pos->Bool}(h:uV e f=N2)(k:∀a b c d,f a b c d=N2->P (.BinOp a b c d)):P e:=(pk h).elim λc=>@Tj.elim (λe=>∀c,@Tj.elim (λ_=>Bool) e c f=N2->P e) e c (λa b c d _=>k a b c d) c
noncomputable def fM(e:Expr)(f:UnaryOp->Expr->Pos->Bool):Bool:=if h:e.ctorIdx=3 then @S8.elim (λ_=>Bool) e h f else Ua
@[elab_as_elim]
theorem iP{P:Expr->Prop}(e:Expr){f:UnaryOp->Expr->Pos->Bool}(h:fM e f=N2)(k:∀a b c,f a b c=N2->P (.UnaryOp a b c)):P e:=(pk h).elim λc=>@S8.elim (λe=>∀c,@S8.elim (λ_=>Bool) e c f=N2->P e) e c (λa b c _=>k a b c) c
noncomputable def iQ(e:Expr)(f:Expr->List CmpOp->List Expr->Pos->Bool):Bool:=if h:e.ctorIdx=15 then @S9.elim (λ_=>Bool) e h f else Ua
@[elab_as_elim]
theorem ox{P:Expr->Prop}(e:Expr){f:Expr->List CmpOp->List Expr->Pos->Bool}(h:iQ e f=N2)(k:∀a b c d,f a b c d=N2->P (.Compare a b c d)):P e:=(pk h).elim λc=>@S9.elim (λe=>∀c,@S9.elim (λ_=>Bool) e c f=N2->P e) e c (λa b c d _=>k a b c d) c
noncomputable def eV(e:Expr)(f:BoolOp->List Expr->Pos->Bool):Bool:=if h:e.ctorIdx=0 then @SO.elim (λ_=>Bool) e h f else Ua
@[elab_as_elim]
theorem i4{P:Expr->Prop}(e:Expr){f:BoolOp->List Expr->Pos->Bool}(h:eV e f=N2)(k:∀a b c,f a b c=N2->P (.BoolOp a b c)):P e:=(pk h).elim λc=>@SO.elim (λe=>∀c,@SO.elim (λ_=>Bool) e c f=N2->P e) e c (λa b c _=>k a b c) c
noncomputable def uW(e:Expr)(f:Expr->Expr->Expr->Pos->Bool):Bool:=if h:e.ctorIdx=5 then @To.elim (λ_=>Bool) e h f else Ua
@[elab_as_elim]
theorem C3{P:Expr->Prop}(e:Expr){f:Expr->Expr->Expr->Pos->Bool}(h:uW e f=N2)(k:∀a b c d,f a b c d=N2->P (.IfExp a b c d)):P e:=(pk h).elim λc=>@To.elim (λe=>∀c,@To.elim (λ_=>Bool) e c f=N2->P e) e c (λa b c d _=>k a b c d) c
noncomputable def ee(e:Expr)(f:List Expr->Nat->Pos->Bool):Bool:=if h:e.ctorIdx=25 then @Tp.elim (λ_=>Bool) e h f else Ua
@[elab_as_elim]
theorem eW{P:Expr->Prop}(e:Expr){f:List Expr->Nat->Pos->Bool}(h:ee e f=N2)(k:∀a b c,f a b c=N2->P (.Tuple a b c)):P e:=(pk h).elim λc=>@Tp.elim (λe=>∀c,@Tp.elim (λ_=>Bool) e c f=N2->P e) e c (λa b c _=>k a b c) c
noncomputable def yF(e:Expr)(f:List Expr->Pos->Bool):Bool:=if h:e.ctorIdx=24 then @Tx.elim (λ_=>Bool) e h f else Ua
@[elab_as_elim]
theorem DB{P:Expr->Prop}(e:Expr){f:List Expr->Pos->Bool}(h:yF e f=N2)(k:∀a b,f a b=N2->P (.List a b)):P e:=(pk h).elim λc=>@Tx.elim (λe=>∀c,@Tx.elim (λ_=>Bool) e c f=N2->P e) e c (λa b _=>k a b) c
noncomputable def dy(e:Expr)(f:Expr->Expr->Pos->Bool):Bool:=if h:e.ctorIdx=21 then @QW.elim (λ_=>Bool) e h f else Ua
@[elab_as_elim]
theorem fN{P:Expr->Prop}(e:Expr){f:Expr->Expr->Pos->Bool}(h:dy e f=N2)(k:∀a b c,f a b c=N2->P (.Subscript a b c)):P e:=(pk h).elim λc=>@QW.elim (λe=>∀c,@QW.elim (λ_=>Bool) e c f=N2->P e) e c (λa b c _=>k a b c) c
noncomputable def sv(e:Expr)(f:Expr->List Expr->List Qf->Pos->Bool):Bool:=if h:e.ctorIdx=16 then @Tz.elim (λ_=>Bool) e h f else Ua
@[elab_as_elim]
theorem yG{P:Expr->Prop}(e:Expr){f:Expr->List Expr->List Qf->Pos->Bool}(h:sv e f=N2)(k:∀a b c d,f a b c d=N2->P (.Call a b c d)):P e:=(pk h).elim λc=>@Tz.elim (λe=>∀c,@Tz.elim (λ_=>Bool) e c f=N2->P e) e c (λa b c d _=>k a b c d) c
noncomputable def jF(e:Expr)(f:Expr->Str->Pos->Bool):Bool:=if h:e.ctorIdx=20 then @QX.elim (λ_=>Bool) e h f else Ua
@[elab_as_elim]
theorem sx{P:Expr->Prop}(e:Expr){f:Expr->Str->Pos->Bool}(h:jF e f=N2)(k:∀a b c,f a b c=N2->P (.Attribute a b c)):P e:=(pk h).elim λc=>@QX.elim (λe=>∀c,@QX.elim (λ_=>Bool) e c f=N2->P e) e c (λa b c _=>k a b c) c
noncomputable def uX(e:Expr)(f:Option Expr->Option Expr->Option Expr->Pos->Bool):Bool:=if h:e.ctorIdx=26 then @Tq.elim (λ_=>Bool) e h f else Ua
@[elab_as_elim]
theorem C4{P:Expr->Prop}(e:Expr){f:Option Expr->Option Expr->Option Expr->Pos->Bool}(h:uX e f=N2)(k:∀a b c d,f a b c d=N2->P (.Slice a b c d)):P e:=(pk h).elim λc=>@Tq.elim (λe=>∀c,@Tq.elim (λ_=>Bool) e c f=N2->P e) e c (λa b c d _=>k a b c d) c
noncomputable def lH(e:Expr)(f:Expr->List Kk->Scope->Pos->Bool):Bool:=if h:e.ctorIdx=8 then @Rk.elim (λ_=>Bool) e h f else Ua
@[elab_as_elim]
theorem uY{P:Expr->Prop}(e:Expr){f:Expr->List Kk->Scope->Pos->Bool}(h:lH e f=N2)(k:∀a b c d,f a b c d=N2->P (.ListComp a b c d)):P e:=(pk h).elim λc=>@Rk.elim (λe=>∀c,@Rk.elim (λ_=>Bool) e c f=N2->P e) e c (λa b c d _=>k a b c d) c
noncomputable def sy(e:Expr)(f:List (Option Expr)->List Expr->Pos->Bool):Bool:=if h:e.ctorIdx=6 then @TB.elim (λ_=>Bool) e h f else Ua
@[elab_as_elim]
theorem yH{P:Expr->Prop}(e:Expr){f:List (Option Expr)->List Expr->Pos->Bool}(h:sy e f=N2)(k:∀a b c,f a b c=N2->P (.Dict a b c)):P e:=(pk h).elim λc=>@TB.elim (λe=>∀c,@TB.elim (λ_=>Bool) e c f=N2->P e) e c (λa b c _=>k a b c) c
noncomputable def fO(e:Stmt)(f:List Expr->Expr->Pos->Bool):Bool:=if h:e.ctorIdx=5 then @SQ.elim (λ_=>Bool) e h f else Ua
@[elab_as_elim]
theorem iR{P:Stmt->Prop}(e:Stmt){f:List Expr->Expr->Pos->Bool}(h:fO e f=N2)(k:∀a b c,f a b c=N2->P (.Assign a b c)):P e:=(pk h).elim λc=>@SQ.elim (λe=>∀c,@SQ.elim (λ_=>Bool) e c f=N2->P e) e c (λa b c _=>k a b c) c
noncomputable def iC(e:Stmt)(f:Expr->NQ->Expr->Pos->Bool):Bool:=if h:e.ctorIdx=7 then @QY.elim (λ_=>Bool) e h f else Ua
@[elab_as_elim]
theorem q0{P:Stmt->Prop}(e:Stmt){f:Expr->NQ->Expr->Pos->Bool}(h:iC e f=N2)(k:∀a b c d,f a b c d=N2->P (.AugAssign a b c d)):P e:=(pk h).elim λc=>@QY.elim (λe=>∀c,@QY.elim (λ_=>Bool) e c f=N2->P e) e c (λa b c d _=>k a b c d) c
noncomputable def uZ(e:Stmt)(f:Expr->Pos->Bool):Bool:=if h:e.ctorIdx=24 then @TF.elim (λ_=>Bool) e h f else Ua
@[elab_as_elim]
theorem C5{P:Stmt->Prop}(e:Stmt){f:Expr->Pos->Bool}(h:uZ e f=N2)(k:∀a b,f a b=N2->P (.Expr a b)):P e:=(pk h).elim λc=>@TF.elim (λe=>∀c,@TF.elim (λ_=>Bool) e c f=N2->P e) e c (λa b _=>k a b) c
noncomputable def oz(e:Stmt)(f:Option Expr->Pos->Bool):Bool:=if h:e.ctorIdx=3 then @SR.elim (λ_=>Bool) e h f else Ua
@[elab_as_elim]
theorem xK{P:Stmt->Prop}(e:Stmt){f:Option Expr->Pos->Bool}(h:oz e f=N2)(k:∀a b,f a b=N2->P (.Return a b)):P e:=(pk h).elim λc=>@SR.elim (λe=>∀c,@SR.elim (λ_=>Bool) e c f=N2->P e) e c (λa b _=>k a b) c
noncomputable def C6(e:Stmt)(f:Expr->List Stmt->List Stmt->Pos->Bool):Bool:=if h:e.ctorIdx=12 then @Stmt.If.elim (λ_=>Bool) e h f else Ua
@[elab_as_elim]
theorem Ev{P:Stmt->Prop}(e:Stmt){f:Expr->List Stmt->List Stmt->Pos->Bool}(h:C6 e f=N2)(k:∀a b c d,f a b c d=N2->P (.If a b c d)):P e:=(pk h).elim λc=>@Stmt.If.elim (λe=>∀c,@Stmt.If.elim (λ_=>Bool) e c f=N2->P e) e c (λa b c d _=>k a b c d) c
noncomputable def yI(e:Stmt)(f:Expr->Expr->List Stmt->List Stmt->Pos->Bool):Bool:=if h:e.ctorIdx=9 then @Stmt.For.elim (λ_=>Bool) e h f else Ua
@[elab_as_elim]
theorem DC{P:Stmt->Prop}(e:Stmt){f:Expr->Expr->List Stmt->List Stmt->Pos->Bool}(h:yI e f=N2)(k:∀a b c d e,f a b c d e=N2->P (.For a b c d e)):P e:=(pk h).elim λc=>@Stmt.For.elim (λe=>∀c,@Stmt.For.elim (λ_=>Bool) e c f=N2->P e) e c (λa b c d e _=>k a b c d e) c
noncomputable def qB(e:Stmt)(f:Expr->List Stmt->List Stmt->Pos->Bool):Bool:=if h:e.ctorIdx=11 then @Tr.elim (λ_=>Bool) e h f else Ua
@[elab_as_elim]
theorem Ad{P:Stmt->Prop}(e:Stmt){f:Expr->List Stmt->List Stmt->Pos->Bool}(h:qB e f=N2)(k:∀a b c d,f a b c d=N2->P (.While a b c d)):P e:=(pk h).elim λc=>@Tr.elim (λe=>∀c,@Tr.elim (λ_=>Bool) e c f=N2->P e) e c (λa b c d _=>k a b c d) c
noncomputable def v4(e:Stmt)(f:Pos->Bool):Bool:=if h:e.ctorIdx=25 then @TH.elim (λ_=>Bool) e h f else Ua
@[elab_as_elim]
theorem C7{P:Stmt->Prop}(e:Stmt){f:Pos->Bool}(h:v4 e f=N2)(k:∀a,f a=N2->P (.Pass a)):P e:=(pk h).elim λc=>@TH.elim (λe=>∀c,@TH.elim (λ_=>Bool) e c f=N2->P e) e c (λa _=>k a) c
noncomputable def qC(e:Stmt)(f:Pos->Bool):Bool:=if h:e.ctorIdx=26 then @Tt.elim (λ_=>Bool) e h f else Ua
@[elab_as_elim]
theorem Ae{P:Stmt->Prop}(e:Stmt){f:Pos->Bool}(h:qC e f=N2)(k:∀a,f a=N2->P (.Break a)):P e:=(pk h).elim λc=>@Tt.elim (λe=>∀c,@Tt.elim (λ_=>Bool) e c f=N2->P e) e c (λa _=>k a) c
noncomputable def jG(e:Stmt)(f:Pos->Bool):Bool:=if h:e.ctorIdx=27 then @Rl.elim (λ_=>Bool) e h f else Ua
@[elab_as_elim]
theorem sB{P:Stmt->Prop}(e:Stmt){f:Pos->Bool}(h:jG e f=N2)(k:∀a,f a=N2->P (.Continue a)):P e:=(pk h).elim λc=>@Rl.elim (λe=>∀c,@Rl.elim (λ_=>Bool) e c f=N2->P e) e c (λa _=>k a) c
noncomputable def lv0{α:Type}(xs:List α)(b:Bool):Bool:=xs.isEmpty&&b
noncomputable def lvc{α:Type}(xs:List α)(f:α->List α->Bool):Bool:=match xs with
 |y::r=>f y r
 |[]=>Ua
noncomputable def lv1{α:Type}(xs:List α)(f:α->Bool):Bool:=lvc xs λy r=>lv0 r (f y)
noncomputable def lv2{α:Type}(xs:List α)(f:α->α->Bool):Bool:=lvc xs λy r=>lv1 r (f y)
noncomputable def os{α:Type}(o:Option α)(f:α->Bool):Bool:=match o with
 |some x=>f x
 |none=>Ua
noncomputable def on{α:Type}(o:Option α)(b:Bool):Bool:=o.isNone&&b
@[elab_as_elim]
theorem iS{α:Type}{P:List α->Prop}(xs:List α){b:Bool}(h:lv0 xs b=N2)(k:b=N2->P []):P xs:=by
 cases xs with
 |nil=>exact k h
 |cons _ _=>cases h
@[elab_as_elim]
theorem C8{α:Type}{P:List α->Prop}(xs:List α){f:α->List α->Bool}(h:lvc xs f=N2)(k:∀y r,f y r=N2->P (y::r)):P xs:=by
 cases xs with
 |nil=>cases h
 |cons y r=>exact k y r h
@[elab_as_elim]
theorem cK{α:Type}{P:List α->Prop}(xs:List α){f:α->Bool}(h:lv1 xs f=N2)(k:∀y,f y=N2->P [y]):P xs:=C8 xs h λy r h=>iS r h λh=>k y h
@[elab_as_elim]
theorem oA{α:Type}{P:List α->Prop}(xs:List α){f:α->α->Bool}(h:lv2 xs f=N2)(k:∀y z,f y z=N2->P [y,z]):P xs:=C8 xs h λy r h=>cK r h λz h=>k y z h
@[elab_as_elim]
theorem jos{α:Type}{P:Option α->Prop}(o:Option α){f:α->Bool}(h:os o f=N2)(k:∀x,f x=N2->P (Z x)):P o:=by
 cases o with
 |none=>cases h
 |some x=>exact k x h
@[elab_as_elim]
theorem jon{α:Type}{P:Option α->Prop}(o:Option α){b:Bool}(h:on o b=N2)(k:b=N2->P Y):P o:=by
 cases o with
 |none=>exact k h
 |some x=>cases h
theorem bU{a b:Bool}(h:(a&&b)=N2):a=N2/\b=N2:=by rwa[D1]at h
noncomputable def eh(e:Expr)(g:Str->List Expr->Bool):Bool:=sv e λf xs ks _=>lv0 ks (eJ f λx _=>g x xs)
@[elab_as_elim]
theorem eX{P:Expr->Prop}(e:Expr){g:Str->List Expr->Bool}(h:eh e g=N2)(k:∀x xs p pos,g x xs=N2->P (.Call (.Name x p) xs [] pos)):P e:=yG e h λf xs ks pos h=>iS ks h λh=>fL f h λx p h=>k x xs p pos h
noncomputable def sC(e:Expr)(g:Expr->Str->List Expr->Pos->Pos->Bool):Bool:=sv e λf xs ks p=>lv0 ks (jF f λo n q=>g o n xs q p)
@[elab_as_elim]
theorem yJ{P:Expr->Prop}(e:Expr){g:Expr->Str->List Expr->Pos->Pos->Bool}(h:sC e g=N2)(k:∀o n xs q p,g o n xs q p=N2->P (.Call (.Attribute o n q) xs [] p)):P e:=yG e h λf xs ks pos h=>iS ks h λh=>sx f h λo n q h=>k o n xs q pos h
noncomputable def iSl(e:Expr)(g:Expr->Option Expr->Option Expr->Option Expr->Bool):Bool:=dy e λx y _=>uX y λl u s _=>g x l u s
@[elab_as_elim]
theorem jSl{P:Expr->Prop}(e:Expr){g:Expr->Option Expr->Option Expr->Option Expr->Bool}(h:iSl e g=N2)(k:∀x l u s p pos,g x l u s=N2->P (.Subscript x (.Slice l u s p) pos)):P e:=fN e h λx y pos h=>C4 y h λl u s p h=>k x l u s p pos h
mutual
noncomputable def okG:MG->Ctx->Expr->Bool
 |.name i,C,e=>eJ e λx _=>decide (C.N[i]?=Z x)&&su C.sc x&&(C.sc.names.lookup x==Z .local || C.fn.contains x)
 |.tup gs,C,e=>ee e λes _ _=>okGs gs C es
noncomputable def okGs:MGs->Ctx->List Expr->Bool
 |.nil,_,es=>es.isEmpty
 |.cons g r,C,es=>match es with
  |e::es=>bh e&&okG g C e&&okGs r C es
  |[]=>Ua
end
mutual
noncomputable def okE:ME->Ctx->Expr->Bool
 |.var i,C,e=>eJ e λx _=>decide (C.N[i]?=Z x)&&xH C.sc x && !(x==("__debug__":Str)) && !(x==("__classdict__":Str))
 |.int i,_,e=>cX e λc _ _=>decide (c=.int i)
 |.bl i,_,e=>cX e λc _ _=>decide (c=.bool i)
 |.non,_,e=>cX e λc _ _=>decide (c=.none)
 |.str i,_,e=>cX e λc _ _=>decide (c=.str i)
 |.bin op a b,C,e=>uV e λl o r _=>decide (o=opO op)&&okE a C l&&okE b C r
 |.neg a,C,e=>fM e λo x _=>decide (o=.USub)&&okE a C x
 |.cmp op a b,C,e=>iQ e λl os rs _=>lv1 os λo=>lv1 rs λr=>decide (o=xI op)&&okE a C l&&okE b C r && !(Nz o r)
 |.and es,C,e=>eV e λo xs _=>decide (o=.And) && !xs.isEmpty&&okEs es C xs
 |.or es,C,e=>eV e λo xs _=>decide (o=.Or) && !xs.isEmpty&&okEs es C xs
 |.not a,C,e=>fM e λo x _=>decide (o=.Not)&&okE a C x
 |.ite c a b,C,e=>uW e λt x y _=>okT c C t&&okE a C x&&okE b C y
 |.tup es,C,e=>ee e λxs _ _=>okEs es C xs
 |.lst es,C,e=>yF e λxs _=>okEs es C xs
 |.ix a b,C,e=>dy e λx y _=>ki y&&okE a C x&&okE b C y
 |.sl a lo hi,C,e=>iSl e λx l u s=>on s (okE a C x&&okO lo C l&&okO hi C u)
 |.call f es,C,e=>eh e λx xs=>decide (C.Γ[f]?=Z x)&&glB C.sc x && !(x==("__debug__":Str))&&okEs es C xs
 |.blt f es,C,e=>eh e λx xs=>decide (x=ow f)&&glB C.sc x && !xs.isEmpty&&okEs es C xs
 |.glob x k,C,e=>eJ e λy _=>decide (y=x)&&glB C.sc y&&decide ((x,k)∈C.cs) && !(x==("__debug__":Str))
 |.d1 k v,C,e=>sy e λks vs _=>lv1 ks λx=>os x λx=>lv1 vs λy=>okE k C x&&okE v C y
 |.dnew _,_,e=>sy e λks vs _=>lv0 ks (lv0 vs N2)
 |.dget o k x,C,e=>sC e λy n xs ap cp=>lv2 xs λe1 e2=>decide (n="get")&&kj y&&(ap.endLine==cp.line)&&bh e1&&bh e2&&okE o C y&&okE k C e1&&okE x C e2
 |.meth m o a,C,e=>sC e λx n xs ap cp=>lv1 xs λy=>decide (n=C1 m)&&kj x&&(ap.endLine==cp.line)&&bh y&&okE o C x&&okE a C y
 |.comp fr N' c,C,e=>lH e λelt gens sc _=>xJ sc C.sc C.N N' fr&&okC c C ⟨C.Γ,N',iO sc C.sc,(sc.names.filter (·.2==.cell)).map (·.1),C.cs⟩ gens elt
noncomputable def okEs:MEs->Ctx->List Expr->Bool
 |.nil,_,es=>es.isEmpty
 |.cons m r,C,es=>match es with
  |e::es=>bh e&&okE m C e&&okEs r C es
  |[]=>Ua
noncomputable def okO:MO->Ctx->Option Expr->Bool
 |.none,_,e=>e.isNone
 |.some m,C,e=>match e with
  |some e=>okE m C e
  |none=>Ua
noncomputable def okT:MT->Ctx->Expr->Bool
 |.tru m,C,e=>uU e&&okE m C e
 |.cmp op a b,C,e=>iQ e λl os rs _=>lv1 os λo=>lv1 rs λr=>decide (o=xI op)&&okE a C l&&okE b C r && !(Nz o r)
 |.and ts,C,e=>eV e λo xs _=>decide (o=.And) && !xs.isEmpty&&okTs ts C xs
 |.or ts,C,e=>eV e λo xs _=>decide (o=.Or) && !xs.isEmpty&&okTs ts C xs
 |.not t,C,e=>fM e λo x _=>decide (o=.Not)&&okT t C x
noncomputable def okTs:MTs->Ctx->List Expr->Bool
 |.nil,_,es=>es.isEmpty
 |.cons m r,C,es=>match es with
  |e::es=>okT m C e&&okTs r C es
  |[]=>Ua
noncomputable def okI:MI->Ctx->Expr->Expr->Bool
 |.seq m,C,_,e=>mL e&&okE m C e
 |.keys m,C,_,e=>mL e&&okE m C e
 |.rng1 a,C,_,e=>eh e λx xs=>lv1 xs λy=>decide (x="range")&&glB C.sc x&&bh y&&okE a C y
 |.rng2 a b,C,_,e=>eh e λx xs=>lv2 xs λy z=>decide (x="range")&&glB C.sc x&&bh y&&bh z&&okE a C y&&okE b C z
 |.enum a,C,t,e=>eh e λx xs=>lv1 xs λy=>ee t λ_ _ _=>decide (x="enumerate")&&glB C.sc x&&bh y&&okE a C y
 |.zip a b,C,t,e=>eh e λx xs=>lv2 xs λy z=>ee t λ_ _ _=>decide (x="zip")&&glB C.sc x&&bh y&&bh z&&okE a C y&&okE b C z
noncomputable def okC:MC->Ctx->Ctx->List Kk->Expr->Bool
 |.last src g ifs m,Cs,C,gens,elt=>match gens with
  |[⟨t,it,fs,a⟩]=>decide (a=0)&&okI src Cs t it&&okG g C t&&okTs ifs C fs&&okE m C elt
  |_=>Ua
 |.more src g ifs rest,Cs,C,gens,elt=>match gens with
  |⟨t,it,fs,a⟩::g2::gs=>decide (a=0)&&okI src Cs t it&&okG g C t&&okTs ifs C fs&&okC rest C C (g2::gs) elt
  |_=>Ua
end
noncomputable def bm(sc:Scope)(ts:List Expr):List Str:=ts.filterMap fun
 |.Name id pos=>if sc.names.lookup id==Z .local&&pos.line==(ts.head?.map (·.pos.line)).getD 0 then Z id else Y
 |_=>Y
noncomputable def sF(sc:Scope)(ts vs:List Expr):Bool:=!(ts.length==2 || ts.length==3) || vs.length != ts.length || (bm sc ts).length != ts.length || (bm sc ts).eraseDups.length != (bm sc ts).length || vs.all (Rm 8)
noncomputable def sH(C:Ctx)(i:Nat)(x:Str):Bool:=decide (C.N[i]?=Z x)&&decide (C.sc.names.lookup x=Z .local)
noncomputable def sJ(sc:Scope)(ts vs:List Expr)(ns:List Str):Bool:=!(!(ts.length==2 || ts.length==3) || vs.length != ts.length) && !(vs.any λ| .Starred ..=>N2|_=>Ua)&&decide (bm sc ts=ns) && !((bm sc ts).length != ts.length || (bm sc ts).eraseDups.length != (bm sc ts).length) && !(vs.all (Rm 8)) && !(vs.all (constantsAlone 8))
noncomputable def yK(sc:Scope)(tg e:Expr):Bool:=match tg,e with
 |.Tuple ts _ _,.Tuple vs _ _=>sF sc ts vs
 |.Tuple ..,_=>N2
 |.Name ..,_=>N2
 |_,_=>Ua
noncomputable def C9(sc:Scope)(x:Str)(px:Pos)(e:Expr):Bool:=match e with
 |.DictComp _ _ _ s _=>!(sc.names.lookup x==Z .local&&px.line==e.pos.line && !(s.names.any λ(n,k)=>n==x&&(k==.local || k==.cell)))
 |_=>N2
noncomputable def sK(sc:Scope)(x:Str)(px:Pos)(e:Expr):Bool:=match e with
 |.ListComp _ _ s _=>sc.names.lookup x==Z .local&&px.line==e.pos.line && !(s.names.any λ(n,k)=>n==x&&(k==.local || k==.cell))
 |_=>Ua
mutual
noncomputable def okS:MS->Ctx->Stmt->Bool
 |.asg g m,C,s=>fO s λts e _=>lv1 ts λtg=>okG g C tg&&okE m C e&&yK C.sc tg e&&(match tg with|.Name x px=>C9 C.sc x px e|_=>jE e)
 |.par i j a b,C,s=>fO s λts e _=>lv1 ts λtg=>ee tg λts _ _=>ee e λes _ _=>lv2 ts λt u=>lv2 es λe f=>eJ t λx px=>eJ u λy py=>sH C i x&&sH C j y&&decide (i≠j)&&bh e&&bh f&&okE a C e&&okE b C f&&sJ C.sc [.Name x px,.Name y py] [e,f] [x,y]
 |.put o i m,C,s=>fO s λts e _=>lv1 ts λtg=>dy tg λx y _=>ki y&&jE e&&okE o C x&&okE i C y&&okE m C e
 |.aug i op m,C,s=>iC s λt o e _=>eJ t λx _=>decide (o=opO op)&&(match op with|.add|.sub|.mul=>N2|_=>Ua)&&decide (C.N[i]?=Z x)&&su C.sc x&&(C.sc.names.lookup x==Z .local || C.fn.contains x)&&okE m C e
 |.drop m,C,s=>uZ s λe _=>jE e&&okE m C e
 |.ret m,C,s=>oz s λo _=>os o λe=>okE m C e
 |.ite c a b,C,s=>C6 s λt x y _=>okT c C t&&okSs a C x&&okSs b C y
 |.for g src b,C,s=>yI s λtg it body els _=>lv0 els (mL it&&okG g C tg&&okI src C tg it&&okSs b C body)
 |.while c b,C,s=>qB s λt body els _=>lv0 els (okT c C t&&okSs b C body)
 |.frz _ m,C,s=>okS m C s
 |.pass,_,s=>v4 s λ_=>N2
 |.brk,_,s=>qC s λ_=>N2
 |.cnt,_,s=>jG s λ_=>N2
noncomputable def okSs:MSs->Ctx->List Stmt->Bool
 |.nil,_,ss=>ss.isEmpty
 |.cons m r,C,ss=>match ss with
  |s::ss=>okS m C s&&okSs r C ss
  |[]=>Ua
end
theorem aq(h:bh e=N2):JJ (e::es) env=(Ua,eval e env)::JJ es env:=by cases e<;>first|rfl|(cases h;done)
theorem lJ(h:bh e=N2):LB (e::es) env=(Ua,assign e env)::LB es env:=by cases e<;>first|rfl|(cases h;done)
theorem sL(h:uU e=N2):∀whole,isTrue e env whole=(do let v <-whole;Pt e.pos;holding [v] (truthy v)):=by
 intro w
 cases e<;>first|rfl|(cases h;done)
theorem xL(h:ki e=N2):jR e:=by
 intro o i
 cases e<;>first|rfl|(cases h;done)
theorem oB(h:mL e=N2):∀x,LO e env x=pure x:=by
 intro x
 cases e<;>first|rfl|(cases h;done)
theorem iT{n:Str}(h:kj e=N2):Rg e n env (eval e env)=eval e env:=by
 cases e<;>first
  |rfl
  | (rename_i f xs _ _;cases xs with
     |nil=>cases h
     |cons _ _=>cases f<;>rfl)
theorem kl{t:Option Expr}{l:Nat}(h:jE e=N2):NL e t l env=pure Ua:=by cases e<;>first|rfl|(cases h;done)
end
variable{f:Nat}{x:Str}{pos:Pos}{sc:Scope}{fr:List (Option Nat)}
section
noncomputable def lSp(K:Frag)(r:RAd):Sp:=λvs H Q _=>lR K r vs H Q
structure Good(C:Ctx)(Φ:Phi)(k:Nat)(X:Cx):Prop where
 hx:∀e s,X.xe e s->False
 calm:X.calm=N2
 N:X.N=C.N
 sc:X.env.scope=C.sc
 nd:X.N.Nodup
 fn:∀x∈C.fn,X.fn x=N2
 room:Room k X.A
 mgB:∀x∈bltNames,X.mg x=Y
 fns:∀(i:Nat) (x:Str),C.Γ[i]?=Z x->∃f fd ps,X.mg x=Z (.ref f)/\NX X.K KQ x=Z (Z (.ref f))/\Np X.K (.ref f)=N2/\Binds X.K fd ps []/\dP X.prog X.w X.K X.mg X.base CX0 k f fd ps (lSp X.K (Φ i))
 mono:∀f,aV (Φ f)
 cs:∀x d,(x,d)∈C.cs->∃u,X.mg x=Z u/\GV X.K d u
section
variable{C:Ctx}{Φ:Phi}{k:Nat}{X:Cx}
theorem Good.units(G:Good C Φ k X):X.A.units+64<LF:=G.room.units
theorem Good.gl(G:Good C Φ k X)(h:glB C.sc x=N2):Gl X x:=by show X.env.scope.names.lookup x=_;rw[G.sc];simpa[glB]using h
theorem Good.vis(G:Good C Φ k X)(h:xH C.sc x=N2):Vis X.env.scope x:=by
 unfold Vis;rw[G.sc];simp[xH]at h
 rcases h with(h|h)|h
 ·exact .inl h
 ·exact .inr (.inl h)
 ·exact .inr (.inr h)
theorem Good.loc(G:Good C Φ k X)(h:su C.sc x=N2):Loc X.env.scope x:=by unfold Loc;rw[G.sc];simpa[su]using h
theorem Good.own(G:Good C Φ k X)(h:(C.sc.names.lookup x==Z .local || C.fn.contains x)=N2):X.fn x=N2∨X.env.scope.names.lookup x=Z .local:=by
 rw[G.sc];simp at h
 rcases h with h|h
 ·exact .inr h
 ·exact .inl (G.fn x h)
theorem Ca(G:Good C Φ k X):∀o:BOp,OpR X (Lb (opO o)) (l2 X.K (opB o))
 |.add=>wD|.sub=>wF|.mul=>wG|.fdiv=>tZ|.mod=>wJ|.pow=>wK
theorem qD(G:Good C Φ k X):∀o:COp,OpR X (KN (xI o)) (l2 X.K (opC o))
 |.eq=>zz (by have:=G.units;lia)|.ne=>zA (by have:=G.units;lia)|.lt=>zF|.le=>zG|.gt=>zH|.ge=>zI| .eqD=>xC (by have:=G.units;lia)| .inD=>xD (by have:=G.units;lia)|.ninD=>uS (by have:=G.units;lia)
theorem Cb(G:Good C Φ k X){f:BF}{t:TAd}{p:Pos}(mt:bj t)(q:Gl X (ow f))(z:PA X (e::es) (lA X.K t))(he:JJ (e::es) X.env=(Ua,eval e X.env)::JJ es X.env)(j:(NP pos (JJ es X.env)).any (·.1)=Ua):PE X (.Call (.Name (ow f) p) (e::es) [] pos) (lE X.K (wAr (opF f) t)):=by
 cases f with
 |lenT=>exact PE.imp (cu pY q (G.mgB _ (by decide)) PySem.boot_len z (by decide) (by decide) he j) (bD lF mt)
 |len=>exact PE.imp (cu rH q (G.mgB _ (by decide)) PySem.boot_len z (by decide) (by decide) he j) (bD nA mt)
 |abs=>exact PE.imp (cu rJ q (G.mgB _ (by decide)) (by decide +kernel) z (by decide) (by decide) he j) (bD nB mt)
 |max2=>exact PE.imp (cu (pO G.calm) q (G.mgB _ (by decide)) (by decide +kernel) z (by decide) (by decide) he j) (bD kT mt)
 |min2=>exact PE.imp (cu (pP G.calm) q (G.mgB _ (by decide)) (by decide +kernel) z (by decide) (by decide) he j) (bD kU mt)
 |int=>exact PE.imp (eE rK q (G.mgB _ (by decide)) (by decide +kernel) z (by decide) (by decide) he j) (bD nC mt)
 |list=>exact PE.imp (eE pQ q (G.mgB _ (by decide)) (by decide +kernel) z (by decide) (by decide) he j) (bD kW mt)
 |tuple=>exact PE.imp (eE nD q (G.mgB _ (by decide)) (by decide +kernel) z (by decide) (by decide) he j) (bD jk mt)
 |any=>exact PE.imp (cu (sf G.calm) q (G.mgB _ (by decide)) (by decide +kernel) z (by decide) (by decide) he j) (bD nJ mt)
 |dict=>exact PE.imp (eE (pX (by have:=G.units;lia) G.calm) q (G.mgB _ (by decide)) (by decide +kernel) z (by decide) (by decide) he j) (bD lB mt)
 |sortk=>exact PE.imp (cu (oj (by have:=G.units;lia) G.calm) q (G.mgB _ (by decide)) (by decide +kernel) z (by decide) (by decide) he j) (bD jD mt)
theorem Af(G:Good C Φ k X){t:TAd}{p:Pos}(mt:bj t)(hf:C.Γ[f]?=Z x)(z:Gl X x)(j:(x==("__debug__":Str))=Ua)(B:PA X (e::es) (lA X.K t))(he:JJ (e::es) X.env=(Ua,eval e X.env)::JJ es X.env)(q:(NP pos (JJ es X.env)).any (·.1)=Ua):PE X (.Call (.Name x p) (e::es) [] pos) (lE X.K (wAr (Φ f) t)):=by
 obtain⟨a,fd,ps,hm,_,J,L,F⟩:=G.fns f x hf;refine PE.imp (zi F G.room z hm J L .nil yq B j he q) λσ H Q h=>?_;have h2:=bD (G.mono f) mt σ H Q h;have:(λvs H1=>lSp X.K (Φ f) (vs++[]) H1 Q E0)=λvs H1=>lR X.K (Φ f) vs H1 Q:=by funext vs H1;rw[K9];rfl
 show(lA X.K t) σ H _;rw[this];exact h2
theorem xM(G:Good C Φ k X){p:Pos}(hf:C.Γ[f]?=Z x)(z:Gl X x)(j:(x==("__debug__":Str))=Ua):PE X (.Call (.Name x p) [] [] pos) (lE X.K (wAr (Φ f) bF)):=by obtain⟨a,fd,ps,hm,_,B,J,F⟩:=G.fns f x hf;refine PE.imp (wa F G.room z hm B J .nil yq j) λσ H Q h=>?_;obtain⟨ρ,M,rs,rm,q⟩:=h;exact⟨[],M,rm,RDs.nil,q⟩
theorem iU{env:Env}{pos:Pos}:∀{es:List Expr},es.all bh=N2->(NP pos (JJ es env)).any (·.1)=Ua
 |[],_=>rfl
 |e::es,h=>by
  simp only[MK,D1]at h;rw[aq h.1];show(Ua || (NP pos (JJ es env)).any (·.1))=Ua
  rw[iU h.2];rfl
theorem gv:∀{ms:MEs} {es:List Expr},okEs ms C es=N2->es.all bh=N2
 |.nil,[],_=>rfl
 |.nil,_::_,h=>by simp[okEs]at h
 |.cons m r,[],h=>by simp[okEs]at h
 |.cons m r,e::es,h=>by simp only[okEs,D1]at h;simp only[MK,D1];exact⟨h.1.1,gv h.2⟩
theorem qE:∀{gs:MGs} {es:List Expr},okGs gs C es=N2->∀ds ρ ρ',bGs gs ds ρ=Z ρ'->ds.length=es.length
 |.nil,es,h,ds,ρ,ρ',e=>by
  simp[okGs]at h;subst h;rw[bGs]at e
  cases ds with
  |nil=>rfl
  |cons _ _=>cases e
 |.cons g r,[],h,_,_,_,_=>by simp[okGs]at h
 |.cons g r,x::es,h,ds,ρ,ρ',e=>by
  simp only[okGs,D1]at h;rw[bGs]at e
  cases ds with
  |nil=>cases e
  |cons d ds=>
   simp only[bI]at e
   cases e1:bG g d ρ with
   |none=>rw[e1]at e;cases e
   |some ρ1=>rw[e1]at e;simp[qE h.2 ds ρ1 ρ' e]
theorem oC{env:Env}:∀{gs:MGs} {es:List Expr},okGs gs C es=N2->(LB es env).length=es.length/\(LB es env).findIdx? (·.1)=Y
 |.nil,es,h=>by simp[okGs]at h;subst h;exact⟨rfl,rfl⟩
 |.cons g r,[],h=>by simp[okGs]at h
 |.cons g r,x::es,h=>by
  simp only[okGs,D1]at h;obtain⟨a,b⟩:=oC (env:=env) h.2;rw[lJ h.1.1];refine⟨by simp[a],?_⟩
  rw[List.findIdx?_cons];simp[b]
mutual
theorem sG(G:Good C Φ k X):∀(m:MG) (e:Expr),okG m C e=N2->PG X e (lG X.K (bG m))
 |.name i,e,h=>by refine fL e h λx _ h=>?_;simp only[D1]at h;exact zQ G.nd (by rw[G.N];exact of_decide_eq_true h.1.1) (G.loc h.1.2) (G.own h.2)
 |.tup gs,e,h=>by refine eW e h λes _ _ h=>?_;rw[bG];obtain⟨a,b⟩:=oC (env:=X.env) h;exact BK G.calm (qE h) (sGs G gs _ h) a b
theorem sGs(G:Good C Φ k X):∀(m:MGs) (es:List Expr),okGs m C es=N2->PGs X es (lGs X.K (bGs m))
 |.nil,es,h=>by simp[okGs]at h;subst h;exact zR
 |.cons g r,[],h=>by simp[okGs]at h
 |.cons g r,e::es,h=>by simp only[okGs,D1]at h;exact wU (sG G g e h.1.2) (sGs G r es h.2) (by rw[lJ h.1.1];rfl)
end
theorem PB.imp{F:Sem Fin->Sem Fin}{t t':TC}(h:PB X F t)(i:∀σ H N,t' σ H N->t σ H N):PB X F t':=λpins s σ H N k Q E I q hk=>h pins s σ H N k Q E I (i _ _ _ q) hk
theorem jH{osc:Scope}{oN N':List Str}(h:xJ sc osc oN N' fr=N2):bp sc osc oN N' fr:=by
 simp only[xJ,D1,decide_eq_true_eq]at h;obtain⟨⟨⟨⟨⟨h1,h2⟩,F⟩,G⟩,J⟩,L⟩:=h;refine⟨h1,h2,F,λx hx e=>?_,J,λi j x hi hf=>?_⟩
 ·have z:=Mh.mp G x hx;rw[e]at z;simpa using z
 ·have B:i<N'.length:=(J0.mp hi).1;have q:=Mh.mp L i (K2.mpr B);rw[hf,hi]at q;simp only[D1,decide_eq_true_eq,MP]at q;obtain⟨a,y,O,e⟩:=q;exact⟨a,by rw[<-e];exact O⟩
theorem Good.blk(G:Good C Φ k X){N':List Str}(B:bp sc C.sc C.N N' fr)(s:I7)(H:Hp)(fp:List Ub):
 Good ⟨C.Γ,N',iO sc C.sc,(sc.names.filter (·.2==.cell)).map (·.1),C.cs⟩ Φ k (aM X sc N' s H fp):=by
 refine⟨λ_ _ h=>h,G.calm,rfl,?_,B.ndN,λx hx=>?_,G.room,G.mgB,G.fns,G.mono,G.cs⟩
 ·show relabel sc X.env=_;rw[pZ,G.sc]
 ·obtain⟨y,q,e⟩:=J8.mp hx;obtain⟨h1,h2⟩:=KJ.mp q;obtain⟨n,kd⟩:=y;have j:kd=.cell:=by simpa using h2
  subst j;have e':n=x:=e;subst e';show(sc.names.lookup n==Z .cell)=N2;rw[aX B.nd h1];rfl
end
end
variable{C:Ctx}{tb:TCd}
section
section
variable{Φ:Phi}{k:Nat}
theorem dG{X:Cx}(G:Good C Φ k X){F:Sem Fin->Sem Fin}{p:Ub}{ifs:List Expr}{ts:List TTd}(mb:ci tb)(mt:∀t∈ts,aH t)(j:PB X F (lC X.K p tb))(q:JX (λc t=>PT X c t) ifs (ts.map (lT X.K))):
 PB X (λk=>bB ifs X.env>>=λok=>if ok=N2 then F k else k) (lC X.K p (bu ts tb)):=
 PB.imp (wn G.hx j q) (jm mb mt)
theorem gw{m:MC}{Cs:Ctx}{g2:Kk}{gs:List Kk}{elt:Expr}(h:okC m Cs C (g2::gs) elt=N2):g2.is_async=0:=by
 obtain⟨t,i,f,a⟩:=g2
 cases m with
 |last src g ifs m=>
  cases gs with
  |nil=>simp only[okC,D1,decide_eq_true_eq]at h;exact h.1.1.1.1
  |cons _ _=>simp[okC]at h
 |more src g ifs rest=>
  cases gs with
  |nil=>simp[okC]at h
  |cons _ _=>simp only[okC,D1,decide_eq_true_eq]at h;exact h.1.1.1.1
mutual
theorem sE:∀(m:ME) {C:Ctx} {X:Cx} (G:Good C Φ k X) (e:Expr),okE m C e=N2->PE X e (lE X.K (wE Φ m))
 |.var i,C,X,G,e,h=>by refine fL e h λx _ h=>?_;simp only[D1,KW,decide_eq_true_eq]at h;exact Bu (by rw[G.N];exact h.1.1.1) (G.vis h.1.1.2) h.1.2 h.2
 |.int i,C,X,G,e,h=>by refine eK e h λc _ _ h=>?_;rw[of_decide_eq_true h];exact le_int
 |.bl i,C,X,G,e,h=>by refine eK e h λc _ _ h=>?_;rw[of_decide_eq_true h];exact Dj
 |.non,C,X,G,e,h=>by refine eK e h λc _ _ h=>?_;rw[of_decide_eq_true h];exact Bv
 |.str i,C,X,G,e,h=>by refine eK e h λc _ _ h=>?_;rw[of_decide_eq_true h];exact Bw
 |.bin op a b,C,X,G,e,h=>by refine C2 e h λl o r _ h=>?_;simp only[D1,decide_eq_true_eq]at h;rw[h.1.1];exact Dl (Ca G op) (ou op) (mE G.mono a) (mE G.mono b) (sE a G _ h.1.2) (sE b G _ h.2)
 |.neg a,C,X,G,e,h=>by
  refine iP e h λo x _ h=>?_;replace h:=bU h;obtain⟨ho,h⟩:=h
  cases of_decide_eq_true ho
  exact Dm wL nr (mE G.mono a) (sE a G _ h)
 |.cmp op a b,C,X,G,e,h=>by refine ox e h λl os rs pos h=>?_;refine cK os h λo h=>?_;refine cK rs h λr h=>?_;simp only[D1,decide_eq_true_eq]at h;obtain⟨⟨⟨ho,fv⟩,hb⟩,hm⟩:=h;rw[KW]at hm;subst ho;exact By (qD G op) (fK op) (mE G.mono a) (mE G.mono b) (sE a G _ fv) (sE b G _ hb) hm
 |.and es,C,X,G,e,h=>by
  refine i4 e h λo xs _ h=>?_;replace h:=bU h;obtain⟨ho,h⟩:=h;obtain⟨ho,j⟩:=bU ho
  cases of_decide_eq_true ho
  exact sAnds es G _ _ h (by intro z;rw[z]at j;cases j)
 |.or es,C,X,G,e,h=>by
  refine i4 e h λo xs _ h=>?_;replace h:=bU h;obtain⟨ho,h⟩:=h;obtain⟨ho,j⟩:=bU ho
  cases of_decide_eq_true ho
  exact sOrs es G _ _ h (by intro z;rw[z]at j;cases j)
 |.not a,C,X,G,e,h=>by
  refine iP e h λo x _ h=>?_;replace h:=bU h;obtain⟨ho,h⟩:=h
  cases of_decide_eq_true ho
  exact BJ (mE G.mono a) (sE a G _ h)
 |.ite c a b,C,X,G,e,h=>by refine C3 e h λt x y _ h=>?_;simp only[D1]at h;exact Ds (mT G.mono c) (mE G.mono a) (mE G.mono b) (sT c G _ h.1.1) (sE a G _ h.1.2) (sE b G _ h.2)
 |.tup es,C,X,G,e,h=>by refine eW e h λxs _ _ h=>?_;exact BA (mA G.mono es) (sA es G _ h)
 |.lst es,C,X,G,e,h=>by refine DB e h λxs _ h=>?_;exact BB (mA G.mono es) (sA es G _ h)
 |.ix a b,C,X,G,e,h=>by refine fN e h λx y _ h=>?_;simp only[D1]at h;exact Dn (Es (by have:=G.units;lia)) qi (mE G.mono a) (mE G.mono b) (sE a G _ h.1.2) (sE b G _ h.2) (xL h.1.1)
 |.sl a lo hi,C,X,G,e,h=>by refine jSl e h λx l u s p pos h=>?_;refine jon s h fun  h=>?_;simp only[D1]at h;exact Dt (mE G.mono a) (mO G.mono lo) (mO G.mono hi) (sE a G _ h.1.1) (sO lo G _ h.1.2) (sO hi G _ h.2)
 |.call f es,C,X,G,e,h=>by
  refine eX e h λx xs p pos h=>?_;simp only[D1,decide_eq_true_eq,KW]at h;have hA:=sA es G _ h.2;have J:=gv h.2
  cases xs with
  |nil=>
   cases es with
   |nil=>exact xM G h.1.1.1 (G.gl h.1.1.2) h.1.2
   |cons _ _=>simp[okEs]at h
  |cons y ys=>simp only[MK,D1]at J;exact Af G (mA G.mono es) h.1.1.1 (G.gl h.1.1.2) h.1.2 hA (aq J.1) (iU J.2)
 |.blt f es,C,X,G,e,h=>by
  refine eX e h λx xs p pos h=>?_;simp only[D1,decide_eq_true_eq,KW]at h;have hA:=sA es G _ h.2;have J:=gv h.2;obtain⟨⟨⟨rfl,O⟩,j⟩,_⟩:=h
  cases xs with
  |nil=>simp at j
  |cons y ys=>simp only[MK,D1]at J;exact Cb G (mA G.mono es) (G.gl O) hA (aq J.1) (iU J.2)
 |.glob x k',C,X,G,e,h=>by refine fL e h λx _ h=>?_;simp only[D1,decide_eq_true_eq,KW]at h;obtain⟨⟨⟨rfl,O⟩,hc⟩,hd⟩:=h;obtain⟨u,U,hv⟩:=G.cs _ _ hc;obtain⟨v,rv,rd⟩:=yE hv;exact PE.imp (yW (v:=v) (G.gl O) U rv hd) λσ H Q g9=>(by obtain⟨ρ,M,rs,rm,q⟩:=g9;exact q _ H Ext.refl rm (rd H))
 |.d1 a b,C,X,G,e,h=>by refine yH e h λks vs _ h=>?_;refine cK ks h λx h=>?_;refine jos x h λx h=>?_;refine cK vs h λy h=>?_;simp only[D1]at h;exact DA (by have:=G.units;lia) (mE G.mono a) (mE G.mono b) (sE a G _ h.1) (sE b G _ h.2)
 |.dnew t,C,X,G,e,h=>by refine yH e h λks vs _ h=>?_;refine iS ks h fun  h=>?_;refine iS vs h fun  h=>?_;exact zX
 |.dget o k' x,C,X,G,e,h=>by
  refine yJ e h λy n xs ap cp h=>?_;refine oA xs h λe1 e2 h=>?_;simp only[D1,decide_eq_true_eq]at h;obtain⟨⟨⟨⟨⟨⟨⟨rfl,L⟩,F2⟩,GA⟩,GB⟩,ho⟩,hk⟩,hx⟩:=h;have st:JJ [e1,e2] X.env=[(Ua,eval e1 X.env),(Ua,eval e2 X.env)]:=by rw[aq GA,aq GB];rfl
  refine A7 (by have:=G.units;lia) (mE G.mono o) (mE G.mono k') (mE G.mono x) (sE o G _ ho) (sE k' G _ hk) (sE x G _ hx) ⟨iT L,?_,F2,?_⟩
  ·rw[st];rfl
  ·rw[st];rfl
 |.meth m o a,C,X,G,e,h=>by
  refine yJ e h λx n xs ap cp h=>?_;refine cK xs h λy h=>?_;simp only[D1,decide_eq_true_eq]at h;obtain⟨⟨⟨⟨⟨hn,L⟩,F2⟩,hs⟩,ho⟩,fv⟩:=h;subst hn;have pa:PA X [y] (lA X.K (aN (wE Φ a) bF)):=bT (mE G.mono a) az (sE a G _ fv) dR (aq hs);have few:((NP cp (JJ [y] X.env)).all (λx=>!x.1)&&(backToKw cp (SG [] X.env)).all (λx=>x.1.isSome)&&decide (([y]:List Expr).length+([]:List Qf).length+(if([]:List Qf).isEmpty then 0 else 1)<30))=N2:=by rw[aq hs];rfl
  cases m with
  |append=>exact PE.imp (yp Q3 PySem.F.slot_list_append PySem.F.type_list_append kL (sE o G _ ho) pa (iT L) few F2 (aq hs) rfl) (qj iy (mE G.mono o) (ax (mE G.mono a) az) wQ)
  |extend=>exact PE.imp (yp Q3 PySem.F.slot_list_extend PySem.F.type_list_extend tM (sE o G _ ho) pa (iT L) few F2 (aq hs) rfl) (qj iz (mE G.mono o) (ax (mE G.mono a) az) wR)
 |.comp fr N' c,C,X,G,e,h=>by
  refine uY e h λelt gens sc pos h=>?_;simp only[D1]at h;have B:bp sc X.env.scope X.N N' fr:=by rw[G.sc,G.N];exact jH h.1
  have B':bp sc C.sc C.N N' fr:=jH h.1
  cases c with
  |last src g ifs m=>
   have h2:=h.2;simp only[okC]at h2
   split at h2
   ·rename_i t it fs a;simp only[D1,decide_eq_true_eq]at h2;obtain⟨⟨⟨⟨rfl,hi⟩,O⟩,U⟩,he⟩:=h2;refine PE.imp (iw G.calm G.hx B (λg' z=>by simp at z) (sI src G _ t hi).1 (λs H fp=>sG (G.blk B' s H fp) g t O) (tb:=λp=>lC X.K p (bu (wTl Φ ifs) (bJ (wE Φ m)))) (λs H fp p=>?_) (sI src G _ t hi).2) (eF (mI G.mono src) (aT (bM (mE G.mono m)) (mTl G.mono ifs)))
    have G':=G.blk B' s H fp;exact dG (p:=p) G' (bM (mE G.mono m)) (mTl G.mono ifs) (PB.imp (jS G'.hx (sE m G' elt he) rfl) (gj (mE G.mono m))) (sTl ifs G' fs U)
   ·cases h2
  |more src g ifs rest=>
   have h2:=h.2;simp only[okC]at h2
   split at h2
   ·rename_i t it fs a g2 gs;simp only[D1,decide_eq_true_eq]at h2;obtain⟨⟨⟨⟨rfl,hi⟩,O⟩,U⟩,he⟩:=h2;have GC:∀g',(g2::gs)[0]?=Z g'->g'.is_async=0:=fun g' z=>by
     have z':g2=g':=by simpa using z
     subst z';exact gw he
    refine PE.imp (iw G.calm G.hx B GC (sI src G _ t hi).1 (λs H fp=>sG (G.blk B' s H fp) g t O) (tb:=λp=>lC X.K p (bu (wTl Φ ifs) (wCl Φ rest))) (λs H fp p=>?_) (sI src G _ t hi).2) (eF (mI G.mono src) (aT (mCl G.mono rest) (mTl G.mono ifs)));have G':=G.blk B' s H fp;exact dG (p:=p) G' (mCl G.mono rest) (mTl G.mono ifs) (sCl rest G' elt (⟨t,it,fs,0⟩::g2::gs) sc pos 0 (.inl rfl) p he) (sTl ifs G' fs U)
   ·cases h2
theorem sA:∀(m:MEs) {C:Ctx} {X:Cx} (G:Good C Φ k X) (es:List Expr),okEs m C es=N2->PA X es (lA X.K (wA Φ m))
 |.nil,C,X,G,es,h=>by simp[okEs]at h;subst h;exact dR
 |.cons m r,C,X,G,[],h=>by simp[okEs]at h
 |.cons m r,C,X,G,e::es,h=>by simp only[okEs,D1]at h;exact bT (mE G.mono m) (mA G.mono r) (sE m G e h.1.2) (sA r G es h.2) (aq h.1.1)
theorem sAnds:∀(m:MEs) {C:Ctx} {X:Cx} (G:Good C Φ k X) (es:List Expr) (pos:Pos),okEs m C es=N2->es≠[]->PE X (.BoolOp .And es pos) (lE X.K (wAnds Φ m))
 |.nil,C,X,G,es,pos,h,j=>by simp[okEs]at h;exact absurd h j
 |.cons m r,C,X,G,[],pos,h,j=>absurd rfl j
 |.cons m .nil,C,X,G,e::es,pos,h,_=>by simp only[okEs,D1]at h;obtain⟨h1,h2⟩:=h;simp at h2;subst h2;exact u9 (sE m G e h1.2)
 |.cons m (.cons m2 r),C,X,G,e::es,pos,h,_=>by
  simp only[okEs,D1]at h;obtain⟨h1,h2⟩:=h
  cases es with
  |nil=>simp at h2
  |cons f fs=>exact BI (mE G.mono m) (mAnds G.mono _) (sE m G e h1.2) (sAnds (.cons m2 r) G (f::fs) pos (by simpa only[okEs,D1]using h2) (by simp))
theorem sOrs:∀(m:MEs) {C:Ctx} {X:Cx} (G:Good C Φ k X) (es:List Expr) (pos:Pos),okEs m C es=N2->es≠[]->PE X (.BoolOp .Or es pos) (lE X.K (wOrs Φ m))
 |.nil,C,X,G,es,pos,h,j=>by simp[okEs]at h;exact absurd h j
 |.cons m r,C,X,G,[],pos,h,j=>absurd rfl j
 |.cons m .nil,C,X,G,e::es,pos,h,_=>by simp only[okEs,D1]at h;obtain⟨h1,h2⟩:=h;simp at h2;subst h2;exact u9 (sE m G e h1.2)
 |.cons m (.cons m2 r),C,X,G,e::es,pos,h,_=>by
  simp only[okEs,D1]at h;obtain⟨h1,h2⟩:=h
  cases es with
  |nil=>simp at h2
  |cons f fs=>exact Dr (mE G.mono m) (mOrs G.mono _) (sE m G e h1.2) (sOrs (.cons m2 r) G (f::fs) pos (by simpa only[okEs,D1]using h2) (by simp))
theorem sO:∀(m:MO) {C:Ctx} {X:Cx} (G:Good C Φ k X) (e:Option Expr),okO m C e=N2->PO X e (lO X.K (wO Φ m))
 |.none,C,X,G,e,h=>by simp[okO]at h;subst h;exact zM
 |.some m,C,X,G,Y,h=>by simp[okO]at h
 |.some m,C,X,G,Z e,h=>by simp only[okO]at h;exact zN (mE G.mono m) (sE m G e h)
theorem sT:∀(m:MT) {C:Ctx} {X:Cx} (G:Good C Φ k X) (e:Expr),okT m C e=N2->PT X e (lT X.K (wT Φ m))
 |.tru m,C,X,G,e,h=>by simp only[okT,D1]at h;exact BD (mE G.mono m) (sE m G e h.2) (sL h.1)
 |.cmp op a b,C,X,G,e,h=>by refine ox e h λl os rs pos h=>?_;refine cK os h λo h=>?_;refine cK rs h λr h=>?_;simp only[D1,decide_eq_true_eq]at h;obtain⟨⟨⟨ho,q⟩,B⟩,hm⟩:=h;rw[KW]at hm;subst ho;exact Bz (qD G op) (fK op) (mE G.mono a) (mE G.mono b) (sE a G _ q) (sE b G _ B) hm
 |.and ts,C,X,G,e,h=>by
  refine i4 e h λo xs _ h=>?_;replace h:=bU h;obtain⟨ho,h⟩:=h;obtain⟨ho,j⟩:=bU ho
  cases of_decide_eq_true ho
  exact(sAndTs ts G _ _ h (by intro z;rw[z]at j;cases j)).pt
 |.or ts,C,X,G,e,h=>by
  refine i4 e h λo xs _ h=>?_;replace h:=bU h;obtain⟨ho,h⟩:=h;obtain⟨ho,j⟩:=bU ho
  cases of_decide_eq_true ho
  exact(sOrTs ts G _ _ h (by intro z;rw[z]at j;cases j)).pt
 |.not t,C,X,G,e,h=>by
  refine iP e h λo x _ h=>?_;replace h:=bU h;obtain⟨ho,h⟩:=h
  cases of_decide_eq_true ho
  exact BE (mT G.mono t) (sT t G _ h)
theorem sAndTs:∀(m:MTs) {C:Ctx} {X:Cx} (G:Good C Φ k X) (es:List Expr) (pos:Pos),okTs m C es=N2->es≠[]->PW X (.BoolOp .And es pos) (lT X.K (wAndTs Φ m))
 |.nil,C,X,G,es,pos,h,j=>by simp[okTs]at h;exact absurd h j
 |.cons m r,C,X,G,[],pos,h,j=>absurd rfl j
 |.cons m .nil,C,X,G,e::es,pos,h,_=>by simp only[okTs,D1]at h;obtain⟨h1,h2⟩:=h;simp at h2;subst h2;exact zK (sT m G e h1)
 |.cons m (.cons m2 r),C,X,G,e::es,pos,h,_=>by
  simp only[okTs,D1]at h;obtain⟨h1,h2⟩:=h
  cases es with
  |nil=>simp at h2
  |cons f fs=>exact BH (mT G.mono m) (mAndTs G.mono _) (sT m G e h1) (sAndTs (.cons m2 r) G (f::fs) pos (by simpa only[okTs,D1]using h2) (by simp))
theorem sOrTs:∀(m:MTs) {C:Ctx} {X:Cx} (G:Good C Φ k X) (es:List Expr) (pos:Pos),okTs m C es=N2->es≠[]->PW X (.BoolOp .Or es pos) (lT X.K (wOrTs Φ m))
 |.nil,C,X,G,es,pos,h,j=>by simp[okTs]at h;exact absurd h j
 |.cons m r,C,X,G,[],pos,h,j=>absurd rfl j
 |.cons m .nil,C,X,G,e::es,pos,h,_=>by simp only[okTs,D1]at h;obtain⟨h1,h2⟩:=h;simp at h2;subst h2;exact BG (sT m G e h1)
 |.cons m (.cons m2 r),C,X,G,e::es,pos,h,_=>by
  simp only[okTs,D1]at h;obtain⟨h1,h2⟩:=h
  cases es with
  |nil=>simp at h2
  |cons f fs=>exact Dq (mT G.mono m) (mOrTs G.mono _) (sT m G e h1) (sOrTs (.cons m2 r) G (f::fs) pos (by simpa only[okTs,D1]using h2) (by simp))
theorem sTl:∀(m:MTs) {C:Ctx} {X:Cx} (G:Good C Φ k X) (es:List Expr),okTs m C es=N2->JX (λc t=>PT X c t) es ((wTl Φ m).map (lT X.K))
 |.nil,C,X,G,es,h=>by simp[okTs]at h;subst h;exact .nil
 |.cons m r,C,X,G,[],h=>by simp[okTs]at h
 |.cons m r,C,X,G,e::es,h=>by simp only[okTs,D1]at h;exact .cons (sT m G e h.1) (sTl r G es h.2)
theorem sI:∀(m:MI) {C:Ctx} {X:Cx} (G:Good C Φ k X) (e tg:Expr),okI m C tg e=N2->PI X tg e (lI X.K (wI Φ m))/\∀x,LO e X.env x=pure x
 |.seq m,C,X,G,e,tg,h=>by simp only[okI,D1]at h;exact⟨BN (mE G.mono m) (sE m G e h.2),oB h.1⟩
 |.keys m,C,X,G,e,tg,h=>by simp only[okI,D1]at h;exact⟨Ab (mE G.mono m) (sE m G e h.2),oB h.1⟩
 |.rng1 a,C,X,G,e,tg,h=>by refine eX e h λx xs p pos h=>?_;refine cK xs h λy h=>?_;simp only[D1,decide_eq_true_eq]at h;obtain⟨⟨⟨rfl,q⟩,hs⟩,B⟩:=h;exact⟨zS (ax (mE G.mono a) az) (G.gl q) (G.mgB _ (by decide)) (bT (mE G.mono a) az (sE a G _ B) dR (aq hs)) (aq hs),λx=>rfl⟩
 |.rng2 a b,C,X,G,e,tg,h=>by refine eX e h λx xs p pos h=>?_;refine oA xs h λy z h=>?_;simp only[D1,decide_eq_true_eq]at h;obtain⟨⟨⟨⟨⟨rfl,q⟩,hs⟩,j⟩,B⟩,F⟩:=h;exact⟨zT (ax (mE G.mono a) (ax (mE G.mono b) az)) (G.gl q) (G.mgB _ (by decide)) (bT (mE G.mono a) (ax (mE G.mono b) az) (sE a G _ B) (bT (mE G.mono b) az (sE b G _ F) dR (aq j)) (aq hs)) (by rw[aq hs,aq j];rfl) (aq j),λx=>rfl⟩
 |.enum a,C,X,G,e,tg,h=>by refine eX e h λx xs p pos h=>?_;refine cK xs h λy h=>?_;refine eW tg h λts kt pt h=>?_;simp only[D1,decide_eq_true_eq]at h;obtain⟨⟨⟨rfl,q⟩,hs⟩,B⟩:=h;exact⟨zU (mE G.mono a) (G.gl q) (G.mgB _ (by decide)) (bT (mE G.mono a) az (sE a G _ B) dR (aq hs)) (aq hs),λx=>rfl⟩
 |.zip a b,C,X,G,e,tg,h=>by refine eX e h λx xs p pos h=>?_;refine oA xs h λy z h=>?_;refine eW tg h λts kt pt h=>?_;simp only[D1,decide_eq_true_eq]at h;obtain⟨⟨⟨⟨⟨rfl,q⟩,hs⟩,j⟩,B⟩,F⟩:=h;exact⟨BP (mE G.mono a) (mE G.mono b) (G.gl q) (G.mgB _ (by decide)) (bT (mE G.mono a) (ax (mE G.mono b) az) (sE a G _ B) (bT (mE G.mono b) az (sE b G _ F) dR (aq j)) (aq hs)) (by rw[aq hs,aq j];rfl) (aq j),λx=>rfl⟩
theorem sCl:∀(m:MC) {C:Ctx} {X:Cx} (G:Good C Φ k X) (elt:Expr) (gens:List Kk) (sc:Scope) (pos:Pos) (d:Nat) (_:d=0∨d=d) (p:Ub),okC m C C (gens.drop (d+1)) elt=N2->
 PB X (bo elt gens sc pos d (.ref p) X.env) (lC X.K p (wCl Φ m))
 |.last src g ifs m,C,X,G,elt,gens,sc,pos,d,_,p,h=>by
  simp only[okC]at h
  split at h
  ·rename_i t it fs a hd;simp only[D1,decide_eq_true_eq]at h;obtain⟨⟨⟨⟨rfl,hi⟩,q⟩,B⟩,he⟩:=h;have F:gens[d+1]?=Z ⟨t,it,fs,0⟩:=by
    have z:(gens.drop (d+1))[0]?=Z ⟨t,it,fs,0⟩:=by rw[hd];rfl
    rw[N3]at z;simpa using z
   have j:gens[d+1+1]?=Y:=by
    have z:(gens.drop (d+1))[1]?=Y:=by rw[hd];rfl
    rw[N3]at z;simpa using z
   refine PB.imp (kQ G.hx G.calm F (λg' z=>by rw[j]at z;cases z) (sI src G _ t hi).1 (sG G g t q) (dG (p:=p) G (bM (mE G.mono m)) (mTl G.mono ifs) (PB.imp (jS G.hx (sE m G elt he) j) (gj (mE G.mono m))) (sTl ifs G fs B)) (sI src G _ t hi).2) (iB (mI G.mono src) (aT (bM (mE G.mono m)) (mTl G.mono ifs)))
  ·cases h
 |.more src g ifs rest,C,X,G,elt,gens,sc,pos,d,_,p,h=>by
  simp only[okC]at h
  split at h
  ·rename_i t it fs a g2 gs hd;simp only[D1,decide_eq_true_eq]at h;obtain⟨⟨⟨⟨rfl,hi⟩,q⟩,B⟩,he⟩:=h;have F:gens[d+1]?=Z ⟨t,it,fs,0⟩:=by
    have z:(gens.drop (d+1))[0]?=Z ⟨t,it,fs,0⟩:=by rw[hd];rfl
    rw[N3]at z;simpa using z
   have j:gens[d+1+1]?=Z g2:=by
    have z:(gens.drop (d+1))[1]?=Z g2:=by rw[hd];rfl
    rw[N3]at z;simpa using z
   have L:gens.drop (d+1+1)=g2::gs:=by
    have z:(gens.drop (d+1)).drop 1=g2::gs:=by rw[hd];rfl
    rw[Pe]at z;simpa using z
   have J:∀g',gens[d+1+1]?=Z g'->g'.is_async=0:=λg' z=>by rw[j]at z;cases z;exact gw he
   refine PB.imp (kQ G.hx G.calm F J (sI src G _ t hi).1 (sG G g t q) (dG (p:=p) G (mCl G.mono rest) (mTl G.mono ifs) (sCl rest G elt gens sc pos (d+1) (.inr rfl) p (by rw[L];exact he)) (sTl ifs G fs B)) (sI src G _ t hi).2) (iB (mI G.mono src) (aT (mCl G.mono rest) (mTl G.mono ifs)))
  ·cases h
end
end
end
section
section
variable{Φ:Phi}{k:Nat}{C:Ctx}{X:Cx}
theorem xN{ts vs:List Expr}{kk j:Nat}{pp p2:Pos}(hs:env.scope=sc)(q:sc.kind=.function)(h:sF sc ts vs=N2):My [.Tuple ts kk pp] (.Tuple vs j p2) env=pure Y:=by
 have z:env.blockKind=.function:=by unfold PN;rw[hs,q];rfl
 have h':sF sc ts vs=N2:=h;unfold My;dsimp only;rw[z]
 by_cases c1:(!(ts.length==2 || ts.length==3) || vs.length != ts.length)=N2
 ·simp only[c1,Bool.true_or,if_true]
 ·simp only[Oj]at c1;rw[c1];simp only[PD,bne_self_eq_false,Ld,if_false]
  split
  ·rfl
  ·
    generalize B:List.filterMap _ ts=L;obtain rfl:L=bm sc ts:=by
     rw[<-B];unfold bm;congr 1
     funext x
     cases x<;>first|rfl|(unfold RE;rw[hs])
    unfold sF at h';rw[c1]at h';simp only[PD,Qs]at h'
    by_cases c3:((bm sc ts).length != ts.length || (bm sc ts).eraseDups.length != (bm sc ts).length)=N2
    ·rw[if_pos c3]
    ·rw[if_neg c3];have F:vs.all (Rm 8)=N2:=by
      rcases h' with h'|h'
      ·exact absurd (Qs _ _ |>.mpr h') c3
      ·exact h'
     rw[if_pos F]
theorem Ag{ts vs:List Expr}{ns:List Str}{kk j:Nat}{pp p2:Pos}(hs:env.scope=sc)(q:sc.kind=.function)(h:sJ sc ts vs ns=N2):My [.Tuple ts kk pp] (.Tuple vs j p2) env=pure (Z ns):=by
 have B:env.blockKind=.function:=by unfold PN;rw[hs,q];rfl
 simp only[sJ,D1,KW,decide_eq_true_eq]at h;obtain⟨⟨⟨⟨⟨F,G⟩,J⟩,O⟩,U⟩,F2⟩:=h;unfold My;dsimp only;rw[B,F];simp only[PD,bne_self_eq_false,Ld,if_false]
 split
 ·next z=>exact absurd z (by rw[Oj];exact G)
 ·generalize fv:List.filterMap _ ts=L;obtain rfl:L=bm sc ts:=by
   rw[<-fv];unfold bm;congr 1
   funext x
   cases x<;>first|rfl|(unfold RE;rw[hs])
  rw[O,U,F2,J];rfl
theorem qF{i:Nat}(h:sH C i x=N2):C.N[i]?=Z x/\C.sc.names.lookup x=Z .local:=by simpa[sH]using h
theorem dH{tg:Expr}{l:Nat}{b:Bool}(h:NL e (Z tg) l env=pure b):Ny [tg] e l env=pure b:=by unfold Ny;exact h
theorem Ah{tg:Expr}(hs:env.scope=sc)(j:sc.kind=.function)(h:yK sc tg e=N2):My [tg] e env=pure Y:=by
 cases tg with
 |Tuple ts kk pp=>
  cases e with
  |Tuple vs q p2=>exact xN hs j h
  |_=>rfl
 |_=>first|rfl|(cases h;done)
theorem oD{elt:Expr}{gens:List Kk}{s:Scope}{px:Pos}{l:Nat}(hs:env.scope=sc)(j:sc.kind=.function):
 NL (.ListComp elt gens s pos) (Z (.Name x px)) l env=pure (sK sc x px (.ListComp elt gens s pos)):=by
 have q:env.blockKind=.function:=by unfold PN;rw[hs,j];rfl
 unfold NL;dsimp only;rw[q];unfold sK RE;rw[hs];rfl
theorem v5{ek ev:Expr}{gens:List Kk}{s:Scope}{px:Pos}{l:Nat}(hs:env.scope=sc)(j:sc.kind=.function):
 NL (.DictComp ek ev gens s pos) (Z (.Name x px)) l env=pure (sc.names.lookup x==Z .local&&px.line==(Expr.DictComp ek ev gens s pos).pos.line && !(s.names.any λ(n,k)=>n==x&&(k==.local || k==.cell))):=by
 have q:env.blockKind=.function:=by unfold PN;rw[hs,j];rfl
 unfold NL;dsimp only;rw[q];unfold RE;rw[hs];rfl
mutual
theorem sS:∀(m:MS) (G:Good C Φ k X) (q:C.sc.kind=.function) (s:Stmt),okS m C s=N2->PS X s (lS X.K (wS Φ m))
 |.asg g m,G,q,s,h=>by
  refine iR s h λts e pos h1=>?_;clear h;refine cK ts h1 λtg h=>?_;clear h1;simp only[D1]at h;obtain⟨⟨⟨F,he⟩,U⟩,O⟩:=h;have hw:=Ah G.sc q U;have pg:=sG G g tg F;have plain:Ny [tg] e pos.line X.env=pure Ua->PS X (.Assign [tg] e pos) (lS X.K (kc (wE Φ m) (bG g))):=λhs=>PS.imp (tw (sE m G e he) pg hs hw (by cases tg<;>first|rfl|(cases U;done))) (xj (mE G.mono m))
  cases tg with
  |Tuple ts a b=>exact plain (dH (kl O))
  |Name x px=>
   cases e with
   |ListComp elt gens sc cpos=>
    by_cases sw:sK C.sc x px (.ListComp elt gens sc cpos)=N2
    ·cases g with
     |tup gs=>exact absurd F Jg
     |name i=>
      cases m with
      |comp fr N' c=>
       replace he:=bU he;have B:bp sc X.env.scope X.N N' fr:=by rw[G.sc,G.N];exact jH he.1
       have B':bp sc C.sc C.N N' fr:=jH he.1;have F2:PG X (.Name x px) (j5 i):=by have F:=bU F;have F:=Oi (bU F.1) F.2;exact qa G.nd (by rw[G.N];exact of_decide_eq_true F.1.1) (G.loc F.1.2) (G.own F.2)
       have fv:∀l,NL (.ListComp elt gens sc cpos) (Z (.Name x px)) l X.env=pure N2:=λl=>by rw[oD G.sc q,sw]
       have mc:=mCmp G.mono fr c
       cases c with
       |last src g ifs m=>
        have h2:=he.2;simp only[okC]at h2
        split at h2
        ·rename_i t it fs a;simp only[D1,decide_eq_true_eq]at h2;obtain⟨⟨⟨⟨rfl,hi⟩,L⟩,ht⟩,J⟩:=h2;refine PS.imp (jg (i:=i) (g:=lG X.K (bG g)) (wi:=lI X.K (wI Φ src)) G.calm G.hx B (λg' z=>by simp at z) (sI src G _ t hi).1 (λs H fp=>sG (G.blk B' s H fp) g t L) (tb:=λp=>lC X.K p (bu (wTl Φ ifs) (bJ (wE Φ m)))) (λs H fp p=>?_) (sI src G _ t hi).2 F2 (fv _)) λD σ H h=>?_
         ·have G':=G.blk B' s H fp;exact dG (p:=p) G' (bM (mE G.mono m)) (mTl G.mono ifs) (PB.imp (jS G'.hx (sE m G' elt J) rfl) (gj (mE G.mono m))) (sTl ifs G' fs ht)
         ·exact eF (mI G.mono src) (aT (bM (mE G.mono m)) (mTl G.mono ifs)) σ H _ (lf mc D σ H h)
        ·cases h2
       |more src g ifs rest=>
        have h2:=he.2;simp only[okC]at h2
        split at h2
        ·rename_i t it fs a g2 gs;simp only[D1,decide_eq_true_eq]at h2;obtain⟨⟨⟨⟨rfl,hi⟩,L⟩,ht⟩,J⟩:=h2;have GA:∀g',(g2::gs)[0]?=Z g'->g'.is_async=0:=fun g' z=>by
          have z':g2=g':=by simpa using z
          subst z';exact gw J
         refine PS.imp (jg (i:=i) (g:=lG X.K (bG g)) (wi:=lI X.K (wI Φ src)) G.calm G.hx B GA (sI src G _ t hi).1 (λs H fp=>sG (G.blk B' s H fp) g t L) (tb:=λp=>lC X.K p (bu (wTl Φ ifs) (wCl Φ rest))) (λs H fp p=>?_) (sI src G _ t hi).2 F2 (fv _)) λD σ H h=>?_
         ·have G':=G.blk B' s H fp;exact dG (p:=p) G' (mCl G.mono rest) (mTl G.mono ifs) (sCl rest G' elt (⟨t,it,fs,0⟩::g2::gs) sc cpos 0 (.inl rfl) p J) (sTl ifs G' fs ht)
         ·exact eF (mI G.mono src) (aT (mCl G.mono rest) (mTl G.mono ifs)) σ H _ (lf mc D σ H h)
        ·cases h2
      |_=>exact absurd he Jg
    ·refine plain ?_;simp only[Oj]at sw;refine dH ?_;rw[oD G.sc q,sw]
   |SetComp _ _ _ _=>cases m<;>exact absurd he Jg
   |DictComp _ _ _ _ _=>refine plain (dH ?_);rw[v5 G.sc q];unfold C9 at O;simp only[KW]at O;rw[O]
   |_=>exact plain (dH rfl)
  |_=>cases U
 |.par i j a b,G,q,s,h=>by refine iR s h λts e pos h=>?_;refine cK ts h λtg h=>?_;refine eW tg h λts k p h=>?_;refine eW e h λes k' p' h=>?_;refine oA ts h λt u h=>?_;refine oA es h λe f h=>?_;refine fL t h λx px h=>?_;refine fL u h λy py h=>?_;simp only[D1,decide_eq_true_eq]at h;obtain⟨⟨⟨⟨⟨⟨⟨hi,hj⟩,GB⟩,n1⟩,n2⟩,U⟩,hb⟩,hw⟩:=h;obtain⟨i1,i2⟩:=qF hi;obtain⟨j1,j2⟩:=qF hj;exact PS.imp (B5 G.calm G.nd (by rw[G.N];exact i1) (by rw[G.N];exact j1) GB (by rw[G.sc];exact i2) (by rw[G.sc];exact j2) (bT (mE G.mono a) (ax (mE G.mono b) az) (sE a G _ U) (bT (mE G.mono b) az (sE b G _ hb) dR (aq n2)) (aq n1)) (Ag G.sc q hw) (dH rfl)) (uw (ax (mE G.mono a) (ax (mE G.mono b) az)))
 |.put o i m,G,q,s,h=>by refine iR s h λts e pos h=>?_;refine cK ts h λtg h=>?_;refine fN tg h λx y tp h=>?_;simp only[D1]at h;obtain⟨⟨⟨⟨GC,O⟩,ho⟩,hi⟩,he⟩:=h;exact BR (by have:=G.units;lia) (mE G.mono m) (mE G.mono o) (mE G.mono i) (sE m G e he) (sE o G x ho) (sE i G y hi) (dH (kl O)) rfl (λv=>by cases y<;>first|rfl|(cases GC;done))
 |.aug i op m,G,q,s,h=>by
  refine q0 s h λt o e pos h=>?_;refine fL t h λx _ h=>?_;simp only[D1,decide_eq_true_eq]at h;obtain⟨⟨⟨⟨⟨rfl,GD⟩,hi⟩,hl⟩,hf⟩,he⟩:=h
  cases op with
  |add=>exact nI G.nd (by rw[G.N];exact hi) (G.loc hl) (sE m G _ he) uo lg (mE G.mono m) (G.own hf)
  |sub=>exact nI G.nd (by rw[G.N];exact hi) (G.loc hl) (sE m G _ he) uq lh (mE G.mono m) (G.own hf)
  |mul=>exact nI G.nd (by rw[G.N];exact hi) (G.loc hl) (sE m G _ he) uu lj (mE G.mono m) (G.own hf)
  |_=>simp at GD
 |.drop m,G,q,s,h=>by refine C5 s h λe _ h=>?_;simp only[D1]at h;exact PS.imp (z9 (sE m G _ h.2) (kl h.1)) (uk (mE G.mono m))
 |.ret m,G,q,s,h=>by refine xK s h λo _ h=>?_;refine jos o h λe h=>?_;exact PS.imp (B0 (sE m G _ h)) (xi (mE G.mono m))
 |.ite c a b,G,q,s,h=>by refine Ev s h λt x y _ h=>?_;simp only[D1]at h;exact PS.imp (CW (sT c G _ h.1.1) (sSs a G q _ h.1.2) (sSs b G q _ h.2)) (zV (mT G.mono c))
 |.for g src b,G,q,s,h=>by refine DC s h λtg it body els _ h=>?_;refine iS els h fun  h=>?_;simp only[D1]at h;obtain⟨⟨⟨hs,F⟩,hi⟩,hb⟩:=h;exact PS.imp (B8 (λe s z=>(G.hx e s z).elim) G.calm (sI src G _ _ hi).1 (sG G g _ F) (sSs b G q _ hb) (oB hs)) (xk (mI G.mono src) (mSs G.mono b))
 |.while c b,G,q,s,h=>by refine Ad s h λt body els _ h=>?_;refine iS els h fun  h=>?_;simp only[D1]at h;exact PS.imp (vZ (λe s z=>(G.hx e s z).elim) (sT c G _ h.1) (sSs b G q _ h.2)) (rY (mT G.mono c) (mSs G.mono b))
 |.frz i m,G,q,s,h=>by exact BX (sS m G q s h)
 |.pass,G,q,s,h=>by refine C7 s h λ_ h=>?_;exact PS.imp yZ lc
 |.brk,G,q,s,h=>by refine Ae s h λ_ h=>?_;exact PS.imp vX rX
 |.cnt,G,q,s,h=>by refine sB s h λ_ h=>?_;exact PS.imp pN uj
theorem sSs:∀(m:MSs) (G:Good C Φ k X) (j:C.sc.kind=.function) (s:List Stmt),okSs m C s=N2->PSs X s (lS X.K (wSs Φ m))
 |.nil,G,j,s,h=>by simp[okSs]at h;subst h;exact PSs.imp yY lc
 |.cons m r,G,j,[],h=>by simp[okSs]at h
 |.cons m r,G,j,s::ss,h=>by simp only[okSs,D1]at h;exact PSs.imp (vW (sS m G j s h.1) (sSs r G j ss h.2)) (xh (mS G.mono m) (mSs G.mono r))
end
end
end
variable{a:Ub}{ns:List Int}
section
structure FD where
 name:Str
 st:Stmt
 N:List Str
 np:Nat
 body:MSs
noncomputable def eY(N:List Str)(ds:List D):ar:=ds.map Z++IY (N.length-ds.length) Y
noncomputable def phi(T:List FD):Nat->Phi
 |0=>λ_ _ _ _=>False
 |k+1=>λf ds M Q=>∃d,T[f]?=Z d/\ds.length=d.np/\wSs (phi T k) d.body {nx:=λ_ M'=>Q .non M',rt:=Q} (eY d.N ds) M
theorem iV(T:List FD):∀k f,aV (phi T k f)
 |0,f=>λ_ _ _ _ _ q=>q.elim
 |k+1,f=>λds M Q Q' h j=>(by obtain⟨d,e,l,q⟩:=j;exact⟨d,e,l,mSs (iV T k) d.body {nx:=λ_ M'=>Q .non M',rt:=Q} {nx:=λ_ M'=>Q' .non M',rt:=Q'} _ _ ⟨λ_ M' q'=>h _ _ q',h,λ_ _ z=>z,λ_ _ z=>z⟩ q⟩)
noncomputable def sM(Γ:List Str)(cs:List (Str×D))(d:FD):Bool:=
 decide ((aB d.st).kind=.function) && !(aB d.st).isCoroutine && !(aB d.st).isGenerator&&decide (d.N.Nodup)&&decide (d.np<=d.N.length)
  && (d.N.take d.np).all (λx=>(aB d.st).names.lookup x==Z .local || (aB d.st).names.lookup x==Z .cell)
  && (aB d.st).names.all (λy=>!(y.2==.free))&&okSs d.body ⟨Γ,d.N,aB d.st,d.N,cs⟩ (ce d.st)
theorem xO{Γ:List Str}{cs:List (Str×D)}{d:FD}(h:sM Γ cs d=N2):gG d.N (d.N.take d.np) (aB d.st)/\(d.N.take d.np).length=d.np/\okSs d.body ⟨Γ,d.N,aB d.st,d.N,cs⟩ (ce d.st)=N2:=by
 simp only[sM,D1,decide_eq_true_eq,KW]at h;obtain⟨⟨⟨⟨⟨⟨⟨h1,h2⟩,q⟩,B⟩,O⟩,F⟩,G⟩,J⟩:=h;have j:(d.N.take d.np).length=d.np:=by rw[JG];lia
 refine⟨⟨h1,h2,q,B,by rw[j],λx hx=>?_,λy L e=>?_⟩,j,J⟩
 ·have z:=Mh.mp F x hx;simpa using z
 ·have z:=Mh.mp G y L;rw[e]at z;simp at z
section
variable{P:JB}{w:K1}{K:Frag}{mg:Str->Option hH}{base:Heap}
structure yL(K:Frag)(mg:Str->Option hH)(T:List FD)(cs:List (Str×D)):Prop where
 blt:∀x∈bltNames,mg x=Y
 fns:∀(i:Nat) (d:FD),T[i]?=Z d->∃f fd,Fun K d.name d.name d.st f fd/\mg d.name=Z (.ref f)/\NX K KQ d.name=Z (Z (.ref f))/\Binds K fd (d.N.take d.np) []
 ok:∀d∈T,sM (T.map (·.name)) cs d=N2
 cst:∀x d,(x,d)∈cs->∃u,mg x=Z u/\GV K d u
theorem v6{T:List FD}{cs:List (Str×D)}(O:yL K mg T cs):∀(k i:Nat) (d:FD) (f:Ub) (fd:Nm),T[i]?=Z d->Fun K d.name d.name d.st f fd->dP P w K mg base CX0 k f fd (d.N.take d.np) (lSp K (phi T k i))
 |0,i,d,f,fd,e,F=>⟨λvs H Q E h=>by obtain⟨ds,M,_,_,q⟩:=h;exact q.elim,λA outer s H args us vs Q E _ _ _ _ h=>by obtain⟨ds,M,_,_,q⟩:=h;exact q.elim⟩
 |k+1,i,d,f,fd,e,F=>by
  obtain⟨S,hl,hb⟩:=xO (O.ok d (Jh e));refine F.ok S (λvs H Q E h=>?_) λcdv A outer s H vs Q E hr h=>?_
  ·obtain⟨ds,M,rm,rs,d',e',l,q⟩:=h;rw[e]at e';cases e';rw[rs.length,l,hl]
  ·obtain⟨ds,M,rm,rs,d',e',l,q⟩:=h;rw[e]at e';cases e';have G:Good ⟨T.map (·.name),d.N,aB d.st,d.N,cs⟩ (phi T k) k ((iD CX0 P w K mg base d.N d.name (aB d.st) f cdv A outer s H E).nox):=by
    refine⟨λ_ _ z=>z,rfl,rfl,rfl,S.nd,λ_ _=>rfl,hr,O.blt,λj x hx=>?_,iV T k,O.cst⟩;have B:(T.map (·.name))[j]?=Z x:=hx;rw[Jj]at B
    cases F2:T[j]? with
    |none=>rw[F2]at B;cases B
    |some d2=>rw[F2]at B;cases B;obtain⟨f2,U,fv,m2,n2,b2⟩:=O.fns j d2 F2;exact⟨f2,U,_,m2,n2,fv.kp,b2,v6 O k j d2 f2 U F2 fv⟩
   refine⟨_,sSs d.body G S.kind _ hb,eY d.N ds,M,{nx:=λ_ M'=>KE' K M H Q .non M',rt:=KE' K M H Q},?_,rm,⟨λρ M' σ H' x rs' rm' q'=>?_,λd M' v H' x rm' rd' q'=>q' v H' x rm' rd',λ_ _ _ _ _ _ _ z=>z,λ_ _ _ _ _ _ _ z=>z⟩,q⟩
   ·refine⟨by simp[cS,eY,rs.length],λj dd J=>?_⟩
    unfold eY at J;unfold cS
    by_cases L:j<ds.length
    ·rw[J1 (by simpa using L),Jj]at J
     cases e3:ds[j]? with
     |none=>rw[e3]at J;cases J
     |some z=>rw[e3]at J;cases J;obtain⟨v,hv,rv⟩:=rs.get e3;refine⟨v,?_,rv⟩;rw[J1 (by rw[h7,rs.length];exact L),Jj,hv];rfl
    ·rw[IX (by simpa using L),JR]at J
     split at J<;>cases J
   ·exact q' .non H' x rm' (TV.mpr rfl)
theorem Cc{T:List FD}{k i:Nat}{H:Hp}(B:rA H)(F:SqL K H a (ns.map V.int))(h:phi T k i [.con (ns.map D.int)] (λ_=>Y) λd _=>d=.bl N2):
 lSp K (phi T k i) [.ref a] H (λv _=>v=.bl N2) λ_ _ _=>False:=by
 have j:RM K (λ_=>Y) H:=λ_ _ z=>by cases z
 refine⟨[.con (ns.map D.int)],λ_=>Y,j,RDs.cons (TQ.mpr ⟨a,ns.map V.int,rfl,?_,RDs.ints ns⟩) RDs.nil,iV T k i [.con (ns.map D.int)] (λ_=>Y) (λd _=>d=.bl N2) (KE' K (λ_=>Y) H λv _=>v=.bl N2) (λd M' e=>λv H' x rm rd=>?_) h⟩
 ·rcases F with(z|⟨o,z⟩)|z
  ·rcases B a with q|⟨o,xs,q⟩
   ·rw[z]at q;cases q
   ·rw[z]at q;cases q
  ·exact .inl ⟨o,z⟩
  ·exact .inr z
 ·subst e;exact TM.mp rd
end
theorem fP(us:List hH)(h:us.length=1):∃a,us=[a]:=List.length_eq_one_iff.mp h
theorem aW(us:List hH)(h:us.length=2):∃a b,us=[a,b]:=by
 cases us with
 |nil=>cases h
 |cons a us=>obtain⟨b,rfl⟩:=fP us (Nat.succ.inj h);exact⟨a,b,rfl⟩
theorem bV(us:List hH)(h:us.length=3):∃a b c,us=[a,b,c]:=by
 cases us with
 |nil=>cases h
 |cons a us=>obtain⟨b,c,rfl⟩:=aW us (Nat.succ.inj h);exact⟨a,b,c,rfl⟩
theorem yM(us:List hH)(h:us.length=4):∃a b c d,us=[a,b,c,d]:=by
 cases us with
 |nil=>cases h
 |cons a us=>obtain⟨b,c,d,rfl⟩:=bV us (Nat.succ.inj h);exact⟨a,b,c,d,rfl⟩
end
variable{b d:Ub}{l v u:List Int}{ts:List (List Int)}{m P L0 L1 L2:Nat}{j i c:Int}{s:Stmt}{T:List FD}{ds xs:List D}{M M' M'':Mem}{Q:QD}{ρ:ar}{Φ:Phi}{kvs:List (D×D)}{A B:List (Nat->Int)}{o:O}{E:bv}{zs:List (Int×Int)}{base:List (Nat×List Int)}
section
theorem Cd{k:Nat}{d:FD}(e:T[f]?=Z d)(l:ds.length=d.np)(r:eY d.N ds=ρ)(h:wSs (phi T k) d.body {nx:=λ_ M'=>Q .non M',rt:=Q} ρ M):phi T (k+1) f ds M Q:=⟨d,e,l,by rw[r];exact h⟩
theorem al{n:Nat}{d:FD}(j:1<=n)(e:T[f]?=Z d)(l:ds.length=d.np)(r:eY d.N ds=ρ)(h:wSs (phi T (n-1)) d.body {nx:=λ_ M'=>Q .non M',rt:=Q} ρ M):phi T n f ds M Q:=by
 obtain⟨k,rfl⟩:∃k,n=k+1:=⟨n-1,∅⟩
 exact Cd e l r h
theorem EN{D:bv}:wSs Φ .nil D ρ M=D.nx ρ M:=by rw[wSs];rfl
theorem cw{s:MS}{r:MSs}{D:bv}:wSs Φ (.cons s r) D ρ M=wS Φ s {D with nx:=wSs Φ r D} ρ M:=by rw[wSs];rfl
theorem EO{y:D}:wIx (.tup ds) y M Q=∃i d,y=.int i/\atI ds i=Z d/\Q d M:=rfl
theorem EQ{y:D}:wIx (.con ds) y M Q=∃i d,y=.int i/\atI ds i=Z d/\Q d M:=rfl
theorem aK{d:D}(h:M a=Z (.lst ds))(e:atI ds i=Z d)(q:Q d M):wIx (.ref a) (.int i) M Q:=.inl ⟨ds,i,d,h,rfl,e,q⟩
theorem bC{v:D}{j:Nat}{Q:Mem->Prop}(h:M a=Z (.lst ds))(e:ixN ds.length i=Z j)(q:Q (ah M a (.lst (ds.set j v)))):gT (.ref a) (.int i) v M Q:=⟨a,rfl,.inl ⟨ds,i,j,rfl,h,e,q⟩⟩
theorem Ai(h:M a=Z (.lst ds))(q:Q (.int ds.length) M):fE [.ref a] M Q:=⟨_,_,rfl,by simp only[iH,h],q⟩
theorem ab(h:M a=Z (.lst ds)):aR M (.ref a)=Z ds:=by simp only[aR,h]
theorem Fu:jY [.int i] M Q=Q (.int i) M:=by
 apply propext;constructor
 ·rintro(⟨j,e,q⟩|⟨k,e,q⟩)
  ·cases e;exact q
  ·cases e
 ·exactλq=>.inl ⟨i,rfl,q⟩
theorem Fv{b:Bool}:jY [.bl b] M Q=Q (.int (if b then 1 else 0)) M:=by
 apply propext;constructor
 ·rintro(⟨j,e,q⟩|⟨k,e,q⟩)
  ·cases e
  ·cases e;exact q
 ·exactλq=>.inr ⟨b,rfl,q⟩
theorem Gm:wEq (.int i) (.int j) M Q=Q (.bl (i==j)) M:=by simp[wEq,rb,Km]
theorem Gn:wNe (.int i) (.int j) M Q=Q (.bl (!(i==j))) M:=by simp[wNe,rb,Km]
theorem Fw:dS (.int i) (.int j) M Q=Q (.int (i+j)) M:=rfl
theorem Fx{a b:List D}:dS (.tup a) (.tup b) M Q=((a≠[]∨True)/\a.length+b.length<=J9/\Q (.tup (a++b)) M):=rfl
theorem Fy:jU (.int i) (.int j) M Q=Q (.int (i-j)) M:=rfl
theorem Fz:eN (.int i) (.int j) M Q=(MulOk i j/\Q (.int (i*j)) M):=rfl
theorem FA{k:Int}:eN (.tup ds) (.int k) M Q=(-(2^63)<=k/\k<2^63/\ds.length*k.toNat<=J9/\Q (.tup (IY k.toNat ds).flatten) M):=rfl
theorem ER:jh (.int i) (.int j) M Q=(0<j/\j<2^256/\Q (.int (i / j)) M):=rfl
theorem FB:gb (.int i) (.int j) M Q=(0<j/\Q (.int (i%j)) M):=rfl
theorem FC:nj (.int i) (.int j) M Q=(0<=j/\j<=1000000/\i.natAbs<2^64/\Q (.int (i^j.toNat)) M):=rfl
theorem Go:wLt (.int i) (.int j) M Q=Q (.bl (decide (i<j))) M:=rfl
theorem Gp:wLe (.int i) (.int j) M Q=Q (.bl (decide (i<=j))) M:=rfl
theorem DD:wGt (.int i) (.int j) M Q=Q (.bl (decide (j<i))) M:=rfl
theorem Gq:wGe (.int i) (.int j) M Q=Q (.bl (decide (j<=i))) M:=rfl
theorem ES:jr (.int i) (.int j) M Q=Q (.int (i+j)) M:=rfl
theorem ET:jt (.int i) (.int j) M Q=Q (.int (i-j)) M:=rfl
theorem EU:ju (.int i) (.int j) M Q=(MulOk i j/\Q (.int (i*j)) M):=rfl
theorem FE:nk (.int i) M Q=Q (.int (-i)) M:=rfl
theorem FF:jX [.int i] M Q=Q (.int (if i<0 then -i else i)) M:=by simp[jX]
theorem EV:ji [.int i,.int j] M Q=Q (.int (if j > i then j else i)) M:=by
 apply propext;constructor
 ·rintro⟨a,b,e,q⟩;cases e;exact q
 ·exactλq=>⟨i,j,rfl,q⟩
theorem EW:jj [.int i,.int j] M Q=Q (.int (if j<i then j else i)) M:=by
 apply propext;constructor
 ·rintro⟨a,b,e,q⟩;cases e;exact q
 ·exactλq=>⟨i,j,rfl,q⟩
theorem FG:fE [.con ds] M Q=Q (.int ds.length) M:=by simp[fE,iH]
theorem FH:fE [.tup ds] M Q=Q (.int ds.length) M:=by simp[fE,iH]
theorem FI:aR M (.tup ds)=Z ds:=rfl
theorem FJ:aR M (.con ds)=Z ds:=rfl
theorem Gr{α:Sort _}{a b:α}:(if N2=N2 then a else b)=a:=rfl
theorem Gs{α:Sort _}{a b:α}:(if Ua=N2 then a else b)=b:=rfl
theorem EX{ta tb:TEd}{R:List D->(Mem->Prop)->Mem->Prop}:jZ ta tb ρ M R=ta ρ M λx j=>tb ρ j λy M2=>∃xs ys,aR M2 x=Z xs/\aR M2 y=Z ys/\R (MZ fH xs ys) (λM=>aR M x=Z xs/\aR M y=Z ys) M2:=by
 unfold jZ aN;congr 1;funext x j;unfold bF;congr 1;funext y M2;apply propext;constructor
 ·rintro⟨x',y',xs,ys,e,q⟩
  cases e;exact⟨xs,ys,q⟩
 ·rintro⟨xs,ys,q⟩;exact⟨x,y,xs,ys,rfl,q⟩
theorem FK{y:Str}:dS (.str x) (.str y) M Q=(x.length+y.length<=J9/\Q (.str (x++y)) M):=rfl
theorem FL{i}:wE Φ (.var i)=aY i:=rfl
theorem FM{i}:wE Φ (.int i)=wC (.int i):=rfl
theorem Gu{b}:wE Φ (.bl b)=wC (.bl b):=rfl
theorem FN:wE Φ (.non)=wC .non:=rfl
theorem FO{x}:wE Φ (.str x)=wC (.str x):=rfl
theorem FP{op}{a}{b}:wE Φ (.bin op a b)=wOp (opB op) (wE Φ a) (wE Φ b):=rfl
theorem FQ{a}:wE Φ (.neg a)=wUn nk (wE Φ a):=rfl
theorem FR{op}{a}{b}:wE Φ (.cmp op a b)=wOp (opC op) (wE Φ a) (wE Φ b):=rfl
theorem FS{es}:wE Φ (.and es)=wAnds Φ es:=rfl
theorem Gv{es}:wE Φ (.or es)=wOrs Φ es:=rfl
theorem FT{a}:wE Φ (.not a)=mm (wE Φ a):=rfl
theorem FU{c}{a}{b}:wE Φ (.ite c a b)=wIf (wT Φ c) (wE Φ a) (wE Φ b):=rfl
theorem FV{es}:wE Φ (.tup es)=wAr nh (wA Φ es):=rfl
theorem FW{es}:wE Φ (.lst es)=wAr rG (wA Φ es):=rfl
theorem Gw{a}{b}:wE Φ (.ix a b)=wOp wIx (wE Φ a) (wE Φ b):=rfl
theorem Gx{a}{lo}{hi}:wE Φ (.sl a lo hi)=wSl (wE Φ a) (wO Φ lo) (wO Φ hi):=rfl
theorem EY{f}{es}:wE Φ (.call f es)=wAr (Φ f) (wA Φ es):=rfl
theorem FX{f}{es}:wE Φ (.blt f es)=wAr (opF f) (wA Φ es):=rfl
theorem EZ{j}{d}:wE Φ (.glob j d)=wC d:=rfl
theorem F1{t}:wE Φ (.dnew t)=mF t:=rfl
theorem Gy{k}{v}:wE Φ (.d1 k v)=wD1 (wE Φ k) (wE Φ v):=rfl
theorem F3{o}{k}{x}:wE Φ (.dget o k x)=mG (wE Φ o) (wE Φ k) (wE Φ x):=rfl
theorem F4{m}{o}{a}:wE Φ (.meth m o a)=wBM (opM m) (wE Φ o) (aN (wE Φ a) bF):=rfl
theorem F5{fr}{j}{c}:wE Φ (.comp fr j c)=wCmp Φ fr c:=rfl
theorem F6:wA Φ (.nil)=bF:=rfl
theorem Ew{e}{r}:wA Φ (.cons e r)=aN (wE Φ e) (wA Φ r):=rfl
theorem Ex:wTl Φ (.nil)=[]:=rfl
theorem DT{t}{r}:wTl Φ (.cons t r)=wT Φ t::wTl Φ r:=rfl
theorem FY{e}:wI Φ (.seq e)=rQ (wE Φ e):=rfl
theorem F7{a}:wI Φ (.rng1 a)=mq (aN (wE Φ a) bF):=rfl
theorem F8{a}{b}:wI Φ (.rng2 a b)=mw (aN (wE Φ a) (aN (wE Φ b) bF)):=rfl
theorem FZ{a}{b}:wI Φ (.zip a b)=jZ (wE Φ a) (wE Φ b):=rfl
theorem F9{a}:wI Φ (.enum a)=mz (wE Φ a):=rfl
theorem Fa{a}:wI Φ (.keys a)=mJ (wE Φ a):=rfl
theorem DU{src}{g}{ifs}{elt}:wCl Φ (.last src g ifs elt)=dE (wI Φ src) (bG g) (bu (wTl Φ ifs) (bJ (wE Φ elt))):=rfl
theorem DV{src}{g}{ifs}{rest}:wCl Φ (.more src g ifs rest)=dE (wI Φ src) (bG g) (bu (wTl Φ ifs) (wCl Φ rest)):=rfl
theorem DE{src}{g}{ifs}{elt}:wCmp Φ fr (.last src g ifs elt)=gS fr (wI Φ src) (bG g) (bu (wTl Φ ifs) (bJ (wE Φ elt))):=rfl
theorem DG{src}{g}{ifs}{rest}:wCmp Φ fr (.more src g ifs rest)=gS fr (wI Φ src) (bG g) (bu (wTl Φ ifs) (wCl Φ rest)):=rfl
theorem G0{g}{e}:wS Φ (.asg g e)=kc (wE Φ e) (bG g):=rfl
theorem G1{i}{j}{a}{b}:wS Φ (.par i j a b)=rS (aN (wE Φ a) (aN (wE Φ b) bF)) (bI (be i) (bI (be j) fG)):=rfl
theorem G2{o}{i}{e}:wS Φ (.put o i e)=rZ (wE Φ e) (wE Φ o) (wE Φ i):=rfl
theorem G3{i}{op}{e}:wS Φ (.aug i op e)=s9 i (opI op) (wE Φ e):=rfl
theorem Fb{e}:wS Φ (.drop e)=mD (wE Φ e):=rfl
theorem G4{e}:wS Φ (.ret e)=rR (wE Φ e):=rfl
theorem G5{c}{a}{b}:wS Φ (.ite c a b)=sIf (wT Φ c) (wSs Φ a) (wSs Φ b):=rfl
theorem G6{g}{src}{b}:wS Φ (.for g src b)=rT (wI Φ src) (bG g) (wSs Φ b):=rfl
theorem Ey{c}{b}:wS Φ (.while c b)=jq (wT Φ c) (wSs Φ b):=rfl
theorem G7{i}{s}:wS Φ (.frz i s)=iM i (wS Φ s):=rfl
theorem Fc:wS Φ (.pass)=jn:=rfl
theorem G8:wS Φ (.brk)=jo:=rfl
theorem G9:wS Φ (.cnt)=mC:=rfl
theorem Ga{e}:wT Φ (.tru e)=rM (wE Φ e):=rfl
theorem Gb{op}{a}{b}:wT Φ (.cmp op a b)=iF (wOp (opC op) (wE Φ a) (wE Φ b)):=rfl
theorem Gc{ts}:wT Φ (.and ts)=wAndTs Φ ts:=rfl
theorem Gz{ts}:wT Φ (.or ts)=wOrTs Φ ts:=rfl
theorem Gd{t}:wT Φ (.not t)=md (wT Φ t):=rfl
theorem CL:wAndTs Φ (.nil)=λ_ _ _=>False:=rfl
theorem Ce{e}:wAndTs Φ (.cons e .nil)=wT Φ e:=rfl
theorem Cf{e}{f}{r}:wAndTs Φ (.cons e (.cons f r))=mf (wT Φ e) (wAndTs Φ (.cons f r)):=rfl
theorem DH:wOrTs Φ (.nil)=λ_ _ _=>False:=rfl
theorem CM{e}:wOrTs Φ (.cons e .nil)=wT Φ e:=rfl
theorem CN{e}{f}{r}:wOrTs Φ (.cons e (.cons f r))=rN (wT Φ e) (wOrTs Φ (.cons f r)):=rfl
theorem DI:wAnds Φ (.nil)=λ_ _ _=>False:=rfl
theorem CO{e}:wAnds Φ (.cons e .nil)=wE Φ e:=rfl
theorem CP{e}{f}{r}:wAnds Φ (.cons e (.cons f r))=mj (wE Φ e) (wAnds Φ (.cons f r)):=rfl
theorem DW:wOrs Φ (.nil)=λ_ _ _=>False:=rfl
theorem DJ{e}:wOrs Φ (.cons e .nil)=wE Φ e:=rfl
theorem DK{e}{f}{r}:wOrs Φ (.cons e (.cons f r))=rO (wE Φ e) (wOrs Φ (.cons f r)):=rfl
theorem Ez{i}:bG (.name i)=be i:=rfl
theorem Fd{gs}:bG (.tup gs)=nF (bGs gs):=rfl
theorem EA:bGs (.nil)=fG:=rfl
theorem DX{g}{r}:bGs (.cons g r)=bI (bG g) (bGs r):=rfl
theorem EB:wO Φ (.none)=gO:=rfl
theorem EC{e}:wO Φ (.some e)=mn (wE Φ e):=rfl
theorem Fe:opB (.add)=dS:=rfl
theorem Ff:opB (.sub)=jU:=rfl
theorem Fg:opB (.mul)=eN:=rfl
theorem ED:opB (.fdiv)=jh:=rfl
theorem Fh:opB (.mod)=gb:=rfl
theorem Fi:opB (.pow)=nj:=rfl
theorem Gf:opC (.eq)=wEq:=rfl
theorem Gg:opC (.ne)=wNe:=rfl
theorem Gh:opC (.lt)=wLt:=rfl
theorem Gi:opC (.le)=wLe:=rfl
theorem Gj:opC (.gt)=wGt:=rfl
theorem Gk:opC (.ge)=wGe:=rfl
theorem Fj:opC (.eqD)=sr:=rfl
theorem Fk:opC (.inD)=iN Ua:=rfl
theorem EE:opC (.ninD)=iN N2:=rfl
theorem Fl:opF (.len)=fE:=rfl
theorem EF:opF (.lenT)=mK:=rfl
theorem Fm:opF (.abs)=jX:=rfl
theorem EG:opF (.max2)=ji:=rfl
theorem EH:opF (.min2)=jj:=rfl
theorem Fn:opF (.int)=jY:=rfl
theorem EI:opF (.list)=m9:=rfl
theorem DY:opF (.tuple)=gc:=rfl
theorem Fo:opF (.any)=se:=rfl
theorem EJ:opF (.dict)=mH:=rfl
theorem DZ:opF (.sortk)=jC:=rfl
theorem DL:opM (.append)=gP:=rfl
theorem DM:opM (.extend)=gQ:=rfl
theorem Fp:opI (.add)=jr:=rfl
theorem Fq:opI (.sub)=jt:=rfl
theorem Fr:opI (.mul)=ju:=rfl
local macro_rules|`(tactic| ac_nf)=>do
 let f:=fun(n:Lean.Name)(s:String)=>(s.splitOn " ").toArray.map fun x=>(⟨(Lean.mkIdent (n++x.toName)).raw⟩:Lean.Term)
 let a:=f `_root_.L2.Mi "rE aY wC wOp wUn bF aN wAr iF nh rG rM md mf rN mj rO mm wIf gO mn wSl wBM be fG bI nF rQ mq mw mz bJ bu dE gS jn wX jo mC mD rR sIf kc rS rT jq rZ s9 mF mG mJ wD1 EN EO EQ Fu Fv Gm Gn Fw Fx Fy Fz FA ER FB FC Go Gp DD Gq ES ET EU FE FF EV EW FG FH FI FJ Gr Gs EX FK FL FM Gu FN FO FP FQ FR FS Gv FT FU FV FW Gw Gx EY FX EZ F1 Gy F3 F4 F5 F6 Ew Ex DT FY F7 F8 FZ F9 Fa DU DV DE DG G0 G1 G2 G3 Fb G4 G5 G6 Ey G7 Fc G8 G9 Ga Gb Gc Gz Gd CL Ce Cf DH CM CN DI CO CP DW DJ DK Ez Fd EA DX EB EC Fe Ff Fg ED Fh Fi Gf Gg Gh Gi Gj Gk Fj Fk EE Fl EF Fm EG EH Fn EI DY Fo EJ DZ DL DM Fp Fq Fr"
 let b1:=a++f .anonymous "Q4 LU RF RG Ol N7 Sv Sw Sy Jr Kx Jw Mp"
 let b2:=a++f .anonymous "Ld if_false if_true Q4 LU RF RG RZ exists_eq_left' exists_eq_left exists_eq_right exists_and_left exists_and_right D.bl.injEq D.int.injEq D.ref.injEq D.tup.injEq Ol N7 Sv Sw Sy Jr Kx decide_eq_true_eq SX and_true true_and Jw Mp"
 `(tactic| ((try dsimp only[$[$b1:term],*]);(try simp only[$[$b2:term],*])))
local macro_rules|`(tactic| nofun)=>`(tactic| ((first|rw[cw]|(dsimp only;rw[cw]));ac_nf))
theorem jI{k d:D}(h:M a=Z (.fdc kvs))(ok:bK k=N2)(e:dget kvs k=Z d)(q:Q d M):wIx (.ref a) k M Q:=.inr (.inr ⟨kvs,d,h,ok,e,q⟩)
theorem km{i:Nat}{t:TSd}{A:bv}(e:ρ[i]?=Z (Z (.ref a)))(m:M a=Z (.dct N2 kvs))(h:t A ρ (ah M a (.fdc kvs))):iM i t A ρ M:=⟨a,kvs,e,.inl ⟨m,h⟩⟩
theorem Aj{i:Nat}{t:TSd}{A:bv}(e:ρ[i]?=Z (Z (.ref a)))(m:M a=Z (.fdc kvs))(h:t A ρ M):iM i t A ρ M:=⟨a,kvs,e,.inr ⟨m,h⟩⟩
theorem oE{t:Bool}{k v:D}{Q:Mem->Prop}(h:M a=Z (.dct t kvs))(ok:fC t k=N2)(j:kvs.length<J9)(q:Q (ah M a (.dct t (bX kvs k v)))):gT (.ref a) k v M Q:=⟨a,rfl,.inr ⟨t,kvs,h,ok,j,q⟩⟩
theorem lK{o':O}:ah (ah M a o) a o'=ah M a o':=by funext b;unfold ah;split<;>rfl
def Ge(M M':Mem):Prop:=∀a o,M a=Z o->M' a=Z o
theorem Ge.refl:Ge M M:=λ_ _ h=>h
theorem Ge.trans(h:Ge M M')(g:Ge M' M''):Ge M M'':=λ_ _ e=>g _ _ (h _ _ e)
theorem Ge.new{p:Ub}(h:M p=Y):Ge M (ah M p o):=λa o' e=>by rw[au (λz=>by rw[z,h]at e;cases e)];exact e
def Box(b:Ub)(M:Mem):Prop:=∃x y z:Int,M b=Z (.lst [.int x,.int y,.int z])
structure Bx(b:Ub)(M M':Mem):Prop where
 box:Box b M'
 keep:∀a o,a≠b->M a=Z o->M' a=Z o
theorem Bx.refl(h:Box b M):Bx b M M:=⟨h,λ_ _ _ e=>e⟩
theorem Bx.trans(h:Bx b M M')(g:Bx b M' M''):Bx b M M'':=⟨g.box,λa o n e=>g.keep a o n (h.keep a o n e)⟩
theorem Bx.ge(h:Bx b M M')(g:Ge M' M''):Bx b M M'':=⟨by obtain⟨x,y,z,e⟩:=h.box;exact⟨x,y,z,g _ _ e⟩,λa o n e=>g _ _ (h.keep a o n e)⟩
theorem Bx.put{x y z:Int}:Bx b M (ah M b (.lst [.int x,.int y,.int z])):=⟨⟨x,y,z,aa⟩,λa o n e=>by rw[au n];exact e⟩
theorem Bx.of(h:Box b M)(g:Ge M M'):Bx b M M':=(Bx.refl h).ge g
theorem v7{b:BT}{chk:Mem->Prop}{N:NC}(I:List D->ar->Mem->List D->Prop){acc:List D}(h0:I [] ρ M acc)(q:∀l ρ M acc,I l ρ M acc->chk M)(hs:∀l x r ρ M acc,xs=l++x::r->I l ρ M acc->∃ρ',b x ρ=Z ρ'/\∀N':NC,(∀ρ2 M2 j,I (l++[x]) ρ2 M2 j->N' ρ2 M2 j)->tb ρ' M acc N')(z:∀ρ M acc,I xs ρ M acc->N ρ M acc):bf b tb chk N xs ρ M acc:=by
 have g:∀(r l:List D) (ρ:ar) (M:Mem) (acc:List D),xs=l++r->I l ρ M acc->bf b tb chk N r ρ M acc:=by
  intro r
  induction r with
  |nil=>intro l ρ M acc e i;rw[K9]at e;subst e;exact⟨q _ _ _ _ i,z _ _ _ i⟩
  |cons x r ih=>intro l ρ M acc e i;obtain⟨ρ',B,h⟩:=hs l x r ρ M acc e i;exact⟨q _ _ _ _ i,ρ',B,h _ λρ2 M2 j F=>ih (l++[x]) ρ2 M2 j (by rw[e];simp) F⟩
 exact g xs [] ρ M acc rfl h0
theorem xP{b:BT}{tb:TSd}{chk:Mem->Prop}(I:List D->ar->Mem->Prop)(h0:I [] ρ M)(j:∀l ρ M,I l ρ M->chk M)(hs:∀l x r ρ M,xs=l++x::r->I l ρ M->∃ρ',b x ρ=Z ρ'/\∀F:ar->Mem->Prop,(∀ρ2 M2,I (l++[x]) ρ2 M2->F ρ2 M2)->tb {E with nx:=F,ct:=F,bk:=E.nx} ρ' M)(q:∀ρ M,I xs ρ M->E.nx ρ M):bO b tb chk E xs ρ M:=by
 have g:∀(r l:List D) (ρ:ar) (M:Mem),xs=l++r->I l ρ M->bO b tb chk E r ρ M:=by
  intro r
  induction r with
  |nil=>intro l ρ M e i;rw[K9]at e;subst e;exact⟨j _ _ _ i,q _ _ i⟩
  |cons x r ih=>intro l ρ M e i;obtain⟨ρ',z,h⟩:=hs l x r ρ M e i;exact⟨j _ _ _ i,ρ',z,h _ λρ2 M2 B=>ih (l++[x]) ρ2 M2 (by rw[e];simp) B⟩
 exact g xs [] ρ M rfl h0
section
variable{T:List FD}
noncomputable def jJ(s:Stmt):FD:=⟨"_law_cell_at",s,["_law_script","_law_k"],2,
 (.cons (.ite (.cmp .lt (.var 1) (.blt .len (.cons (.var 0) .nil))) (.cons (.ret (.ix (.var 0) (.var 1)))
 .nil) .nil)
 (.cons (.ret (.int 0))
 .nil))⟩
theorem oF{α:Type}{xs:List α}(h0:0<=i)(h1:i<xs.length):∃x,atI xs i=Z x/\xs[i.toNat]?=Z x:=by
 have:i.toNat<xs.length:=∅
 refine⟨xs[i.toNat],?_,z4 this⟩;unfold atI ixN;simp[h0,h1,z4 this]
theorem Ak(hf:T[f]?=Z (jJ s)){n:Nat}(z:1<=n){k:Int}(h0:0<=k)(q:∀i,Q (.int i) M):phi T n f [.con (ns.map D.int),.int k] M Q:=by
 refine al z hf rfl (ρ:=[Z _,Z _]) rfl ?_;unfold jJ;nofun
 split
 ·next h=>
  nofun;obtain⟨x,e,j⟩:=oF (xs:=ns.map D.int) h0 h;rw[Jj]at j
  cases e3:ns[k.toNat]? with
  |none=>rw[e3]at j;cases j
  |some y=>rw[e3]at j;cases j;exact⟨_,e,q y⟩
 ·nofun;exact q 0
theorem cL(h:-(2^64)<i/\i<2^64):MulOk i j:=.inl h
theorem eP(h:-(2^64)<j/\j<2^64):MulOk i j:=.inr (.inl h)
noncomputable def kn(s:Stmt):FD:=⟨"_law_mixed",s,["_law_number_here","_law_k","_law_once","_law_twice"],2,
 (.cons (.asg (.name 2) (.bin .mod (.bin .mul (.bin .add (.bin .add (.bin .mod (.var 0) (.int 1000000007)) (.bin .mul (.int 7) (.var 1))) (.int 1)) (.int 48271)) (.int 2147483647)))
 (.cons (.asg (.name 3) (.bin .mod (.bin .mul (.var 2) (.bin .add (.bin .add (.bin .mod (.var 2) (.int 1009)) (.var 1)) (.int 3))) (.int 998244353)))
 (.cons (.ret (.bin .fdiv (.bin .mod (.bin .add (.bin .mul (.var 3) (.int 39373)) (.var 2)) (.int 2147483629)) (.int 64)))
 .nil)))⟩
noncomputable def sN(s:Stmt)(fc fm:Nat):FD:=⟨"_law_box",s,["_law_script","_law_k","_law_cell"],2,
 (.cons (.asg (.name 2) (.call fc (.cons (.var 0) (.cons (.var 1) .nil))))
 (.cons (.ret (.lst (.cons (.bin .mul (.blt .abs (.cons (.var 2) .nil)) (.blt .int (.cons (.cmp .ge (.blt .abs (.cons (.var 2) .nil)) (.bin .pow (.int 10) (.int 18))) .nil))) (.cons (.call fm (.cons (.var 2) (.cons (.bin .add (.int 900) (.var 1)) .nil))) (.cons (.int 0) .nil)))))
 .nil))⟩
theorem Cg{fc fm:Nat}{sc:Stmt}(hf:T[f]?=Z (sN s fc fm))(z:T[fc]?=Z (jJ sc)){n:Nat}(B:∀{x k:Int} {M:Mem} {Q:QD},(∀i,Q (.int i) M)->phi T (n-1) fm [.int x,.int k] M Q)(G:2<=n){k:Int}(h0:0<=k)(q:∀p x y,M p=Y->Q (.ref p) (ah M p (.lst [.int x,.int y,.int 0]))):phi T n f [.con (ns.map D.int),.int k] M Q:=by
 refine al ∅ hf rfl (ρ:=[Z _,Z _,Y]) rfl ?_
 unfold sN;nofun;refine Ak z ∅ h0 λi=>?_
 nofun;refine⟨by decide,by decide,by decide,eP ?_,?_⟩
 ·split<;>lia
 refine B λj=>?_;exact⟨by rw[r4];lia,λp F=>q p _ _ F⟩
noncomputable def oG(s:Stmt)(fm:Nat):FD:=⟨"_law_take",s,["_law_box_here","_law_many","_law_found","_law_reach"],2,
 (.cons (.ite (.cmp .gt (.ix (.var 0) (.int 0)) (.int 0)) (.cons (.asg (.name 2) (.bin .mod (.ix (.var 0) (.int 0)) (.var 1)))
 (.cons (.put (.var 0) (.int 0) (.bin .fdiv (.ix (.var 0) (.int 0)) (.var 1)))
 (.cons (.ret (.var 2))
 .nil))) .nil)
 (.cons (.asg (.tup (.cons (.name 2) (.cons (.name 3) .nil))) (.tup (.cons (.int 0) (.cons (.int 1) .nil))))
 (.cons (.while (.cmp .lt (.var 3) (.var 1)) (.cons (.put (.var 0) (.int 2) (.bin .add (.ix (.var 0) (.int 2)) (.int 1)))
 (.cons (.asg (.name 2) (.bin .add (.bin .mul (.var 2) (.int 33554432)) (.call fm (.cons (.ix (.var 0) (.int 1)) (.cons (.ix (.var 0) (.int 2)) .nil)))))
 (.cons (.asg (.name 3) (.bin .mul (.var 3) (.int 33554432)))
 .nil))))
 (.cons (.ret (.bin .mod (.var 2) (.var 1)))
 .nil))))⟩
def sP(T:List FD)(n fm:Nat):Prop:=∀{x k:Int} {M:Mem} {Q:QD},(∀i,Q (.int i) M)->phi T n fm [.int x,.int k] M Q
theorem Al{fm:Nat}(hf:T[f]?=Z (oG s fm)){n:Nat}(J:sP T (n-1) fm)(O:2<=n){m:Int}(L:Box b M)(h1:0<m)(h2:m<=2^120)(q:∀r M',0<=r->r<m->Bx b M M'->Q (.int r) M'):phi T n f [.ref b,.int m] M Q:=by
 refine al ∅ hf rfl (ρ:=[Z _,Z _,Y,Y]) rfl ?_
 unfold oG;obtain⟨x,y,z,G⟩:=L;nofun;refine aK G (d:=.int x) rfl ?_;simp only[DD];ac_nf
 split
 ·next hx=>
  nofun;refine aK G (d:=.int x) rfl ?_;ac_nf;refine⟨h1,?_⟩;nofun;refine aK G (d:=.int x) rfl ?_;ac_nf;refine⟨h1,∅,?_⟩
  refine bC G (j:=0) rfl ?_;nofun;exact q _ _ (KL _ ∅) (Kb _ h1) Bx.put
 ·next hx=>
  nofun;refine⟨by rw[r4];lia,?_⟩
  nofun;refine⟨6,?_⟩;have go:∀(f:Nat) (found reach z:Int) (M':Mem),m<=reach*33554432^f->M' b=Z (.lst [.int x,.int y,.int z])->Bx b M M'->
   aS (iF (wOp wLt (aY 3) (aY 1))) (wSs (phi T (n-1)) (MSs.cons (MS.put (ME.var 0) (ME.int 2) (ME.bin BOp.add ((ME.var 0).ix (ME.int 2)) (ME.int 1)))
    (MSs.cons (MS.asg (MG.name 2) (ME.bin BOp.add (ME.bin BOp.mul (ME.var 2) (ME.int 33554432)) (ME.call fm (MEs.cons ((ME.var 0).ix (ME.int 1)) (MEs.cons ((ME.var 0).ix (ME.int 2)) MEs.nil)))))
      (MSs.cons (MS.asg (MG.name 3) (ME.bin BOp.mul (ME.var 3) (ME.int 33554432))) MSs.nil))))
    {nx:=wSs (phi T (n-1)) (MSs.cons (MS.ret (ME.bin BOp.mod (ME.var 2) (ME.var 1))) MSs.nil) {nx:=λx M'=>Q D.non M',rt:=Q},rt:=Q} (f+1) [Z (.ref b),Z (.int m),Z (.int found),Z (.int reach)] M':=by
   intro f
   induction f with
   |zero=>
    intro found reach z M' hm F B;simp only[aS];ac_nf;rw[if_neg ∅]
    nofun;exact⟨h1,q _ _ (KL _ ∅) (Kb _ h1) B⟩
   |succ f ih=>
    intro found reach z M' hm F B;rw[aS];ac_nf
    split
    ·next U=>
     nofun;refine aK F (d:=.int z) rfl ?_;ac_nf;refine bC F (j:=2) rfl ?_;nofun;refine⟨eP (by decide),?_⟩
     refine aK aa (d:=.int y) rfl ?_;refine aK aa (d:=.int (z+1)) rfl ?_;refine J λi=>?_;ac_nf;nofun;refine⟨eP (by decide),?_⟩
     exact ih _ _ (z+1) _ (by rw[Ro,<-Int.pow_succ'];exact hm) aa (B.trans Bx.put)
    ·nofun;exact⟨h1,q _ _ (KL _ ∅) (Kb _ h1) B⟩
  exact go 5 0 1 z M ∅ G (Bx.refl ⟨x,y,z,G⟩)
def v8(T:List FD)(n f:Nat):Prop:=∀{b:Ub} {m:Int} {M:Mem} {Q:QD},Box b M->0<m->m<=2^120->(∀r M',0<=r->r<m->Bx b M M'->Q (.int r) M')->phi T n f [.ref b,.int m] M Q
end
section
variable{T:List FD}
def oH(T:List FD)(n f:Nat):Prop:=∀{b:Ub} {M:Mem} {Q:QD},Box b M->(∀r M',-1000<=r->r<=1000->Bx b M M'->Q (.int r) M')->phi T n f [.ref b] M Q
def eL(ns:List Int):Prop:=∀x∈ns,-1000<=x/\x<=1000
theorem dz{lo:Int}{n:Nat}:(bZ lo n).length=n:=by simp[bZ]
theorem ag{α:Type}{xs l r:List α}{x:α}(e:xs=l++x::r):l.length<xs.length:=by rw[e];simp
noncomputable def oI(s:Stmt)(fn:Nat):FD:=⟨"_law_part",s,["_law_box_here","_law_length"],2,
 (.cons (.ret (.blt .tuple (.cons (.comp [Y,(Z 0)] ["_law_k","_law_box_here"] (.last (.rng1 (.var 1)) (.name 0) .nil (.call fn (.cons (.var 1) .nil)))) .nil)))
 .nil)⟩
theorem Am{fn:Nat}(hf:T[f]?=Z (oI s fn)){n:Nat}(B:oH T (n-1) fn)(F2:1<=n){L:Nat}(fv:L<=1000)(F:Box b M)(q:∀(ns:List Int) M',ns.length=L->eL ns->Bx b M M'->Q (.tup (ns.map .int)) M'):phi T n f [.ref b,.int L] M Q:=by
 refine al ∅ hf rfl (ρ:=[Z _,Z _]) rfl ?_
 unfold oI;nofun;refine⟨∅,∅,?_⟩
 refine v7 (I:=λl ρ M' acc=>∃(ns:List Int) (x:Option D),acc=ns.map .int/\ns.length=l.length/\eL ns/\Bx b M M'/\ρ=[x,Z (.ref b)]) ⟨[],Y,rfl,rfl,λ_ h=>by simp at h,Bx.refl F,rfl⟩ (λ_ _ _ _ _=>trivial) ?_ ?_
 ·rintro l x r ρ M1 acc e ⟨ns,o,rfl,j,hs,z,rfl⟩;refine⟨_,rfl,λN' G=>?_⟩;ac_nf;refine B z.box λv M2 h1 h2 J=>?_;have:=ag e;rw[dz]at this;refine⟨by rw[h7,j,r4];lia,G _ _ _ ⟨ns++[v],_,by simp,by simp[j],?_,z.trans J,rfl⟩⟩
  intro y O
  rcases Ja.mp O with h|h
  ·exact hs y h
  ·simp at h;subst h;exact⟨h1,h2⟩
 ·rintro ρ M1 acc ⟨ns,o,rfl,j,hs,z,rfl⟩ p U;rw[dz]at j;refine⟨_,ns.map .int,rfl,ab aa,q ns _ ∅ hs (z.ge (Ge.new U))⟩
noncomputable abbrev Pr:=List Int×List Int×List Int
noncomputable def prD(p:Pr):D:=.tup [.tup (p.1.map .int),.tup (p.2.1.map .int),.tup (p.2.2.map .int)]
noncomputable def xQ(p:Pr):KH:=.tuple [.tuple (p.1.map .int),.tuple (p.2.1.map .int),.tuple (p.2.2.map .int)]
structure oJ(L0 L1 L2:Nat)(p:Pr):Prop where
 l0:p.1.length=L0
 l1:p.2.1.length=L1
 l2:p.2.2.length=L2
 s0:eL p.1
 s1:eL p.2.1
 s2:eL p.2.2
theorem eZ{k:Nat}{M:Mem}:∀ns:List Int,aF (rb k M) (ns.map D.int)=Z (ns.map PyData.int)
 |[]=>rfl
 |x::r=>by
  have e:rb k M (.int x)=Z (.int x):=by cases k<;>rfl
  simp[aF,e,eZ r]
theorem DN{k:Nat}(p:Pr):rb (k+2) M (prD p)=Z (xQ p):=by simp[rb,prD,xQ,aF,eZ]
theorem v9{k:Nat}{M:Mem}:∀ps:List Pr,aF (rb (k+2) M) (ps.map prD)=Z (ps.map xQ)
 |[]=>rfl
 |p::r=>by simp[aF,DN,v9 r]
theorem jK{k:Nat}(h:M a=Z (.lst ds)):rb (k+1) M (.ref a)=(aF (rb k M) ds).map SJ:=by simp only[rb,h]
theorem oK{s:MS}{r:MSs}(I:ar->Mem->Prop)(h1:∀R:ar->Mem->Prop,(∀ρ M,I ρ M->R ρ M)->wS Φ s {E with nx:=R} ρ M)(h2:∀ρ M,I ρ M->wSs Φ r E ρ M):wSs Φ (.cons s r) E ρ M:=by rw[cw];exact h1 _ h2
theorem Bx.upd{q:Ub}(h:Bx b M M')(B:M q=Y)(j:q≠b):Bx b M (ah M' q o):=
 ⟨by obtain⟨x,y,z,e⟩:=h.box;exact⟨x,y,z,by rw[au j.symm];exact e⟩,fun u o' nu eu=>by rw[au (λz=>by rw[z,B]at eu;cases eu)];exact h.keep u o' nu eu⟩
theorem Bx.none{q:Ub}(h:Bx b M M')(z:M' q=Y)(j:q≠b):M q=Y:=by
 cases e:M q with
 |none=>rfl
 |some o=>rw[h.keep q o j e]at z;cases z
noncomputable def prL(p:Pr):List D:=[.tup (p.1.map .int),.tup (p.2.1.map .int),.tup (p.2.2.map .int)]
theorem gx{k:Nat}:eL (IY k 0):=λx h=>by rw[(List.mem_replicate.mp h).2];decide
theorem fQ{k:Nat}:(IY k [D.int 0]).flatten=(IY k (0:Int)).map D.int:=by
 induction k with
 |zero=>rfl
 |succ k ih=>rw[KR,Ko,ih];rfl
def va(T:List FD)(n f:Nat):Prop:=∀{b:Ub} {L:Nat} {M:Mem} {Q:QD},L<=1000->Box b M->(∀(ns:List Int) M',ns.length=L->eL ns->Bx b M M'->Q (.tup (ns.map .int)) M')->phi T n f [.ref b,.int L] M Q
end
section
theorem ak{α:Type}{f:α->D}{b:BT}{chk:Mem->Prop}{N:NC}(I:List α->ar->Mem->List D->Prop){ys:List α}(hx:xs=ys.map f){acc:List D}(h0:I [] ρ M acc)(q:∀l ρ M acc,I l ρ M acc->chk M)(hs:∀l x r ρ M acc,ys=l++x::r->I l ρ M acc->∃ρ',b (f x) ρ=Z ρ'/\∀N':NC,(∀ρ2 M2 j,I (l++[x]) ρ2 M2 j->N' ρ2 M2 j)->tb ρ' M acc N')(z:∀ρ M acc,I ys ρ M acc->N ρ M acc):bf b tb chk N xs ρ M acc:=by
 subst hx;have g:∀(r l:List α) (ρ:ar) (M:Mem) (acc:List D),ys=l++r->I l ρ M acc->bf b tb chk N (r.map f) ρ M acc:=by
  intro r
  induction r with
  |nil=>intro l ρ M acc e i;rw[K9]at e;subst e;exact⟨q _ _ _ _ i,z _ _ _ i⟩
  |cons x r ih=>intro l ρ M acc e i;obtain⟨ρ',B,h⟩:=hs l x r ρ M acc e i;exact⟨q _ _ _ _ i,ρ',B,h _ λρ2 M2 j F=>ih (l++[x]) ρ2 M2 j (by rw[e];simp) F⟩
 exact g ys [] ρ M acc rfl h0
theorem ao{α:Type}{f:α->D}{b:BT}{tb:TSd}{chk:Mem->Prop}(I:List α->ar->Mem->Prop){ys:List α}(hx:xs=ys.map f)(h0:I [] ρ M)(j:∀l ρ M,I l ρ M->chk M)(hs:∀l x r ρ M,ys=l++x::r->I l ρ M->∃ρ',b (f x) ρ=Z ρ'/\∀F:ar->Mem->Prop,(∀ρ2 M2,I (l++[x]) ρ2 M2->F ρ2 M2)->tb {E with nx:=F,ct:=F,bk:=E.nx} ρ' M)(q:∀ρ M,I ys ρ M->E.nx ρ M):bO b tb chk E xs ρ M:=by
 subst hx;have g:∀(r l:List α) (ρ:ar) (M:Mem),ys=l++r->I l ρ M->bO b tb chk E (r.map f) ρ M:=by
  intro r
  induction r with
  |nil=>intro l ρ M e i;rw[K9]at e;subst e;exact⟨j _ _ _ i,q _ _ i⟩
  |cons x r ih=>intro l ρ M e i;obtain⟨ρ',z,h⟩:=hs l x r ρ M e i;exact⟨j _ _ _ i,ρ',z,h _ λρ2 M2 B=>ih (l++[x]) ρ2 M2 (by rw[e];simp) B⟩
 exact g ys [] ρ M rfl h0
theorem ba{x:D}(h:aR M x=Z ds):iH M x=Z ds.length:=by
 cases x with
 |ref a=>
  simp only[aR]at h
  split at h
  ·next e=>cases h;simp only[iH,e]
  ·cases h
 |tup es=>cases h;rfl
 |con es=>cases h;rfl
 |_=>cases h
theorem bx{α:Type}{xs:List α}{k:Nat}{x:α}(h:xs[k]?=Z x):atI xs (k:Int)=Z x:=by
 have j:k<xs.length:=(J0.mp h).1;unfold atI ixN;rw[if_pos ∅,if_pos ∅]
 exact h
theorem av{n:Nat}:bZ 0 n=(J2 n).map λi=>D.int (i:Nat):=by simp[bZ]
end
section
variable{T:List FD}
def Big(ns:List Int):Prop:=∀x∈ns,-1000000000000<=x/\x<=1000000000000
end
section
variable{T:List FD}
noncomputable def oM(x:Str)(s:Stmt):FD:=⟨"_law_mixed",s,[x,"_law_k","_law_once","_law_twice"],2,(kn s).body⟩
theorem vc(hf:T[f]?=Z (oM x s)){n:Nat}(j:1<=n):sP T n f:=by
 intro x k M Q q;refine al j hf rfl (ρ:=[Z _,Z _,Y,Y]) rfl ?_;unfold oM kn;nofun;refine⟨by decide,cL (by decide),eP (by decide),by decide,?_⟩
 nofun;refine⟨by decide,cL ?_,by decide,?_⟩
 ·have h1:=KL ((x%1000000007+7*k+1)*48271) (b:=2147483647) (by decide)
  have h2:=Kb ((x%1000000007+7*k+1)*48271) (b:=2147483647) (by decide)
  lia
 nofun;refine⟨eP (by decide),by decide,by decide,by decide,?_⟩
 exact q _
end
section
open L2.Srt
variable{T:List FD}
noncomputable abbrev K3:=Int×Int×Int
noncomputable abbrev Tm:=K3×Int
noncomputable def k3D(k:K3):D:=.tup [.int k.1,.int k.2.1,.int k.2.2]
noncomputable def tmD(t:Tm):D:=.tup [.int t.1.1,.int t.1.2.1,.int t.1.2.2,.int t.2]
noncomputable def kcD(t:Tm):D×D:=(k3D t.1,.int t.2)
noncomputable def k3K(k:K3):Ky:=.tup [.int k.1,.int k.2.1,.int k.2.2]
def klt(a b:K3):Prop:=ltK (k3K a) (k3K b)=N2
theorem i5{a b:K3}(h:k3D a=k3D b):a=b:=by obtain⟨a1,a2,j⟩:=a;obtain⟨b1,b2,b3⟩:=b;simp[k3D]at h;simp[h]
theorem An{a b:K3}(h:k3K a=k3K b):a=b:=by obtain⟨a1,a2,j⟩:=a;obtain⟨b1,b2,b3⟩:=b;simp[k3K]at h;simp[h]
noncomputable def cf(ts:List Tm)(k:K3):Int:=((ts.filter λt=>decide (t.1=k)).map (·.2)).sum
theorem cF{k:K3}:cf [] k=0:=rfl
theorem aQ{t:Tm}{ts:List Tm}{k:K3}:cf (t::ts) k=(if t.1=k then t.2 else 0)+cf ts k:=by
 unfold cf
 by_cases h:t.1=k
 ·rw[Jz (by simpa using h),if_pos h];simp
 ·rw[JH (by simpa using h),if_neg h];simp
theorem cy{a b:List Tm}{k:K3}:cf (a++b) k=cf a k+cf b k:=by
 induction a with
 |nil=>simp[cF]
 |cons t a ih=>rw[Q1,aQ,aQ,ih];lia
theorem Ao{a b:List Tm}(h:a.Perm b){k:K3}:cf a k=cf b k:=by
 induction h with
 |nil=>rfl
 |cons x h ih=>rw[aQ,aQ,ih]
 |swap x y l=>simp only[aQ];lia
 |trans _ _ j q=>rw[j,q]
theorem fb{ts:List Tm}{k:K3}(h:∀t∈ts,t.1≠k):cf ts k=0:=by
 induction ts with
 |nil=>rfl
 |cons t ts ih=>rw[aQ,if_neg (h t (by simp)),ih λu j=>h u (by simp[j])];rfl
theorem jL{ts:List Tm}(j:(ts.map (·.1)).Nodup){t:Tm}(q:t∈ts):cf ts t.1=t.2:=by
 induction ts with
 |nil=>simp at q
 |cons u ts ih=>
  simp only[Jr,KA]at j;rw[aQ]
  rcases Jp.mp q with z|z
  ·subst z;rw[if_pos rfl,fb λv B e=>j.1 (by rw[<-e];exact JA B)]
   lia
  ·rw[if_neg λe=>j.1 (by rw[e];exact JA z),ih j.2 z];lia
noncomputable def el(L:List Tm)(k:K3)(c:Int):List Tm:=if(L.any λp=>decide (p.1=k))=N2 then L.map λp=>if p.1=k then(p.1,p.2+c)else p else L++[(k,c)]
theorem ko{L:List Tm}{k:K3}:dget (L.map kcD) (k3D k)=(L.find? λp=>decide (p.1=k)).map λp=>.int p.2:=by
 unfold dget
 induction L with
 |nil=>rfl
 |cons t L ih=>
  by_cases h:t.1=k
  ·rw[Jr,O9 (by simp[kcD,h]),O9 (by simpa using h)];rfl
  ·rw[Jr,N4 (by simp only[decide_eq_true_eq];exactλe=>h (i5 e)),N4 (by simpa using h),ih]
theorem vd{L:List Tm}{k:K3}:((L.map kcD).any λp=>decide (p.1=k3D k))=L.any λp=>decide (p.1=k):=by
 induction L with
 |nil=>rfl
 |cons t L ih=>
  rw[Jr,Nf,Nf,ih];congr 1
  by_cases h:t.1=k
  ·simp[kcD,h]
  ·rw[decide_eq_false h];exact decide_eq_false (λe=>h (i5 e))
theorem Ap{L:List Tm}(j:(L.map (·.1)).Nodup){k:K3}:bX (L.map kcD) (k3D k) (.int ((((L.find? λp=>decide (p.1=k)).map (·.2)).getD 0)+c))=(el L k c).map kcD:=by
 unfold bX el;rw[vd]
 split
 ·next h=>
  rw[Kf,Kf];apply Kz;intro t q;simp only[Rp]
  by_cases e:t.1=k
  ·rw[if_pos (by rw[<-e];rfl),if_pos e]
   have:L.find? (λp=>decide (p.1=k))=Z t:=by
    clear h
    induction L with
    |nil=>simp at q
    |cons u L ih=>
     simp only[Jr,KA]at j
     rcases Jp.mp q with z|z
     ·subst z;rw[O9 (by simpa using e)]
     ·rw[N4 (by simp;intro B;exact j.1 (by rw[B,<-e];exact JA z))]
      exact ih j.2 z
   rw[this];rfl
  ·rw[if_neg (c:=(kcD t).1=k3D k) (λz=>e (i5 z)),if_neg e]
 ·next h=>
  have:L.find? (λp=>decide (p.1=k))=Y:=by rw[List.find?_eq_none];intro x hx;simp only[decide_eq_true_eq];intro e;exact h (MP.mpr ⟨x,hx,by simpa using e⟩)
  rw[this];simp[kcD]
theorem vf{L:List Tm}{k:K3}:(el L k c).map (·.1)=if(L.any λp=>decide (p.1=k))=N2 then L.map (·.1)else L.map (·.1)++[k]:=by
 unfold el
 split
 ·rw[Kf];apply Kz;intro t _;simp only[Rp]
  split<;>rfl
 ·simp
theorem sQ{L:List Tm}(j:(L.map (·.1)).Nodup){k:K3}:((el L k c).map (·.1)).Nodup:=by
 rw[vf]
 split
 ·exact j
 ·next h=>
  refine Mx.mpr ⟨j,by simp,λa z b q e=>?_⟩
  simp at q;subst q;subst e;obtain⟨t,B,e⟩:=J8.mp z;exact h (MP.mpr ⟨t,B,by simpa using e⟩)
theorem xR{L:List Tm}{k:K3}:(el L k c).length<=L.length+1:=by unfold el;split<;>simp
theorem Aq{L:List Tm}(j:(L.map (·.1)).Nodup){k a:K3}:cf (el L k c) a=cf L a+if k=a then c else 0:=by
 unfold el
 split
 ·next h=>
  obtain⟨t,q,e⟩:=MP.mp h;have e:t.1=k:=by simpa using e
  clear h
  induction L with
  |nil=>simp at q
  |cons u L ih=>
   simp only[Jr,KA]at j;rw[Jr,aQ,aQ]
   by_cases eu:u.1=k
   ·have rest:(L.map fun p=>if p.1=k then(p.1,p.2+c)else p)=L:=by
     conv=>rhs;rw[<-List.map_id L]
     apply Kz;intro p B;rw[if_neg λz=>j.1 (by rw[eu,<-z];exact JA B)];rfl
    rw[rest,if_pos eu];dsimp only
    by_cases ea:u.1=a
    ·rw[if_pos ea,if_pos ea,if_pos (by rw[<-eu];exact ea)];lia
    ·rw[if_neg ea,if_neg ea,if_neg (by rw[<-eu];exact ea)];lia
   ·rcases Jp.mp q with z|z
    ·exact absurd (by rw[<-z];exact e) eu
    ·rw[ih j.2 z,if_neg eu];lia
 ·rw[cy,aQ,cF];simp
noncomputable def bw(ts:List Tm):List Tm:=ts.foldl (λL t=>el L t.1 t.2) []
theorem eM{ts:List Tm}{t:Tm}:bw (ts++[t])=el (bw ts) t.1 t.2:=by simp[bw]
theorem fR{α:Type}{P:List α->Prop}(h0:P [])(h1:∀l x,P l->P (l++[x]))(l:List α):P l:=by
 have:∀r:List α,P r.reverse:=by
  intro r
  induction r with
  |nil=>exact h0
  |cons x r ih=>rw[List.reverse_cons];exact h1 _ _ ih
 have:=this l.reverse;rw[QR]at this;exact this
theorem fS(ts:List Tm):((bw ts).map (·.1)).Nodup:=fR (P:=λts=>((bw ts).map (·.1)).Nodup) (by simp[bw]) (λl x ih=>by rw[eM];exact sQ ih) ts
theorem Ar(ts:List Tm)(k:K3):cf (bw ts) k=cf ts k:=fR (P:=λts=>cf (bw ts) k=cf ts k) rfl (λl x ih=>by rw[eM,Aq (fS l),ih,cy,aQ,cF];lia) ts
theorem oO(ts:List Tm):(bw ts).length<=ts.length:=fR (P:=λts=>(bw ts).length<=ts.length) (by simp[bw]) (λl x ih=>by rw[eM];have:=xR (L:=bw l) (k:=x.1) (c:=x.2);simp;lia) ts
theorem DO{ts:List Tm}{k:K3}:Mi.cf (ts.filter λt=>!(t.2==0)) k=Mi.cf ts k:=by
 induction ts with
 |nil=>rfl
 |cons t ts ih=>
  rw[aQ]
  by_cases h:t.2=0
  ·rw[JH (by simp[h]),ih,h];split<;>lia
  ·rw[Jz (by simp[h]),aQ,ih]
theorem Ge.upd{j:Mem}(g:Ge M j)(hd:M d=Y):Ge M (ah j d o):=λa o' e=>by rw[au (λz=>by rw[z,hd]at e;cases e)];exact g _ _ e
end
section
open L2.Srt
variable{T:List FD}
noncomputable def gi(l:List Int)(i:Int):Int:=l.getD i.toNat 0
theorem iW(h0:0<=i)(h1:i<l.length):atI (l.map D.int) i=Z (.int (gi l i)):=by
 obtain⟨k,rfl⟩:∃k:Nat,i=k:=⟨i.toNat,∅⟩
 refine bx ?_;unfold gi;rw[Jj,Jd,Jo,z4 (show k<l.length by lia)];rfl
end
section
open L2.Srt
theorem fe{p:Ub}(j:Box b M)(q:M p=Y):p≠b:=λz=>by obtain⟨x,y,w,e⟩:=j;rw[<-z,q]at e;cases e
end
section
open L2.Srt
variable{T:List FD}
noncomputable def xS(L:List Tm)(k:K3)(c:Int):List Tm:=if(L.any λp=>decide (p.1=k))=N2 then L.map (λp=>if p.1=k then(p.1,c)else p)else L++[(k,c)]
theorem xT{L:List Tm}{k:K3}:bX (L.map kcD) (k3D k) (.int c)=(xS L k c).map kcD:=by
 unfold bX xS;rw[vd]
 split
 ·rw[Kf,Kf];refine Kz λp _=>?_;simp only[Rp]
  by_cases h:p.1=k
  ·rw[if_pos h,if_pos (show(kcD p).1=k3D k by show k3D p.1=k3D k;rw[h])];rfl
  ·rw[if_neg h,if_neg (show ¬(kcD p).1=k3D k fromλz=>h (i5 z))]
 ·rw[Jc];rfl
theorem q8{L:List Tm}(B:(L.map (·.1)).Nodup){ys:List D}(q:ys.Perm ((L.map kcD).map (·.1)))(hs:nX ys):∃rs:List Tm,rs.Perm L/\ys=rs.map (λt=>k3D t.1)/\rs.Pairwise λa b=>klt a.1 b.1:=by
 have F:(L.map kcD).map (·.1)=L.map λt=>k3D t.1:=by rw[Kf];rfl
 rw[F]at q;obtain⟨rs,z,p2⟩:=lu (λt:Tm=>k3D t.1) q rfl;refine⟨rs,z,p2.symm,?_⟩;have j:(rs.map (·.1)).Nodup:=(z.map (·.1)).nodup_iff.mpr B;unfold nX at hs;rw[<-p2,KU]at hs;rw[JI,KU]at j;refine(hs.and j).imp ?_;rintro a b ⟨h1,h2⟩;unfold klt
 cases G:ltK (k3K a.1) (k3K b.1)with
 |true=>rfl
 |false=>exact absurd (An (ln _ _ G h1)) h2
theorem cM{L:List Tm}(j:(L.map (·.1)).Nodup){t:Tm}(q:t∈L):dget (L.map kcD) (k3D t.1)=Z (.int t.2):=by
 rw[ko];have:L.find? (λp=>decide (p.1=t.1))=Z t:=by
  induction L with
  |nil=>simp at q
  |cons x L ih=>
   simp only[Jr,KA]at j
   rcases Jp.mp q with z|z
   ·subst z;simp
   ·have:x.1≠t.1:=λe=>j.1 (by rw[e];exact JA z)
    rw[N4 (by simpa using this)]
    exact ih j.2 z
 rw[this];rfl
theorem iX{L:List Tm}(j:(L.map (·.1)).Nodup):so (L.map kcD)=L.map kcD:=by
 have g:∀(r l:List Tm),(((l++r).map (·.1)).Nodup)->(r.map kcD).foldl (λa kv=>bX a kv.1 kv.2) (l.map kcD)=(l++r).map kcD:=by
  intro r
  induction r with
  |nil=>intro l _;simp
  |cons t r ih=>
   intro l h;rw[Jr,L5];have e:bX (l.map kcD) (kcD t).1 (kcD t).2=(l++[t]).map kcD:=by show bX (l.map kcD) (k3D t.1) (.int t.2)=_;rw[xT];unfold xS;rw[if_neg];intro z;obtain⟨p,q,e⟩:=MP.mp z;rw[Jc,Mx]at h;exact h.2.2 _ (JA q) _ (JA (Je ..)) (of_decide_eq_true e)
   rw[e,ih (l++[t]) (by rw[Jq];exact h)]
   rw[Jq];rfl
 have:=g L [] (by simpa using j)
 simpa[so]using this
theorem fT(k:K3):bK (k3D k)=N2:=rfl
end
section
open L2.Srt
variable{T:List FD}
noncomputable def idx(l:List Int):List (Int×Int):=l.mapIdx λi x=>((i:Nat),x)
noncomputable def nz(l:List Int):List (Int×Int):=(idx l).filter λq=>!(q.2==0)
theorem dJ:(idx l).length=l.length:=by simp[idx]
noncomputable def ck(i a j b:Int)(zs:List (Int×Int)):List Tm:=zs.map λz=>((z.1,i,j),a*b*z.2)
noncomputable def cl(i a:Int)(ys zs:List (Int×Int)):List Tm:=ys.flatMap λy=>ck i a y.1 y.2 zs
noncomputable def bQ(xs ys zs:List (Int×Int)):List Tm:=xs.flatMap λx=>cl x.1 x.2 ys zs
noncomputable def xU(p:Pr):List Tm:=bQ (nz p.1) (nz p.2.1) (nz p.2.2)
noncomputable def sR(ps:List Pr):List Tm:=ps.flatMap xU
theorem oP{a b:Int}:(ck i a j b zs).length=zs.length:=by simp[ck]
theorem oQ{a:Int}{ys:List (Int×Int)}:(cl i a ys zs).length=ys.length*zs.length:=by
 unfold cl
 induction ys with
 |nil=>simp
 |cons y ys ih=>rw[Ka,q7,ih,oP,Jw,Kq];lia
theorem oR{xs ys:List (Int×Int)}:(bQ xs ys zs).length=xs.length*(ys.length*zs.length):=by
 unfold bQ
 induction xs with
 |nil=>simp
 |cons y ys ih=>rw[Ka,q7,ih,oQ,Jw,Kq];lia
structure IsSum(ps:List Pr)(L:List Tm):Prop where
 nd:(L.map (·.1)).Nodup
 nz:∀t∈L,t.2≠0
 cf:∀k,cf L k=cf (sR ps) k
def Od(d:Ub)(M M':Mem):Prop:=∀a,a≠d->M' a=M a
theorem Od.refl:Od d M M:=λ_ _=>rfl
theorem Od.trans(h:Od d M M')(g:Od d M' M''):Od d M M'':=λa n=>(g a n).trans (h a n)
theorem Od.upd(h:Od d M M'):Od d M (ah M' d o):=λa n=>(au n).trans (h a n)
noncomputable abbrev bd(x:Int):Prop:=-1000000000000<=x/\x<=1000000000000
end
section
open L2.Srt
noncomputable def S1(zs:List (Int×Int))(k:Int):Int:=(zs.map λz=>if z.1=k then z.2 else 0).sum
theorem dL{z:Int×Int}{k:Int}:S1 (z::zs) k=(if z.1=k then z.2 else 0)+S1 zs k:=by simp[S1]
theorem kr{α:Type}{F:α->List Tm}{k:K3}:∀l:List α,cf (l.flatMap F) k=(l.map λx=>cf (F x) k).sum
 |[]=>rfl
 |x::l=>by rw[Ka,cy,kr l];simp
theorem qG{i a j b k i' j':Int}:∀{zs:List (Int×Int)},cf (ck i a j b zs) (k,i',j')=if i=i'/\j=j' then a*b*S1 zs k else 0
 |[]=>by simp[ck,cF,S1]
 |z::zs=>by
  rw[show ck i a j b (z::zs)=((z.1,i,j),a*b*z.2)::ck i a j b zs from rfl,aQ,qG,dL]
  by_cases h:i=i'/\j=j'
  ·obtain⟨rfl,rfl⟩:=h
   by_cases q:z.1=k
   ·subst q;simp[SS]
   ·have:¬((z.1,i,j)=(k,i,j)):=λe=>q (congrArg (·.1) e);rw[if_neg this,if_pos ⟨rfl,rfl⟩,if_pos ⟨rfl,rfl⟩,if_neg q];simp
  ·have:¬((z.1,i,j)=(k,i',j')):=λe=>h ⟨congrArg (·.2.1) e,congrArg (·.2.2) e⟩;rw[if_neg this,if_neg h,if_neg h];rfl
theorem qH{i a k i' j':Int}{zs:List (Int×Int)}:∀{ys:List (Int×Int)},cf (cl i a ys zs) (k,i',j')=if i=i' then a*S1 ys j'*S1 zs k else 0
 |[]=>by simp[cl,cF,S1]
 |y::ys=>by
  rw[show cl i a (y::ys) zs=ck i a y.1 y.2 zs++cl i a ys zs from by simp[cl],cy,qH,qG,dL]
  by_cases h:i=i'
  ·subst h
   by_cases j:y.1=j'
   ·subst j;simp[SS,SU]
   ·rw[if_neg (λe=>j e.2),if_pos rfl,if_pos rfl,if_neg j];simp
  ·rw[if_neg (λe=>h e.1),if_neg h,if_neg h];rfl
theorem ku{k i' j':Int}{ys zs:List (Int×Int)}:∀{xs:List (Int×Int)},cf (bQ xs ys zs) (k,i',j')=S1 xs i'*S1 ys j'*S1 zs k
 |[]=>by simp[bQ,cF,S1]
 |x::xs=>by
  rw[show bQ (x::xs) ys zs=cl x.1 x.2 ys zs++bQ xs ys zs from by simp[bQ],cy,ku,qH,dL]
  by_cases h:x.1=i'
  ·subst h;simp[SU]
  ·rw[if_neg h,if_neg h];simp
noncomputable def gz(l:List Int)(i:Int):Int:=if i<0 then 0 else l.getD i.toNat 0
theorem vg(h:i<0):gz l i=0:=if_pos h
theorem vh:gz [] i=0:=by unfold gz;split<;>simp
theorem kw{x:Int}:gz (x::l) i=if i=0 then x else gz l (i-1):=by
 unfold gz
 by_cases h:i<0
 ·rw[if_pos h,if_neg ∅,if_pos ∅]
 ·rw[if_neg h]
  by_cases h0:i=0
  ·subst h0;simp
  ·rw[if_neg h0,if_neg ∅]
   obtain⟨n,rfl⟩:∃n:Nat,i=((n+1:Nat):Int):=⟨(i-1).toNat,∅⟩
   rw[show(((n+1:Nat):Int)-1).toNat=n by lia,Jd]
   simp
theorem vj{a b:List Int}:∀{i:Int},gz (a++b) i=if i<a.length then gz a i else gz b (i-a.length):=by
 induction a with
 |nil=>
  intro i
  by_cases h:i<0
  ·rw[if_pos (by simpa using h),OH,vg h,vg h]
  ·rw[if_neg (by simpa using h)];simp
 |cons x a ih=>
  intro i;rw[Q1,kw,kw,ih,Jw]
  by_cases h0:i=0
  ·subst h0;rw[if_pos rfl,if_pos rfl,if_pos ∅]
  ·rw[if_neg h0,if_neg h0]
   by_cases h:i<((a.length+1:Nat):Int)
   ·rw[if_pos ∅,if_pos h]
   ·rw[if_neg ∅,if_neg h]
    congr 1;lia
theorem jM(h:gz l i≠0):0<=i/\i<l.length:=by
 unfold gz at h
 by_cases hi:i<0
 ·rw[if_pos hi]at h;exact absurd rfl h
 ·rw[if_neg hi]at h;refine⟨∅,?_⟩
  by_cases hl:i.toNat<l.length
  ·lia
  ·rw[Jo,Ml ∅]at h;exact absurd rfl h
theorem vm{a b:List (Int×Int)}{k:Int}:S1 (a++b) k=S1 a k+S1 b k:=by simp[S1]
theorem jN{k:Int}:∀zs:List (Int×Int),S1 (zs.filter λq=>!(q.2==0)) k=S1 zs k
 |[]=>rfl
 |z::zs=>by
  rw[dL]
  by_cases h:z.2=0
  ·rw[JH (by simp[h]),jN zs,h];simp
  ·rw[Jz (by simp[h]),dL,jN zs]
theorem ff(l:List Int)(k:Int):S1 (idx l) k=gz l k:=fR (P:=λl=>S1 (idx l) k=gz l k) (by rw[vh];rfl) (λl x ih=>by
 have e:idx (l++[x])=idx l++[(((l.length:Nat):Int),x)]:=by simp[idx,List.mapIdx_append]
 rw[e,vm,ih,vj,dL];simp only[S1,Kx,List.sum_nil]
 by_cases h:k<l.length
 ·rw[if_pos h,if_neg ∅];lia
 ·rw[if_neg h,kw,vh];have z:gz l k=0:=by
   cases Decidable.em (gz l k=0)with
   |inl h=>exact h
   |inr h'=>exact absurd (jM h').2 h
  rw[z]
  by_cases e:(l.length:Int)=k
  ·rw[if_pos e,if_pos ∅];lia
  ·rw[if_neg e,if_neg ∅];rfl) l
theorem As{p:Pr}{k:Int}:cf (xU p) (k,i,j)=gz p.1 i*gz p.2.1 j*gz p.2.2 k:=by unfold xU;rw[ku];unfold nz;rw[jN,jN,jN,ff,ff,ff]
noncomputable def Tn(ps:List Pr)(k i j:Int):Int:=(ps.map λp=>gz p.1 i*gz p.2.1 j*gz p.2.2 k).sum
theorem kx{ps:List Pr}{k:Int}:cf (sR ps) (k,i,j)=Tn ps k i j:=by unfold sR Tn;rw[kr];congr 1;exact Kz λp _=>As
theorem qI{p:Pr}{a:List Pr}{k:Int}:Tn (p::a) k i j=gz p.1 i*gz p.2.1 j*gz p.2.2 k+Tn a k i j:=by simp[Tn]
theorem oS{L0 L1 L2:Nat}{k i j:Int}:∀{us:List Pr},(∀u∈us,u.1.length=L0/\u.2.1.length=L1/\u.2.2.length=L2)->Tn us k i j≠0->(0<=k/\k<L2)/\(0<=i/\i<L0)/\(0<=j/\j<L1)
 |[],_,h=>absurd (by simp[Tn]) h
 |u::us,q,h=>by
  obtain⟨G,J,L⟩:=q u (by simp)
  rw[qI]at h
  by_cases z:gz u.1 i*gz u.2.1 j*gz u.2.2 k=0
  ·rw[z,Sa]at h;exact oS (λv B=>q v (by simp[B])) h
  ·have a1:gz u.1 i≠0:=λe=>z (by rw[e];simp)
   have a2:gz u.2.1 j≠0:=λe=>z (by rw[e];simp)
   have F:gz u.2.2 k≠0:=λe=>z (by rw[e];simp)
   have:=jM a1;have:=jM a2;have:=jM F;lia
theorem sU{l:List Tm}(g:(l.map (·.1)).Nodup):l.Nodup:=by rw[JI]at g⊢;rw[KU]at g;exact g.imp λ{a b} hab e=>hab (by rw[e])
theorem vp{a:List Tm}(q:(a.map (·.1)).Nodup){k:K3}(h:cf a k≠0):(k,cf a k)∈a:=by
 by_cases e:∃r∈a,r.1=k
 ·obtain⟨r,j,rfl⟩:=e;rw[jL q j];exact j
 ·exact absurd (fb λr j z=>e ⟨r,j,z⟩) h
theorem Au{a b:List Tm}(q:(a.map (·.1)).Nodup)(z:(b.map (·.1)).Nodup)(za:∀t∈a,t.2≠0)(zb:∀t∈b,t.2≠0)(h:∀k,cf a k=cf b k):a.Perm b:=by
 refine(List.perm_ext_iff_of_nodup (sU q) (sU z)).mpr λt=>⟨λj=>?_,λj=>?_⟩
 ·have e:=jL q j;have:=vp z (k:=t.1) (by rw[<-h,e];exact za t j)
  rwa[<-h,e]at this
 ·have e:=jL z j;have:=vp q (k:=t.1) (by rw[h,e];exact zb t j)
  rwa[h,e]at this
theorem xV{a b:List Tm}(q:(b.map (·.1)).Nodup)(h:a.Perm b):eqD (a.map kcD) (b.map kcD)=N2:=by
 unfold eqD;rw[D1];refine⟨by simp[h.length_eq],?_⟩
 rw[Mh];intro kv j;obtain⟨t,z,rfl⟩:=J8.mp j;exact decide_eq_true (cM q (h.mem_iff.mp z))
theorem IsSum.val{ps:List Pr}{L:List Tm}(h:IsSum ps L){t:Tm}(j:t∈L):Tn ps t.1.1 t.1.2.1 t.1.2.2=t.2:=by rw[<-kx,<-h.cf,jL h.nd j]
end
section
open L2.Srt
noncomputable def Sp(p:Int)(n:Nat):List (Nat->Int)->(Nat->Int)->Prop
 |[],f=>∀x,x<n->p ∣ f x
 |b::bs,f=>∃c:Int,Sp p n bs λx=>f x-c*b x
theorem Sp.congr{p:Int}{n:Nat}:∀{bs:List (Nat->Int)} {f g:Nat->Int},(∀x,x<n->p ∣ f x-g x)->Sp p n bs f->Sp p n bs g
 |[],f,g,h,s=>λx hx=>by
  have:=Md (s x hx) (h x hx)
  rwa[show f x-(f x-g x)=g x by lia]at this
 |b::bs,f,g,h,⟨c,s⟩=>⟨c,s.congr fun x hx=>by
  have:=h x hx
  rwa[show f x-c*b x-(g x-c*b x)=f x-g x by lia]⟩
theorem TY{p:Int}{n:Nat}:∀{bs:List (Nat->Int)} {f:Nat->Int},(∀x,x<n->p ∣ f x)->Sp p n bs f
 |[],f,h=>h
 |b::bs,f,h=>⟨0,TY λx hx=>by simpa using h x hx⟩
theorem Sp.comb{p:Int}{n:Nat}{k:Int}:∀{bs:List (Nat->Int)} {f g:Nat->Int},Sp p n bs f->Sp p n bs g->Sp p n bs λx=>f x+k*g x
 |[],f,g,h,s=>λx hx=>MW (h x hx) (KP (s x hx))
 |b::bs,f,g,⟨c,h⟩,⟨d,s⟩=>⟨c+k*d,(h.comb (k:=k) s).congr fun x hx=>by
  rw[SU,Int.mul_sub,Ro,show f x-c*b x+(k*g x-k*(d*b x))-(f x+k*g x-(c*b x+k*(d*b x)))=0 by lia]
  exact LH _⟩
theorem Sp.snoc{p:Int}{n:Nat}{t:Nat->Int}:∀{bs:List (Nat->Int)} {f:Nat->Int},Sp p n (bs++[t]) f↔∃c:Int,Sp p n bs λx=>f x-c*t x
 |[],f=>R5
 |b::bs,f=>by
  constructor
  ·rintro⟨c,h⟩;obtain⟨d,h⟩:=Sp.snoc.mp h;exact⟨d,c,h.congr λx _=>by rw[show f x-c*b x-d*t x-(f x-d*t x-c*b x)=0 by lia];exact LH _⟩
  ·rintro⟨d,c,h⟩;exact⟨c,Sp.snoc.mpr ⟨d,h.congr λx _=>by rw[show f x-d*t x-c*b x-(f x-c*b x-d*t x)=0 by lia];exact LH _⟩⟩
theorem Sp.more{p:Int}{n:Nat}{t:Nat->Int}{bs:List (Nat->Int)}{f:Nat->Int}(h:Sp p n bs f):Sp p n (bs++[t]) f:=Sp.snoc.mpr ⟨0,h.congr λx _=>by simp⟩
theorem Sp.last{p:Int}{n:Nat}{t:Nat->Int}{bs:List (Nat->Int)}:Sp p n (bs++[t]) t:=Sp.snoc.mpr ⟨1,TY λx _=>by simp⟩
structure Vr(p:Int)(n:Nat)(v:List Int):Prop where
 len:v.length=n
 inn:∀x∈v,0<=x/\x<p
noncomputable def gf(v:List Int):Nat->Int:=λx=>gz v (x:Nat)
theorem aO{x:Nat}(h:x<v.length):v[x]?=Z (gf v x):=by unfold gf gz;rw[if_neg ∅,Jd,Jo,z4 h];rfl
theorem Vr.at{p:Int}{n:Nat}(h:Vr p n v){x:Nat}(hx:x<n):0<=gf v x/\gf v x<p:=h.inn _ (Jh (aO (by rw[h.len];exact hx)))
theorem Vr.ext{p:Int}{n:Nat}(j:Vr p n u)(q:Vr p n v)(h:∀x,x<n->p ∣ gf u x-gf v x):u=v:=by
 apply Lo;intro x
 by_cases hx:x<n
 ·rw[aO (by rw[j.len];exact hx),aO (by rw[q.len];exact hx)]
  have a:=j.at hx;have b:=q.at hx;obtain⟨k,F⟩:=h x hx;congr 1;have B:0<p:=∅
  have:k=0:=by
   apply Lx;intro z
   rcases RH z with h1|h1
   ·have:=OE (show k <= -1 by lia) (Int.le_of_lt B)
    lia
   ·have:=OE (show 1<=k by lia) (Int.le_of_lt B)
    lia
  rw[this]at F;lia
 ·rw[Ml (by rw[j.len];lia),Ml (by rw[q.len];lia)]
noncomputable def cb(p t:Int)(u v:List Int):List Int:=MZ (λa b=>(a+t*b)%p) u v
theorem dA{p t:Int}(j:0<p){n:Nat}(z:u.length=n)(B:v.length=n):Vr p n (cb p t u v):=by
 refine⟨by unfold cb;rw[OQ,z,B];simp,λx hx=>?_⟩
 unfold cb at hx;rw[<-List.map_uncurry_zip_eq_zipWith]at hx;obtain⟨q,_,rfl⟩:=J8.mp hx;exact⟨KL _ ∅,Kb _ j⟩
theorem sV{p t:Int}{n:Nat}(j:u.length=n)(q:v.length=n){x:Nat}(hx:x<n):gf (cb p t u v) x=(gf u x+t*gf v x)%p:=by
 have z:(cb p t u v).length=n:=by unfold cb;rw[OQ,j,q];simp
 have e:=aO (v:=cb p t u v) (x:=x) (by rw[z];exact hx)
 unfold cb at e⊢;rw[Qv,aO (by rw[j];exact hx),aO (by rw[q];exact hx)]at e
 exact(JO.inj e).symm
theorem cz{p a:Int}:p ∣ a-a%p:=by have:=Int.mul_ediv_add_emod a p;exact⟨a / p,∅⟩
theorem cY{p t:Int}{n:Nat}(j:u.length=n)(q:v.length=n){x:Nat}(hx:x<n):p ∣ (gf u x+t*gf v x)-gf (cb p t u v) x:=by rw[sV j q hx];exact cz
theorem sW{p:Int}(j:p=2∨p=3){w:Int}(h0:0<w)(h1:w<p):p ∣ w*w-1:=by
 rcases j with rfl|rfl
 ·have:w=1:=by lia
  subst this;exact⟨0,∅⟩
 ·have:w=1∨w=2:=by lia
  rcases this with rfl|rfl
  ·exact⟨0,∅⟩
  ·exact⟨1,∅⟩
theorem vq{p:Int}(B:p=2∨p=3){n:Nat}{t u':List Int}(F:t.length=n)(G:Vr p n u)(j:Vr p n u')(J:Sp p n A (gf u))(q:Sp p n A (gf u'))(L:¬Sp p n A (gf t)){s s':Int}(h0:0<=s/\s<p)(O:0<=s'/\s'<p)(e:cb p s u t=cb p s' u' t):s=s'/\u=u':=by
 have key:∀x,x<n->p ∣ (gf u x+s*gf t x)-(gf u' x+s'*gf t x):=λx hx=>by
  have a:=cY (p:=p) (t:=s) G.len F hx;have b:=cY (p:=p) (t:=s') j.len F hx;rw[e]at a;have:=Md a b
  rwa[show gf u x+s*gf t x-gf (cb p s' u' t) x-(gf u' x+s'*gf t x-gf (cb p s' u' t) x)=(gf u x+s*gf t x)-(gf u' x+s'*gf t x) by lia]at this
 have es:s=s':=by
  apply Lx;intro z;apply L;have hd:p ∣ (s-s')*(s-s')-1:=by
   rcases RH z with h|h
   ·have:=sW B (w:=s'-s) ∅ ∅
    rwa[show(s'-s)*(s'-s)=(s-s')*(s-s') by rw[<-Int.neg_sub s s',Int.neg_mul_neg]]at this
   ·exact sW B ∅ ∅
  have h1:=Sp.comb (k:=-1) q J;have h2:=Sp.comb (k:=s-s') (TY (f:=λ_=>0) λ_ _=>LH _) h1;refine h2.congr λx hx=>?_;have U:p ∣ (s-s')*_:=KP (key x hx);have F2:p ∣ _*gf t x:=KZ hd;have fv:=Md F2 U
  rwa[show((s-s')*(s-s')-1)*gf t x-(s-s')*(gf u x+s*gf t x-(gf u' x+s'*gf t x))=0+(s-s')*(gf u' x + -1*gf u x)-gf t x by grind]at fv
 subst es;refine⟨rfl,G.ext j λx hx=>?_⟩;have:=key x hx
 rwa[show gf u x+s*gf t x-(gf u' x+s*gf t x)=gf u x-gf u' x by lia]at this
structure Kn(P n:Nat)(A:List (Nat->Int))(keys:List (List Int)):Prop where
 nd:keys.Nodup
 mem:∀v,v∈keys↔Vr P n v/\Sp P n A (gf v)
 len:keys.length=P^A.length
noncomputable def nxR(P:Nat)(t u:List Int)(ss:List Nat):List (List Int):=ss.map λs=>cb P (s:Nat) u t
noncomputable def nx(P:Nat)(t:List Int)(keys:List (List Int)):List (List Int):=keys.flatMap λu=>nxR P t u (J2 P)
theorem dM{n x:Nat}:gf (IY n 0) x=0:=by
 unfold gf gz;rw[if_neg ∅,Jd,Jo,JR]
 split<;>rfl
theorem i6{n:Nat}(j:0<P):Vr P n (IY n 0):=⟨by simp,λx hx=>by rw[K6 hx];lia⟩
theorem Kn.init{n:Nat}(j:0<P):Kn P n [] [IY n 0] where
 nd:=by simp
 mem:=λv=>by
  rw[JE];constructor
  ·rintro rfl;exact⟨i6 j,TY λx _=>by rw[dM];exact LH _⟩
  ·rintro⟨h,s⟩;exact h.ext (i6 j) λx hx=>by rw[dM,Sb];exact s x hx
 len:=by simp
theorem oT{P:Nat}{t:List Int}:∀{keys:List (List Int)},(nx P t keys).length=keys.length*P
 |[]=>by simp[nx]
 |u::keys=>by have ih:=oT (P:=P) (t:=t) (keys:=keys);unfold nx at ih⊢;rw[Ka,q7,ih,Jw,Kq];simp[nxR];lia
theorem Kn.step{n:Nat}(hP:P=2∨P=3){keys:List (List Int)}{t:List Int}(h:Kn P n A keys)(q:Vr P n t)(J:¬Sp P n A (gf t)):Kn P n (A++[gf t]) (nx P t keys) where
 nd:=by
  have L:(P:Int)=2∨(P:Int)=3:=∅
  unfold nx;rw[JI,Of];refine⟨λu z=>?_,?_⟩
  ·have j:=(h.mem u).mp z;unfold nxR;rw[KU];refine MM (λ{a b} O U hab e=>?_) (JI.mp Ot);have O:=K2.mp O;have U:=K2.mp U;exact hab (Ou.inj (vq L q.len j.1 j.1 j.2 j.2 J ∅ ∅ e).1)
  ·refine MM (λ{u u'} z j huu x hx y hy e=>?_) (JI.mp h.nd);obtain⟨s,hs,rfl⟩:=J8.mp hx;obtain⟨s',F,rfl⟩:=J8.mp hy;have hs:=K2.mp hs;have F:=K2.mp F;have h1:=(h.mem u).mp z;have h2:=(h.mem u').mp j;exact huu (vq L q.len h1.1 h2.1 h1.2 h2.2 J ∅ ∅ e).2
 mem:=λv=>by
  have B:(0:Int)<P:=∅
  unfold nx;rw[KD];constructor
  ·rintro⟨u,z,F2⟩;obtain⟨s,hs,rfl⟩:=J8.mp F2;obtain⟨h1,h2⟩:=(h.mem u).mp z;refine⟨dA B h1.len q.len,Sp.snoc.mpr ⟨s,h2.congr λx hx=>?_⟩⟩;have:=cY (p:=P) (t:=(s:Nat)) h1.len q.len hx
   rwa[show gf u x-(gf (cb P (s:Nat) u t) x-(s:Nat)*gf t x)=gf u x+(s:Nat)*gf t x-gf (cb P (s:Nat) u t) x by lia]
  ·rintro⟨h1,h2⟩;obtain⟨c,h2⟩:=Sp.snoc.mp h2;have z:=dA (p:=P) (t:=-c) B h1.len q.len;have G:=KL c (show(P:Int)≠0 by lia)
   have fv:=Kb c B;refine⟨cb P (-c) v t,(h.mem _).mpr ⟨z,h2.congr λx hx=>?_⟩,J8.mpr ⟨(c%P).toNat,K2.mpr ∅,?_⟩⟩
   ·have:=cY (p:=P) (t:=-c) h1.len q.len hx
    rwa[show gf v x-c*gf t x-gf (cb P (-c) v t) x=gf v x + -c*gf t x-gf (cb P (-c) v t) x by rw[Int.neg_mul];lia]
   ·rw[Nw G];refine(dA B z.len q.len).ext h1 λx hx=>?_;have a:=cY (p:=P) (t:=c%P) z.len q.len hx;have b:=cY (p:=P) (t:=-c) h1.len q.len hx;have d:(P:Int) ∣ (c-c%P)*gf t x:=KZ cz;have:=MW (MW a b) d;rw[<-Py]at this
    rwa[show -(gf (cb P (-c) v t) x+c%P*gf t x-gf (cb P (c%P) (cb P (-c) v t) t) x+(gf v x + -c*gf t x-gf (cb P (-c) v t) x)+(c-c%P)*gf t x)=gf (cb P (c%P) (cb P (-c) v t) t) x-gf v x by grind]at this
 len:=by rw[oT,h.len,q7,JC,Qn]
structure Bs(P n:Nat)(A:List (Nat->Int))(base:List (Nat×List Int)):Prop where
 vr:∀e∈base,Vr P n e.2
 pl:∀e∈base,e.1<n/\gf e.2 e.1=1
 tri:base.Pairwise λe e'=>gf e'.2 e.1=0
 sp:∀f,Sp P n (base.map λe=>gf e.2) f↔Sp P n A f
 len:base.length=A.length
theorem Bs.init{n:Nat}:Bs P n [] []:=⟨by simp,by simp,.nil,λ_=>R5,rfl⟩
noncomputable def wo(P:Nat):List (Nat×List Int)->List Int->List Int
 |[],r=>r
 |e::bs,r=>wo P bs (cb P (-(gf r e.1)) r e.2)
theorem dB{P n:Nat}(q:0<P):∀{base:List (Nat×List Int)} {r:List Int},(∀e∈base,Vr P n e.2)->Vr P n r->Vr P n (wo P base r)
 |[],r,_,h=>h
 |e::bs,r,j,h=>by show Vr P n (wo P bs (cb P (-(gf r e.1)) r e.2));exact dB q (λx hx=>j x (J3 _ hx)) (dA ∅ h.len (j e Je).len)
theorem qJ{P n:Nat}(F:0<P){z:Nat}(j:z<n):∀{base:List (Nat×List Int)} {r:List Int},(∀e∈base,Vr P n e.2)->(∀e∈base,gf e.2 z=0)->Vr P n r->gf r z=0->gf (wo P base r) z=0
 |[],r,_,_,_,h0=>h0
 |e::bs,r,q,he,h,h0=>by
  have B:=(q e Je).len;show gf (wo P bs (cb P (-(gf r e.1)) r e.2)) z=0;refine qJ F j (λx hx=>q x (J3 _ hx)) (λx hx=>he x (J3 _ hx)) (dA ∅ h.len B) ?_
  rw[sV h.len B j,h0,he e Je];simp
theorem i7{P n:Nat}(B:0<P):∀{base:List (Nat×List Int)} {r:List Int},(∀e∈base,Vr P n e.2)->(∀e∈base,e.1<n/\gf e.2 e.1=1)->(base.Pairwise λe e'=>gf e'.2 e.1=0)->Vr P n r->∀e∈base,gf (wo P base r) e.1=0
 |[],r,_,_,_,_,e,he=>by cases he
 |b::bs,r,q,j,z,h,e,he=>by
  have F:=(q b Je).len;have G:=dA (p:=P) (t:=-(gf r b.1)) ∅ h.len F
  rw[Lf]at z;show gf (wo P bs (cb P (-(gf r b.1)) r b.2)) e.1=0
  rcases Jp.mp he with rfl|he
  ·refine qJ B (j e Je).1 (λx hx=>q x (J3 _ hx)) z.1 G ?_;rw[sV h.len F (j e Je).1,(j e Je).2];simp;rw[show gf r e.1 + -gf r e.1=0 by lia];simp
  ·exact i7 B (λx hx=>q x (J3 _ hx)) (λx hx=>j x (J3 _ hx)) z.2 G e he
theorem mM{P n:Nat}(z:0<P):∀{base:List (Nat×List Int)} {r:List Int},(∀e∈base,Vr P n e.2)->Vr P n r->Sp P n (base.map λe=>gf e.2) λx=>gf r x-gf (wo P base r) x
 |[],r,_,_=>λx _=>by simp[wo]
 |b::bs,r,j,h=>by
  have q:=(j b Je).len;have ih:=mM z (base:=bs) (r:=cb P (-(gf r b.1)) r b.2) (λx hx=>j x (J3 _ hx)) (dA ∅ h.len q)
  refine⟨gf r b.1,ih.congr λx hx=>?_⟩;have a:=cY (p:=P) (t:=-(gf r b.1)) h.len q hx;rw[<-Py]at a;show(P:Int) ∣ _-(gf r x-gf (wo P bs (cb P (-(gf r b.1)) r b.2)) x-gf r b.1*gf b.2 x)
  rwa[show -(gf r x + -gf r b.1*gf b.2 x-gf (cb P (-gf r b.1) r b.2) x)=gf (cb P (-gf r b.1) r b.2) x-gf (wo P bs (cb P (-gf r b.1) r b.2)) x-(gf r x-gf (wo P bs (cb P (-(gf r b.1)) r b.2)) x-gf r b.1*gf b.2 x) by grind]at a
theorem Sp.at{p:Int}{n z:Nat}(j:z<n):∀{bs:List (Nat->Int)} {f:Nat->Int},(∀b∈bs,b z=0)->Sp p n bs f->p ∣ f z
 |[],f,_,h=>h z j
 |b::bs,f,q,⟨c,h⟩=>by have:=Sp.at j (λx hx=>q x (J3 _ hx)) h;rw[q b Je]at this;simpa using this
theorem iY{P n:Nat}:∀{base:List (Nat×List Int)} {f:Nat->Int},(∀e∈base,e.1<n/\gf e.2 e.1=1)->(base.Pairwise λe e'=>gf e'.2 e.1=0)->(∀e∈base,(P:Int) ∣ f e.1)->Sp P n (base.map λe=>gf e.2) f->∀x,x<n->(P:Int) ∣ f x
 |[],f,_,_,_,h=>h
 |e::bs,f,j,q,B,⟨c,h⟩=>by
  rw[Lf]at q;have h1:=Sp.at (j e Je).1 (λb F=>by obtain⟨e',z,rfl⟩:=J8.mp F;exact q.1 e' z) h
  dsimp only at h1;rw[(j e Je).2,Int.mul_one]at h1;have G:(P:Int) ∣ c:=by
   have:=Md (B e Je) h1
   rwa[show f e.1-(f e.1-c)=c by lia]at this
  refine iY (λx hx=>j x (J3 _ hx)) q.2 (λx hx=>B x (J3 _ hx)) (h.congr λx _=>?_);rw[show f x-c*gf e.2 x-f x = -(c*gf e.2 x) by lia,Py]
  exact KZ G
theorem Bs.out{n:Nat}(j:0<P)(h:Bs P n A base){t:List Int}(q:Vr P n t):wo P base t=IY n 0↔Sp P n A (gf t):=by
 have hs:=mM j h.vr q;constructor
 ·intro e;refine(h.sp _).mp (hs.congr λx _=>?_);rw[e,dM,Sb,Int.sub_self];exact LH _
 ·intro e;have e:=(h.sp _).mpr e;have z:=Sp.comb (k:=-1) e hs;refine(dB j h.vr q).ext (i6 j) λx hx=>?_;rw[dM,Sb];refine iY h.pl h.tri (λb B=>by rw[i7 j h.vr h.pl h.tri q b B];exact LH _) (z.congr λx _=>?_) x hx
  rw[show gf t x + -1*(gf t x-gf (wo P base t) x)-gf (wo P base t) x=0 by lia];exact LH _
theorem oU{F:Int->Int}{x:Nat}(h:x<v.length):gf (v.map F) x=F (gf v x):=by
 have e:=aO (v:=v.map F) (x:=x) (by rw[h7];exact h)
 rw[Jj,aO h]at e;exact(JO.inj e).symm
theorem Bs.step{n:Nat}(U:P=2∨P=3)(h:Bs P n A base){t:List Int}(G:Vr P n t){pl:Nat}(j:pl<n)(hw:gf (wo P base t) pl≠0):
 Bs P n (A++[gf t]) (base++[(pl,(wo P base t).map λx=>(gf (wo P base t) pl*x)%P)]):=by
 have q:0<P:=∅
 have B:=dB q h.vr G;have L:=i7 q h.vr h.pl h.tri G;have hs:=mM q h.vr G;have z:=B.at j;generalize hR:wo P base t=R at B L hs hw z;generalize F2:gf R pl=w at hw z;have J:(P:Int) ∣ w*w-1:=sW ∅ ∅ z.2
 have go:∀x,x<n->gf (R.map λx=>(w*x)%P) x=(w*gf R x)%P:=λx hx=>oU (F:=λx=>(w*x)%P) (by rw[B.len];exact hx)
 refine⟨λe he=>?_,λe he=>?_,?_,λf=>?_,by rw[q7,q7,h.len];rfl⟩
 ·rcases Ja.mp he with he|he
  ·exact h.vr e he
  ·rw[JE.mp he];refine⟨by rw[h7];exact B.len,λx hx=>?_⟩
   obtain⟨y,_,rfl⟩:=J8.mp hx;exact⟨KL _ ∅,Kb _ ∅⟩
 ·rcases Ja.mp he with he|he
  ·exact h.pl e he
  ·rw[JE.mp he];refine⟨j,?_⟩;dsimp only;rw[go pl j,F2]
   rcases U with rfl|rfl
   ·have:w=1:=by lia
    rw[this];rfl
   ·have:w=1∨w=2:=by lia
    rcases this with e|e<;>rw[e]<;>rfl
 ·rw[IZ];refine⟨h.tri,by simp,λa O b fv=>?_⟩
  rw[JE.mp fv];dsimp only;rw[go _ (h.pl a O).1,L a O];simp
 ·rw[Jc,Jr,Kx];constructor
  ·intro hf;obtain⟨c,hf⟩:=Sp.snoc.mp hf;refine Sp.snoc.mpr ⟨c*w,(h.sp _).mp ((Sp.comb (k:=-(c*w)) hf hs).congr λx hx=>?_)⟩;dsimp only;rw[go x hx];have a:(P:Int) ∣ c*(w*gf R x-(w*gf R x)%P):=KP cz
   rwa[show f x-c*(w*gf R x % ↑P) + -(c*w)*(gf t x-gf R x)-(f x-c*w*gf t x)=c*(w*gf R x-(w*gf R x)%P) by grind]
  ·intro hf;obtain⟨c,hf⟩:=Sp.snoc.mp hf;refine Sp.snoc.mpr ⟨c*w,(Sp.comb (k:=c) ((h.sp _).mpr hf) hs).congr λx hx=>?_⟩;dsimp only;rw[go x hx];have a:(P:Int) ∣ c*w*(w*gf R x-(w*gf R x)%P):=KP cz;have b:(P:Int) ∣ (c*gf R x)*(w*w-1):=KP J;have:=Md b a
   rwa[show(c*gf R x)*(w*w-1)-c*w*(w*gf R x-(w*gf R x)%P)=f x-c*gf t x+c*(gf t x-gf R x)-(f x-c*w*(w*gf R x % ↑P)) by grind]at this
end
section
open L2.Srt
variable{T:List FD}
noncomputable def ixs(l:List Int)(ks:List Nat):List (Int×Int):=ks.map λk:Nat=>((k:Int),gi l (k:Int))
theorem ky{N:Nat}(h:l.length=N):ixs l (J2 N)=idx l:=by
 unfold ixs idx;apply Lo;intro j;rw[Jj,Mw]
 by_cases hj:j<N
 ·rw[Lr hj,z4 ∅]
  simp only[N7,gi,Jd];rw[Jo,z4 ∅];rfl
 ·rw[Ml (by simp;lia),Ml ∅];rfl
theorem kz{ks:List Nat}:(ixs l ks).length=ks.length:=by simp[ixs]
theorem iZ{ks:List Nat}{k:Nat}:ixs l (ks++[k])=ixs l ks++[((k:Int),gi l (k:Int))]:=by simp[ixs]
theorem vt(h:Big l):bd (gi l i):=by
 unfold gi;rw[Jo]
 cases e:l[i.toNat]? with
 |none=>constructor<;>decide
 |some x=>exact h x (Jh e)
noncomputable def kA(s:Stmt):FD:=⟨"_law_sums",s,["_law_scheme_here","_law_found","_law_l","_law_r","_law_o","_law_i","_law_j","_law_k"],1,
 (.cons (.asg (.name 1) (.dnew N2))
 (.cons (.for (.tup (.cons (.name 2) (.cons (.name 3) (.cons (.name 4) .nil)))) (.seq (.ix (.var 0) (.int 3))) (.cons (.for (.name 5) (.rng1 (.ix (.var 0) (.int 0))) (.cons (.for (.name 6) (.rng1 (.ix (.var 0) (.int 1))) (.cons (.for (.name 7) (.rng1 (.ix (.var 0) (.int 2))) (.cons (.put (.var 1) (.tup (.cons (.var 7) (.cons (.var 5) (.cons (.var 6) .nil)))) (.bin .add (.dget (.var 1) (.tup (.cons (.var 7) (.cons (.var 5) (.cons (.var 6) .nil)))) (.int 0)) (.bin .mul (.bin .mul (.ix (.var 2) (.var 5)) (.ix (.var 3) (.var 6))) (.ix (.var 4) (.var 7)))))
 .nil))
 .nil))
 .nil))
 .nil))
 (.cons (.frz 1 (.ret (.blt .dict (.cons (.comp [Y,(Z 1)] ["_law_place","_law_found"] (.last (.keys (.var 1)) (.name 0) (.cons (.cmp .ne (.ix (.var 1) (.var 0)) (.int 0)) .nil) (.tup (.cons (.var 0) (.cons (.ix (.var 1) (.var 0)) .nil))))) .nil))))
 .nil)))⟩
noncomputable def sbK:MSs:=.cons (.put (.var 1) (.tup (.cons (.var 7) (.cons (.var 5) (.cons (.var 6) .nil)))) (.bin .add (.dget (.var 1) (.tup (.cons (.var 7) (.cons (.var 5) (.cons (.var 6) .nil)))) (.int 0)) (.bin .mul (.bin .mul (.ix (.var 2) (.var 5)) (.ix (.var 3) (.var 6))) (.ix (.var 4) (.var 7))))) .nil
noncomputable def sbJ:MSs:=.cons (.for (.name 7) (.rng1 (.ix (.var 0) (.int 2))) sbK) .nil
noncomputable def sbI:MSs:=.cons (.for (.name 6) (.rng1 (.ix (.var 0) (.int 1))) sbJ) .nil
noncomputable def scD(L0 L1 L2:Nat)(p:Ub):D:=.tup [.int L0,.int L1,.int L2,.ref p]
theorem Ch{p:Ub}{x:Pr}{i j:Nat}{B:Option D}{pre:List Tm}(h2:L2<=1000)(hi:i<x.1.length)(hj:j<x.2.1.length)(U:x.2.2.length=L2)(b1:Big x.1)(b3:Big x.2.2)(hd:M d=Z (.dct N2 ((bw pre).map kcD)))(hl:pre.length+L2<=1000000)(q:∀M' B,Od d M M'->M' d=Z (.dct N2 ((bw (pre++ck i (gi x.1 i) j (gi x.2.1 j) (idx x.2.2))).map kcD))->E.nx [Z (scD L0 L1 L2 p),Z (.ref d),Z (.tup (x.1.map .int)),Z (.tup (x.2.1.map .int)),Z (.tup (x.2.2.map .int)),Z (.int i),Z (.int j),B] M'):
 wSs Φ sbJ E [Z (scD L0 L1 L2 p),Z (.ref d),Z (.tup (x.1.map .int)),Z (.tup (x.2.1.map .int)),Z (.tup (x.2.2.map .int)),Z (.int i),Z (.int j),B] M:=by
 unfold sbJ scD;nofun;refine⟨_,rfl,_,rfl,∅,∅,?_⟩
 rw[Jd];rw[<-ky U]at q;refine ao (I:=λl ρ M'=>∃B,ρ=[Z (scD L0 L1 L2 p),Z (.ref d),Z (.tup (x.1.map .int)),Z (.tup (x.2.1.map .int)),Z (.tup (x.2.2.map .int)),Z (.int i),Z (.int j),B]/\Od d M M'/\M' d=Z (.dct N2 ((bw (pre++ck i (gi x.1 i) j (gi x.2.1 j) (ixs x.2.2 l))).map kcD))) av ⟨_,rfl,Od.refl,by simpa[ck,ixs]using hd⟩ (λ_ _ _ _=>trivial) ?_ ?_
 ·rintro l k r ρ M1 e ⟨B,rfl,g1,G⟩;refine⟨_,rfl,λF F2=>?_⟩;have J:=ag e;rw[Jb]at J;have fv:k<L2:=by have h9:k∈J2 L2:=(by rw[e];simp);simpa using h9
  have O:=oO (pre++ck i (gi x.1 i) j (gi x.2.1 j) (ixs x.2.2 l));rw[q7,oP,kz]at O;unfold sbK;rw[cw];ac_nf;refine⟨⟨_,_,G⟩,by rw[r4];lia,_,_,G,rfl,_,iW ∅ ∅,_,iW ∅ ∅,?_⟩
  ac_nf;refine⟨cL (by have:=vt b1 (i:=(i:Int));unfold bd at this;lia),_,iW ∅ ∅,?_⟩
  ac_nf;refine⟨eP (by have:=vt b3 (i:=(k:Int));unfold bd at this;lia),?_⟩
  have ek:D.tup [D.int (k:Int),D.int (i:Int),D.int (j:Int)]=k3D (k,i,j):=rfl;rw[ek,ko];have eg:∀L:List Tm,((Option.map (λp:Tm=>D.int p.2) (L.find? λp=>decide (p.1=((k:Int),(i:Int),(j:Int))))).getD (.int 0))=.int (((L.find? λp=>decide (p.1=((k:Int),(i:Int),(j:Int)))).map (·.2)).getD 0):=λL=>by cases L.find? λp=>decide (p.1=((k:Int),(i:Int),(j:Int)))<;>rfl
  rw[eg];ac_nf;refine⟨by rw[r4];lia,oE G rfl (by rw[h7,r4];lia) ?_⟩
  rw[Ap (fS _)];refine F2 _ _ ⟨_,rfl,g1.upd,?_⟩;rw[aa,iZ,show ∀a b:Int,∀zs,∀z:Int×Int,ck i a j b (zs++[z])=ck i a j b zs++[((z.1,(i:Int),(j:Int)),a*b*z.2)] fromλa b zs z=>by simp[ck],<-Jq,eM]
 ·rintro ρ M1 ⟨B,rfl,g1,G⟩;dsimp only;ac_nf;exact q _ _ g1 G
theorem Ci{p:Ub}{x:Pr}{i:Nat}{B z:Option D}{pre:List Tm}(h1:L1<=1000)(h2:L2<=1000)(hi:i<x.1.length)(O:x.2.1.length=L1)(L:x.2.2.length=L2)(b1:Big x.1)(b3:Big x.2.2)(hd:M d=Z (.dct N2 ((bw pre).map kcD)))(hl:pre.length+L1*L2<=1000000)(q:∀M' B z,Od d M M'->M' d=Z (.dct N2 ((bw (pre++cl i (gi x.1 i) (idx x.2.1) (idx x.2.2))).map kcD))->E.nx [Z (scD L0 L1 L2 p),Z (.ref d),Z (.tup (x.1.map .int)),Z (.tup (x.2.1.map .int)),Z (.tup (x.2.2.map .int)),Z (.int i),B,z] M'):
 wSs Φ sbI E [Z (scD L0 L1 L2 p),Z (.ref d),Z (.tup (x.1.map .int)),Z (.tup (x.2.1.map .int)),Z (.tup (x.2.2.map .int)),Z (.int i),B,z] M:=by
 unfold sbI scD;nofun;refine⟨_,rfl,_,rfl,∅,∅,?_⟩
 rw[Jd];rw[<-ky O]at q;refine ao (I:=λl ρ M'=>∃B z,ρ=[Z (scD L0 L1 L2 p),Z (.ref d),Z (.tup (x.1.map .int)),Z (.tup (x.2.1.map .int)),Z (.tup (x.2.2.map .int)),Z (.int i),B,z]/\Od d M M'/\M' d=Z (.dct N2 ((bw (pre++cl i (gi x.1 i) (ixs x.2.1 l) (idx x.2.2))).map kcD))) av ⟨_,_,rfl,Od.refl,by simpa[cl,ixs]using hd⟩ (λ_ _ _ _=>trivial) ?_ ?_
 ·rintro l j r ρ M1 e ⟨B,z,rfl,g1,J⟩;refine⟨_,rfl,λF U=>?_⟩;have G:=ag e;rw[Jb]at G;have F2:j<L1:=by have fv:j∈J2 L1:=(by rw[e];simp);simpa using fv
  have hm:(l.length+1)*L2<=L1*L2:=LM _ G;rw[Kq]at hm;refine Ch h2 hi ∅ L b1 b3 J (by rw[q7,oQ,kz,dJ,L];lia) λM2 z g2 e2=>U _ _ ⟨_,_,rfl,g1.trans g2,?_⟩
  rw[e2,iZ,Jq,show ∀(a:Int) (ys zs:List (Int×Int)) (y:Int×Int),cl i a (ys++[y]) zs=cl i a ys zs++ck i a y.1 y.2 zs fromλa ys zs y=>by simp[cl]]
 ·rintro ρ M1 ⟨B,z,rfl,g1,J⟩;dsimp only;ac_nf;exact q _ _ _ g1 J
theorem oV(hf:T[f]?=Z (kA s)){n:Nat}(hn:1<=n)(h0:L0<=1000)(h1:L1<=1000)(h2:L2<=1000){p:Ub}{ps:List Pr}(hp:M p=Z (.lst (ps.map prD)))(hl:ps.length*(L0*(L1*L2))<=1000000)(hF:∀p∈ps,Big p.1/\Big p.2.2/\p.1.length=L0/\p.2.1.length=L1/\p.2.2.length=L2)(q:∀(L:List Tm) d M',IsSum ps L->L.length<=ps.length*(L0*(L1*L2))->Ge M M'->M d=Y->M' d=Z (.dct N2 (L.map kcD))->Q (.ref d) M'):phi T n f [.tup [.int L0,.int L1,.int L2,.ref p]] M Q:=by
 refine al ∅ hf rfl (ρ:=[Z (scD L0 L1 L2 p),Y,Y,Y,Y,Y,Y,Y]) rfl ?_
 unfold kA;nofun;intro d hd;have g0:=Ge.new (o:=.dct N2 []) hd;have d0:=aa (M:=M) (a:=d) (o:=.dct N2 []);generalize ah M d (.dct N2 [])=M0 at g0 d0⊢;unfold scD;nofun;refine⟨_,rfl,_,ab (g0 _ _ hp),?_⟩;have GL:p≠d:=λz=>by rw[z,hd]at hp;cases hp
 have cfR:∀ps:List Pr,∀k,cf (ps.flatMap λx=>bQ (idx x.1) (idx x.2.1) (idx x.2.2)) k=cf (sR ps) k:=λps k=>by obtain⟨k,i,j⟩:=k;rw[kx,kr];unfold Tn;congr 1;exact Kz λx _=>by rw[ku,ff,ff,ff]
 refine ao (f:=prD) (ys:=ps) (I:=λl ρ M'=>∃o2 o3 o4 o5 O U,ρ=[Z (scD L0 L1 L2 p),Z (.ref d),o2,o3,o4,o5,O,U]/\Ge M M'/\M' d=Z (.dct N2 ((bw (l.flatMap λx=>bQ (idx x.1) (idx x.2.1) (idx x.2.2))).map kcD))/\(l.flatMap λx=>bQ (idx x.1) (idx x.2.1) (idx x.2.2)).length=l.length*(L0*(L1*L2))) rfl ⟨_,_,_,_,_,_,rfl,g0,d0,by simp⟩ (λl ρ M' ⟨_,_,_,_,_,_,_,g,_⟩=>ab (g _ _ hp)) ?_ ?_
 ·rintro l x r ρ M1 e ⟨o2,o3,o4,o5,O,U,rfl,g1,hM,hlen⟩;refine⟨_,rfl,λF GF=>?_⟩;obtain⟨b1,b3,e0,e1,e2⟩:=hF x (by rw[e];simp)
  have GB:=ag e;have hm:(l.length+1)*(L0*(L1*L2))<=ps.length*(L0*(L1*L2)):=LM _ GB;rw[Kq]at hm;unfold scD;nofun;refine⟨_,rfl,_,rfl,∅,∅,?_⟩
  rw[Jd];generalize F2:(l.flatMap λx=>bQ (idx x.1) (idx x.2.1) (idx x.2.2))=pre at hM hlen;have B:(pre++bQ (idx x.1) (idx x.2.1) (idx x.2.2)).length=(l.length+1)*(L0*(L1*L2)):=by rw[q7,oR,dJ,dJ,dJ,hlen,e0,e1,e2,Kq]
  refine ao (I:=λl' ρ M'=>∃o5 O U,ρ=[Z (scD L0 L1 L2 p),Z (.ref d),Z (.tup (x.1.map .int)),Z (.tup (x.2.1.map .int)),Z (.tup (x.2.2.map .int)),o5,O,U]/\Od d M1 M'/\M' d=Z (.dct N2 ((bw (pre++bQ (ixs x.1 l') (idx x.2.1) (idx x.2.2))).map kcD))) av ⟨_,_,_,rfl,Od.refl,by simpa[bQ,ixs]using hM⟩ (λ_ _ _ _=>trivial) ?_ ?_
  ·rintro l' i r' ρ M2 e' ⟨o5,O,U,rfl,g2,G⟩;refine⟨_,rfl,λF2 GG=>?_⟩;have fv:=ag e';rw[Jb]at fv;have GM:i<L0:=by have h9:i∈J2 L0:=(by rw[e'];simp);simpa using h9
   have GH:(l'.length+1)*(L1*L2)<=L0*(L1*L2):=LM _ fv;rw[Kq]at GH;refine Ci h1 h2 ∅ e1 e2 b1 b3 G (by rw[q7,oR,kz,dJ,dJ,hlen,e1,e2];lia) λM3 O U g3 e3=>GG _ _ ⟨_,_,_,rfl,g2.trans g3,?_⟩
   rw[e3,iZ,Jq,show ∀(xs ys zs:List (Int×Int)) (y:Int×Int),bQ (xs++[y]) ys zs=bQ xs ys zs++cl y.1 y.2 ys zs fromλxs ys zs y=>by simp[bQ]]
  ·rintro ρ M2 ⟨o5,O,U,rfl,g2,G⟩;dsimp only;ac_nf;rw[ky e0]at G;refine GF _ _ ⟨_,_,_,_,_,_,rfl,λa o ea=>?_,?_,?_⟩
   ·by_cases had:a=d
    ·subst had;rw[hd]at ea;cases ea
    ·rw[g2 a had];exact g1 _ _ ea
   ·rw[G,JV,F2,Ka,Sz,K9]
   ·rw[JV,F2,Ka,Sz,K9,B,q7,JC]
 ·rintro ρ M1 ⟨o2,o3,o4,o5,O,U,rfl,g1,hM,hlen⟩;dsimp only;nofun;refine km rfl hM ?_;generalize B:(ps.flatMap λx=>bQ (idx x.1) (idx x.2.1) (idx x.2.2))=raw at hM hlen⊢;have fd:=aa (M:=M1) (a:=d) (o:=.fdc ((bw raw).map kcD));have g2:Ge M (ah M1 d (.fdc ((bw raw).map kcD))):=g1.upd hd;have GI:=oO raw;have J:=fS raw;have GC:=Ar raw;generalize ah M1 d (.fdc ((bw raw).map kcD))=M2 at fd g2⊢;generalize bw raw=L at fd GI J GC;ac_nf;refine⟨_,fd,?_⟩;refine ak (f:=λt:Tm=>k3D t.1) (ys:=L) (I:=λl ρ M' acc=>(∃o0,ρ=[o0,Z (.ref d)])/\M'=M2/\acc=(l.filter λt=>!(t.2==0)).map λt=>.tup [k3D t.1,.int t.2]) (by rw[Kf];rfl) ⟨⟨_,rfl⟩,rfl,rfl⟩ (λ_ _ _ _ _=>trivial) ?_ ?_
  ·rintro l t r ρ M3 acc e ⟨⟨o0,rfl⟩,rfl,rfl⟩;refine⟨_,rfl,λN' GD=>?_⟩;have GB:=ag e;have ht:t∈L:=by rw[e];simp
   have GJ:(l.filter λt=>!(t.2==0)).length<=l.length:=Jv _ _;ac_nf;refine jI fd (fT _) (cM J ht) ?_;ac_nf
   by_cases hz:t.2=0
   ·rw[if_neg (by simp[hz])]
    refine GD _ _ _ ⟨⟨_,rfl⟩,rfl,?_⟩;rw[JF,JH (by simp[hz])];simp
   ·rw[if_pos (by simp[hz])]
    refine jI fd (fT _) (cM J ht) ?_;refine⟨by rw[r4];lia,by rw[h7,r4];lia,GD _ _ _ ⟨⟨_,rfl⟩,rfl,?_⟩⟩
    rw[JF,Jz (by simp[hz])];simp
  ·rintro ρ M3 acc ⟨⟨o0,rfl⟩,rfl,rfl⟩ p2 hp2;have GJ:(L.filter λt=>!(t.2==0)).length<=L.length:=Jv _ _;have GE:((L.filter λt=>!(t.2==0)).map (·.1)).Nodup:=J.sublist (Ov _ Nx);refine⟨p2,(L.filter λt=>!(t.2==0)).map kcD,rfl,by rw[aa,Kf];rfl,λkv GK=>?_,by rw[h7,r4];lia,λpf GA=>?_⟩
   ·obtain⟨t,_,rfl⟩:=J8.mp GK;exact fT _
   ·rw[iX GE];have g3:=g2.trans (Ge.new (o:=.lst ((L.filter λt=>!(t.2==0)).map λt=>D.tup [k3D t.1,.int t.2])) hp2);refine q (L.filter λt=>!(t.2==0)) pf _ ⟨GE,λt ht=>?_,λk=>by rw[DO,GC,<-B,cfR]⟩ ∅ (g3.trans (Ge.new GA)) ?_ aa
    ·have:=(KJ.mp ht).2;simpa using this
    ·cases hz:M pf with
     |none=>rfl
     |some o=>rw[g3 _ _ hz]at GA;cases GA
noncomputable def kB(s:Stmt):FD:=⟨"_law_terms",s,["_law_sums_here"],1,
 (.cons (.ret (.comp [Y,(Z 0)] ["_law_place","_law_sums_here"] (.last (.seq (.blt .sortk (.cons (.var 0) .nil))) (.name 0) .nil (.bin .add (.var 0) (.tup (.cons (.ix (.var 1) (.var 0)) .nil))))))
 .nil)⟩
theorem xW(hf:T[f]?=Z (kB s)){n:Nat}(hn:1<=n){L:List Tm}(z:(L.map (·.1)).Nodup)(hl:L.length<=1000000)(hd:M d=Z (.dct N2 (L.map kcD)))(q:∀(rs:List Tm) p M',rs.Perm L->(rs.Pairwise λa b=>klt a.1 b.1)->Ge M M'->M p=Y->M' p=Z (.lst (rs.map tmD))->Q (.ref p) M'):phi T n f [.ref d] M Q:=by
 refine al ∅ hf rfl (ρ:=[Z _]) rfl ?_
 unfold kB;nofun;refine⟨d,N2,_,.tup [.int,.int,.int],rfl,hd,rfl,λkv G=>?_,λps ys J j B=>?_⟩
 ·obtain⟨t,_,rfl⟩:=J8.mp G;rfl
 obtain⟨rs,O,rfl,U⟩:=q8 z j B;have F:=Ge.new (o:=.lst (rs.map λt=>k3D t.1)) J;have d7:=F _ _ hd;have F2:=aa (M:=M) (a:=ps) (o:=.lst (rs.map λt=>k3D t.1));generalize ah M ps (.lst (rs.map λt=>k3D t.1))=M7 at F d7 F2⊢;have GA:rs.length<=1000000:=by rw[O.length_eq];lia
 refine⟨_,ab F2,?_⟩;refine ak (f:=λt:Tm=>k3D t.1) (ys:=rs) (I:=λl ρ M' acc=>(∃o0,ρ=[o0,Z (.ref d)])/\M'=M7/\acc=l.map tmD) rfl ⟨⟨_,rfl⟩,rfl,rfl⟩ (λ_ _ _ _ h=>by rw[h.2.1];exact ab F2) ?_ ?_
 ·rintro l t r ρ M8 acc e ⟨⟨o0,rfl⟩,rfl,rfl⟩;refine⟨_,rfl,λN' fv=>?_⟩;have GB:=ag e;have ht:t∈L:=O.mem_iff.mp (by rw[e];simp)
  ac_nf;refine .inr (.inl ⟨N2,_,_,d7,rfl,cM z ht,?_⟩);refine⟨by rw[r4];lia,?_⟩
  unfold k3D;ac_nf;refine⟨.inr trivial,by rw[r4];lia,by rw[h7,r4];lia,fv _ _ _ ⟨⟨_,rfl⟩,rfl,?_⟩⟩
  rw[Jc];rfl
 ·rintro ρ M8 acc ⟨⟨o0,rfl⟩,rfl,rfl⟩ p2 hp2;refine q rs p2 _ O U (F.trans (Ge.new hp2)) ?_ aa
  cases hz:M p2 with
  |none=>rfl
  |some o=>rw[F _ _ hz]at hp2;cases hp2
end
section
open L2.Srt
variable{T:List FD}
noncomputable def ov(p:Int)(L:List Tm):List Tm:=(L.filter λt=>!(t.2%p==0)).map λt=>(t.1,t.2%p)
theorem qK{p:Int}{L:List Tm}(h:(L.map (·.1)).Nodup):((ov p L).map (·.1)).Nodup:=by unfold ov;rw[Kf];exact h.sublist (Ov _ Nx)
theorem yN{p:Int}{L:List Tm}:∀t∈ov p L,t.2≠0:=λt j=>by unfold ov at j;obtain⟨u,q,rfl⟩:=J8.mp j;have:=(KJ.mp q).2;simpa using this
theorem sX{p:Int}{k:K3}:∀{L:List Tm},(L.map (·.1)).Nodup->cf (ov p L) k=cf L k%p
 |[],_=>by simp[ov,cF]
 |t::L,h=>by
  rw[Jr,KA]at h;have ih:=sX (p:=p) (k:=k) h.2;rw[aQ]
  by_cases e:t.1=k
  ·have z:cf L k=0:=fb λu q eu=>h.1 (by rw[e,<-eu];exact JA q)
   rw[z]at ih;rw[if_pos e,z,OY];unfold ov at ih⊢
   by_cases j:t.2%p=0
   ·rw[JH (by simp[j]),ih,j];simp
   ·rw[Jz (by simp[j]),Jr,aQ,if_pos e,ih];simp
  ·rw[if_neg e,Sa];unfold ov at ih⊢
   by_cases j:t.2%p=0
   ·rw[JH (by simp[j]),ih]
   ·rw[Jz (by simp[j]),Jr,aQ,if_neg e,ih];simp
theorem oW{α:Type}[DecidableEq α]:∀{a b:List α},a.Nodup->(∀x∈a,x∈b)->b.length<=a.length->a.Perm b
 |[],b,_,_,h=>by
  have:b=[]:=JL.mp (by simpa using h)
  rw[this]
 |x::a,b,j,hs,h=>by
  rw[KA]at j;have hx:=hs x (by simp)
  have h1:=PQ hx;have ih:=oW (b:=b.erase x) j.2 (λy q=>(QZ (λz:y=x=>j.1 (by rw[<-z];exact q))).mpr (hs y (by simp[q]))) (by rw[Jw]at h;lia)
  exact(ih.cons x).trans (List.perm_cons_erase hx).symm
theorem Cj{a b:List Tm}(j:(a.map (·.1)).Nodup)(q:(b.map (·.1)).Nodup)(za:∀t∈a,t.2≠0)(zb:∀t∈b,t.2≠0):eqD (a.map kcD) (b.map kcD)=N2↔∀k,cf a k=cf b k:=by
 constructor
 ·intro h k;unfold eqD at h;rw[D1]at h;obtain⟨h1,h2⟩:=h;rw[Mh]at h2;have sub:∀t∈a,t∈b:=fun t B=>by
   have:=of_decide_eq_true (h2 (kcD t) (JA B));rw[show(kcD t).1=k3D t.1 from rfl,ko]at this;obtain⟨u,z,e⟩:=Mb.mp this;have F:=List.find?_some z;have G:=Pn z;have J:u.1=t.1:=of_decide_eq_true F;have L:u.2=t.2:=D.int.inj e;rw[show t=u from Tf J.symm L.symm];exact G
  have pm:a.Perm b:=oW (sU j) sub (by
   have:a.length=b.length:=by simpa using h1
   lia)
  exact Ao pm
 ·intro h;exact xV q (Au j q za zb h)
end
section
open L2.Srt
noncomputable def chF(P n:Nat)(A:List (Nat->Int))(ts:List (List Int)):List (Nat->Int):=ts.foldl (λA t=>@ite _ (Sp P n A (gf t)) (LV _) A (A++[gf t])) A
theorem fg{n:Nat}:chF P n A []=A:=rfl
theorem cN{n:Nat}{t:List Int}(h:Sp P n A (gf t)):chF P n A (t::ts)=chF P n A ts:=by unfold chF;rw[L5,if_pos h]
theorem bH{n:Nat}{t:List Int}(h:¬Sp P n A (gf t)):chF P n A (t::ts)=chF P n (A++[gf t]) ts:=by unfold chF;rw[L5,if_neg h]
theorem qL{n:Nat}{us:List (List Int)}:chF P n A (ts++us)=chF P n (chF P n A ts) us:=by unfold chF;rw[Nj]
theorem gy{n:Nat}{t:List Int}(h:Sp P n (chF P n A ts) (gf t)):chF P n A (ts++[t])=chF P n A ts:=by rw[qL,cN h];rfl
theorem cO{n:Nat}{t:List Int}(h:¬Sp P n (chF P n A ts) (gf t)):chF P n A (ts++[t])=chF P n A ts++[gf t]:=by rw[qL,bH h];rfl
theorem Sp.moreL{p:Int}{n:Nat}{bs:List (Nat->Int)}{f:Nat->Int}(h:Sp p n bs f):∀us:List (Nat->Int),Sp p n (bs++us) f
 |[]=>by rw[K9];exact h
 |u::us=>by
  rw[show bs++u::us=(bs++[u])++us by simp]
  exact Sp.moreL h.more us
theorem i8{P n:Nat}:∀{ts:List (List Int)} {A:List (Nat->Int)},∃us,chF P n A ts=A++us/\us.length<=ts.length
 |[],A=>⟨[],by rw[fg,K9],J6 _⟩
 |t::ts,A=>by
  by_cases h:Sp P n A (gf t)
  ·obtain⟨us,e,j⟩:=i8 (P:=P) (n:=n) (ts:=ts) (A:=A);exact⟨us,by rw[cN h,e],by rw[Jw];lia⟩
  ·obtain⟨us,e,j⟩:=i8 (P:=P) (n:=n) (ts:=ts) (A:=A++[gf t]);exact⟨gf t::us,by rw[bH h,e];simp,by rw[Jw,Jw];lia⟩
theorem Av{n:Nat}:(chF P n A ts).length<=A.length+ts.length:=by obtain⟨us,e,j⟩:=i8 (P:=P) (n:=n) (ts:=ts) (A:=A);rw[e,q7];lia
theorem oZ{n:Nat}{f:Nat->Int}(h:Sp P n A f):Sp P n (chF P n A ts) f:=by obtain⟨us,e,_⟩:=i8 (P:=P) (n:=n) (ts:=ts) (A:=A);rw[e];exact h.moreL us
theorem fh{P n:Nat}:∀{ts:List (List Int)} {A:List (Nat->Int)} {t:List Int},t∈ts->Sp P n (chF P n A ts) (gf t)
 |u::ts,A,t,h=>by
  rcases Jp.mp h with rfl|h
  ·by_cases e:Sp P n A (gf t)
   ·rw[cN e];exact oZ e
   ·rw[bH e];exact oZ Sp.last
  ·by_cases e:Sp P n A (gf u)
   ·rw[cN e];exact fh h
   ·rw[bH e];exact fh h
theorem p9{P n:Nat}:∀{ts:List (List Int)} {A:List (Nat->Int)},(chF P n A ts).length<A.length+ts.length->∃i,i<ts.length/\chF P n A (ts.eraseIdx i)=chF P n A ts
 |[],A,h=>by rw[fg]at h;simp at h
 |t::ts,A,h=>by
  by_cases e:Sp P n A (gf t)
  ·exact⟨0,by simp,by rw[cN e];rfl⟩
  ·rw[bH e,Jw,<-PM,Nat.add_right_comm]at h;obtain⟨i,hi,q⟩:=p9 (A:=A++[gf t]) (ts:=ts) (by rw[q7,JC];exact h)
   exact⟨i+1,by rw[Jw];lia,by rw[List.eraseIdx_cons_succ,bH e,bH e,q]⟩
theorem vw{P n:Nat}{A:List (Nat->Int)}(T:List (List Int)):∀k,k<=T.length->∃ix:List Nat,ix.Pairwise (· < ·)/\(∀i∈ix,i<k)/\chF P n A (ix.map λi=>T.getD i [])=chF P n A (T.take k)/\(chF P n A (T.take k)).length=A.length+ix.length
 |0,_=>⟨[],.nil,by simp,by simp[fg],by simp[fg]⟩
 |k+1,h=>by
  obtain⟨ix,h1,h2,j,z⟩:=vw (P:=P) (n:=n) (A:=A) T k ∅
  have e:T.take (k+1)=T.take k++[T.getD k []]:=by rw[Ln,z4 ∅];simp[Jo,z4 (show k<T.length by lia)]
  by_cases q:Sp P n (chF P n A (T.take k)) (gf (T.getD k []))
  ·exact⟨ix,h1,λi hi=>by have:=h2 i hi;lia,by rw[e,gy q,j],by rw[e,gy q,z]⟩
  ·refine⟨ix++[k],?_,?_,?_,?_⟩
   ·rw[IZ];exact⟨h1,by simp,λa B b F=>by rw[JE.mp F];exact h2 a B⟩
   ·intro i hi
    rcases Ja.mp hi with hi|hi
    ·have:=h2 i hi;lia
    ·rw[JE.mp hi];lia
   ·rw[Jc,Jr,Kx,e,cO (by rw[j];exact q),j,cO q]
   ·rw[e,cO q,q7,q7,z];simp;lia
def In(P n:Nat)(A:List (Nat->Int)):Prop:=∃keys,Kn P n A keys
theorem In.init{n:Nat}(j:P=2∨P=3):In P n []:=⟨_,Kn.init ∅⟩
theorem In.step{n:Nat}(j:P=2∨P=3){t:List Int}(h:In P n A)(q:Vr P n t)(z:¬Sp P n A (gf t)):In P n (A++[gf t]):=let⟨k,h⟩:=h; ⟨_,h.step j q z⟩
theorem In.ch{P n:Nat}(j:P=2∨P=3):∀{ts:List (List Int)} {A:List (Nat->Int)},In P n A->(∀t∈ts,Vr P n t)->In P n (chF P n A ts)
 |[],A,h,_=>h
 |t::ts,A,h,q=>by
  by_cases e:Sp P n A (gf t)
  ·rw[cN e];exact In.ch j h λx hx=>q x (J3 _ hx)
  ·rw[bH e];exact In.ch j (h.step j (q t Je) e) λx hx=>q x (J3 _ hx)
theorem i9{α:Type}[DecidableEq α]:∀{l₁ l₂:List α},l₁.Nodup->(∀x∈l₁,x∈l₂)->l₁.length<=l₂.length
 |[],_,_,_=>Ku _
 |a::l,l₂,h,hs=>by
  rw[KA]at h;have j:=hs a Je;have ih:=i9 (l₂:=l₂.erase a) h.2 λx hx=>(QZ λz=>h.1 (by rw[<-z];exact hx)).mpr (hs x (J3 _ hx))
  rw[PQ j]at ih;have:=List.length_pos_of_mem j;rw[Jw];lia
theorem mN{a b:Nat}(j:P=2∨P=3)(h:P^a<=P^b):a<=b:=by
 rcases OX b a with k|k
 ·have:=Nat.pow_lt_pow_right (a:=P) ∅ k
  lia
 ·exact k
theorem In.le{n:Nat}(j:P=2∨P=3)(q:In P n A)(z:In P n B)(h:∀v,Vr P n v->Sp P n A (gf v)->Sp P n B (gf v)):A.length<=B.length:=by obtain⟨k,ka⟩:=q;obtain⟨l,kb⟩:=z;have:=i9 ka.nd λx hx=>(kb.mem x).mpr ⟨((ka.mem x).mp hx).1,h x ((ka.mem x).mp hx).1 ((ka.mem x).mp hx).2⟩;rw[ka.len,kb.len]at this;exact mN j this
theorem In.all{n:Nat}(J:P=2∨P=3)(j:In P n A)(q:In P n B)(h:∀v,Vr P n v->Sp P n A (gf v)->Sp P n B (gf v))(e:A.length=B.length)(F:Vr P n v)(hs:Sp P n B (gf v)):Sp P n A (gf v):=by
 obtain⟨k,ka⟩:=j;obtain⟨l,kb⟩:=q;apply Lx;intro G;have hm:v∉k:=λz=>G ((ka.mem v).mp z).2;have:=i9 (l₁:=v::k) (l₂:=l) (KA.mpr ⟨hm,ka.nd⟩) λx hx=>by
  rcases Jp.mp hx with rfl|hx
  ·exact(kb.mem x).mpr ⟨F,hs⟩
  ·exact(kb.mem x).mpr ⟨((ka.mem x).mp hx).1,h x ((ka.mem x).mp hx).1 ((ka.mem x).mp hx).2⟩
 rw[Jw,ka.len,kb.len,e]at this;lia
theorem Bs.le{n:Nat}(h:Bs P n A base):A.length<=n:=by
 have nd:(base.map (·.1)).Nodup:=by rw[JI,KU];refine MM (λ{a b} ha hb hab e=>?_) h.tri;rw[e,(h.pl b hb).2]at hab;exact absurd hab (by decide)
 have:=i9 (l₂:=J2 n) nd λx hx=>by obtain⟨e,he,rfl⟩:=J8.mp hx;exact K2.mpr (h.pl e he).1
 rw[h7,Jb,h.len]at this;exact this
noncomputable def dlk(k:Nat):Nat->Int:=λx=>if x=k then 1 else 0
theorem Sp.units{p:Int}{n:Nat}(h:∀k,k<n->Sp p n B (dlk k))(f:Nat->Int):Sp p n B f:=by
 have go:∀k,k<=n->Sp p n B λx=>if x<k then f x else 0:=by
  intro k
  induction k with
  |zero=>intro _;exact TY λx _=>by simp
  |succ k ih=>
   intro j;refine((ih ∅).comb (k:=f k) (h k ∅)).congr λx _=>?_
   unfold dlk
   by_cases e:x=k
   ·subst e;simp
   ·by_cases e2:x<k
    ·rw[if_pos e2,if_neg e,if_pos ∅];simp
    ·rw[if_neg e2,if_neg e,if_neg ∅];simp
 exact(go n (J6 _)).congr λx hx=>by rw[if_pos hx];simp
end
section
open L2.Srt
noncomputable def bn:Nat->Nat->Nat
 |_,0=>1
 |0,_+1=>0
 |n+1,k+1=>bn n k+bn n (k+1)
theorem bn_0{n:Nat}:bn n 0=1:=by cases n<;>rfl
theorem dN:∀{n k:Nat},n<k->bn n k=0
 |0,k+1,_=>rfl
 |n+1,k+1,h=>by show bn n k+bn n (k+1)=0;rw[dN (show n<k by lia),dN (show n<k+1 by lia)]
theorem vx:∀{n k:Nat},k<=n->1<=bn n k
 |n,0,_=>by rw[bn_0];exact J6 _
 |n+1,k+1,h=>by
  show 1<=bn n k+bn n (k+1);have:=vx (n:=n) (k:=k) ∅
  lia
theorem qM{n:Nat}:bn n n=1:=by
 induction n with
 |zero=>rfl
 |succ n ih=>show bn n n+bn n (n+1)=1;rw[ih,dN ∅]
theorem kC:∀{n a b:Nat},a+b=n->bn n a=bn n b
 |0,a,b,h=>by
  have:a=0:=∅
  have:b=0:=∅
  subst a;subst b;rfl
 |n+1,0,b,h=>by
  have:b=n+1:=∅
  subst this;rw[bn_0,qM]
 |n+1,a+1,0,h=>by
  have:a=n:=∅
  subst this;rw[bn_0,qM]
 |n+1,a+1,b+1,h=>by show bn n a+bn n (a+1)=bn n b+bn n (b+1);rw[kC (show a+(b+1)=n by lia),kC (show(a+1)+b=n by lia),RT]
theorem Ck{k:Nat}:bn m k*(k+1)+bn m k*(m-k)=bn m k*(m+1):=by
 by_cases h:k<=m
 ·rw[<-Nat.mul_add,show k+1+(m-k)=m+1 by lia]
 ·rw[dN ∅];simp
theorem ic:∀{m k:Nat},bn m (k+1)*(k+1)=bn m k*(m-k)
 |0,k=>by simp[bn]
 |m+1,0=>by have ih:=ic (m:=m) (k:=0);have e:bn (m+1) (0+1)=bn m 0+bn m (0+1):=rfl;rw[bn_0]at ih;rw[e,bn_0,bn_0];lia
 |m+1,k+1=>by
  have j:=ic (m:=m) (k:=k+1);have q:=ic (m:=m) (k:=k);have a1:=Ck (m:=m) (k:=k+1);have z:bn (m+1) (k+1+1)=bn m (k+1)+bn m (k+1+1):=rfl;have B:bn (m+1) (k+1)=bn m k+bn m (k+1):=rfl;have F:m+1-(k+1)=m-k:=∅
  have a2:bn m (k+1)*(k+1)+bn m (k+1)*(m-k)=bn m (k+1)*(m+1):=by
   by_cases h:k<=m
   ·rw[<-Nat.mul_add,show k+1+(m-k)=m+1 by lia]
   ·rw[dN (show m<k+1 by lia)];simp
  rw[z,B,F,Nat.add_mul,Nat.add_mul,j,<-q,a1,a2]
noncomputable def cnt(m:Nat):Nat->Nat
 |0=>1
 |k+1=>cnt m k*(m-k) / (k+1)
theorem ph{m:Nat}:∀k,cnt m k=bn m k
 |0=>bn_0.symm
 |k+1=>by show cnt m k*(m-k) / (k+1)=_;rw[ph k,<-ic,Nat.mul_div_cancel _ ∅]
theorem Aw{e:Nat}(h:e<=m):cnt m (min e (m-e))=bn m e:=by
 rw[ph]
 by_cases k:e<=m-e
 ·rw[Ms k]
 ·rw[Nat.min_eq_right ∅];exact kC ∅
theorem vy{r:Nat}:∀{M:Nat},((J2 (M-r)).map λi=>bn (M-(i+1)) r).sum=bn M (r+1)
 |0=>by simp[bn]
 |M+1=>by
  by_cases h:r<=M
  ·rw[show M+1-r=(M-r)+1 by lia,List.range_succ_eq_map,Jr,Rq,Kf]
   have ih:=vy (r:=r) (M:=M);show _=bn M r+bn M (r+1);rw[<-ih];congr 1;congr 1;refine Kz λi _=>?_;show bn (M+1-(i+1+1)) r=_;congr 1;lia
  ·rw[show M+1-r=0 by lia,dN ∅];rfl
noncomputable def fsx(c:List Nat):Nat:=match c.getLast? with|none=>0|some x=>x+1
noncomputable def exs(m e k:Nat)(c:List Nat):List (List Nat):=(J2 (m-e+k+1-fsx c)).map λi=>c++[fsx c+i]
noncomputable def stp(m e k:Nat)(cs:List (List Nat)):List (List Nat):=cs.flatMap (exs m e k)
noncomputable def sts(m e:Nat):Nat->List (List Nat)
 |0=>[[]]
 |k+1=>stp m e k (sts m e k)
theorem cc{c:List Nat}{x:Nat}:fsx (c++[x])=x+1:=by unfold fsx;simp
theorem cP{m e:Nat}:∀{k:Nat},∀c,c∈sts m e k↔c.length=k/\c.Pairwise (· < ·)/\∀(i x:Nat),c[i]?=Z x->x<=m-e+i
 |0,c=>by
  constructor
  ·intro h;have:c=[]:=by simpa[sts]using h
   subst this;exact⟨rfl,.nil,by simp⟩
  ·rintro⟨h,_,_⟩;rw[JL.mp h];simp[sts]
 |k+1,c=>by
  constructor
  ·intro h;obtain⟨u,B,h⟩:=KD.mp (show c∈(sts m e k).flatMap (exs m e k)from h);obtain⟨i,hi,rfl⟩:=J8.mp h;have hi:=K2.mp hi;obtain⟨h1,h2,z⟩:=(cP u).mp B;refine⟨by rw[q7,h1];rfl,?_,λj x hx=>?_⟩
   ·rw[IZ];refine⟨h2,by simp,λa q b J=>?_⟩
    rw[JE.mp J]
    rcases Kv u with rfl|⟨u',y,rfl⟩
    ·cases q
    ·rw[Kw]at *
     rw[cc]
     rcases Ja.mp q with q|q
     ·have:=(IZ.mp h2).2.2 a q y (by simp)
      lia
     ·rw[JE.mp q];lia
   ·by_cases hj:j<u.length
    ·rw[J1 hj]at hx;exact z j x hx
    ·rw[IX ∅]at hx
     have:j-u.length=0:=by have:=(J0.mp hx).1;simp at this;lia
     rw[this]at hx;have hx:fsx u+i=x:=by simpa using hx
     lia
  ·rintro⟨h1,h2,z⟩
   rcases Kv c with rfl|⟨u,x,rfl⟩
   ·simp at h1
   ·rw[Kw]at *
    rw[IZ]at h2;have F:u.length=k:=by rw[q7,JC]at h1;lia
    have B:=(cP (m:=m) (e:=e) (k:=k) u).mpr ⟨F,h2.1,λi y G=>z i y (by rw[J1 (J0.mp G).1];exact G)⟩
    have hx:=z k x (by rw[IX ∅,F,Nu];rfl)
    have hf:fsx u<=x:=by
     rcases Kv u with rfl|⟨u',y,rfl⟩
     ·exact Ku _
     ·rw[Kw]at *
      rw[cc];exact h2.2.2 y (by simp) x (by simp)
    show _∈(sts m e k).flatMap (exs m e k);exact KD.mpr ⟨u,B,J8.mpr ⟨x-fsx u,K2.mpr ∅,by rw[show fsx u+(x-fsx u)=x by lia]⟩⟩
theorem pi{m:Nat}:∀{c:List Nat},c.Pairwise (· < ·)->(∀x∈c,x<m)->∀(i x:Nat),c[i]?=Z x->x+(c.length-i)<=m
 |a::c,h,hm,0,x,e=>by
  have:a=x:=by simpa using e
  subst this;have j:=hm a Je
  cases c with
  |nil=>simp;lia
  |cons b c=>have ih:=pi (c:=b::c) (Lf.mp h).2 (λx hx=>hm x (J3 _ hx)) 0 b rfl;have:=(Lf.mp h).1 b Je;rw[Jw];lia
 |a::c,h,hm,i+1,x,e=>by
  have ih:=pi (c:=c) (Lf.mp h).2 (λx hx=>hm x (J3 _ hx)) i x (by simpa using e)
  rw[Jw];lia
theorem qN{e:Nat}{c:List Nat}(j:c.length=e)(h:c.Pairwise (· < ·))(hm:∀x∈c,x<m):c∈sts m e e:=by refine(cP c).mpr ⟨j,h,λi x hx=>?_⟩;have:=pi h hm i x hx;have hi:=(J0.mp hx).1;lia
theorem pj{e:Nat}(he:e<=m){c:List Nat}(h:c∈sts m e e):c.length=e/\c.Pairwise (· < ·)/\∀x∈c,x<m:=by obtain⟨h1,h2,j⟩:=(cP c).mp h;refine⟨h1,h2,λx hx=>?_⟩;obtain⟨i,hi⟩:=LN hx;have:=j i x hi;have:=(J0.mp hi).1;lia
theorem pv{α β:Type}(f:α->List β)(g:β->Nat):∀l:List α,((l.flatMap f).map g).sum=(l.map λa=>((f a).map g).sum).sum
 |[]=>rfl
 |a::l=>by rw[Ka,Jc,List.sum_append,pv f g l,Jr,Rq]
theorem qO{m e:Nat}(he:e<=m):∀{k:Nat},k<=e->((sts m e k).map λc=>bn (m-fsx c) (e-k)).sum=bn m e
 |0,_=>by simp[sts,fsx]
 |k+1,j=>by
  show(((sts m e k).flatMap (exs m e k)).map λc=>bn (m-fsx c) (e-(k+1))).sum=_;rw[pv,<-qO he (k:=k) ∅]
  congr 1;refine Kz λc _=>?_;have h:=vy (r:=e-(k+1)) (M:=m-fsx c);rw[show e-(k+1)+1=e-k by lia]at h
  rw[<-h];unfold exs;rw[Kf,show m-e+k+1-fsx c=m-fsx c-(e-(k+1)) by lia]
  congr 1;refine Kz λi _=>?_;show bn (m-fsx (c++[fsx c+i])) _=_;rw[cc];congr 1;lia
theorem pz{α:Type}(g:α->Nat):∀{l:List α},(∀a∈l,1<=g a)->l.length<=(l.map g).sum
 |[],_=>Ku _
 |a::l,h=>by have:=pz g (l:=l) λx hx=>h x (J3 _ hx);have:=h a Je;rw[Jr,Rq,Jw];lia
theorem qP{e:Nat}(he:e<=m){k:Nat}(j:k<=e):(sts m e k).length<=bn m e:=by
 rw[<-qO he j];refine pz _ λc q=>vx ?_;obtain⟨h1,h2,z⟩:=(cP c).mp q
 rcases Kv c with rfl|⟨u,x,rfl⟩
 ·show e-k<=m-0;lia
 ·rw[Kw]at *
  rw[cc];have B:u.length+1=k:=by simpa using h1
  have:=z u.length x (by simp)
  lia
end
section
open L2.Srt
noncomputable def cm(g:Nat->Nat->Int)(c:Nat->Int):Nat->Nat->Int
 |0,_=>0
 |k+1,x=>cm g c k x+c k*g k x
theorem eA{g g':Nat->Nat->Int}{c c':Nat->Int}{x:Nat}:∀{k:Nat},(∀i,i<k->c i*g i x=c' i*g' i x)->cm g c k x=cm g' c' k x
 |0,_=>rfl
 |k+1,h=>by show cm g c k x+c k*g k x=cm g' c' k x+c' k*g' k x;rw[eA λi hi=>h i ∅,h k ∅]
theorem qQ{g:Nat->Nat->Int}{c:Nat->Int}{a:Int}{x:Nat}:∀{k:Nat},cm g (λi=>a*c i) k x=a*cm g c k x
 |0=>by simp[cm]
 |k+1=>by show cm g (λi=>a*c i) k x+a*c k*g k x=a*(cm g c k x+c k*g k x);rw[qQ,SS,Ro]
theorem pA{g:Nat->Nat->Int}{c d:Nat->Int}{x:Nat}:∀{k:Nat},cm g (λi=>d i-c i) k x=cm g d k x-cm g c k x
 |0=>by simp[cm]
 |k+1=>by show cm g (λi=>d i-c i) k x+(d k-c k)*g k x=cm g d k x+d k*g k x-(cm g c k x+c k*g k x);rw[pA,Int.sub_mul];lia
theorem sp_cm{p:Int}{n:Nat}{g:Nat->Nat->Int}:∀{k:Nat} {f:Nat->Int},Sp p n ((J2 k).map g) f↔∃c:Nat->Int,∀x,x<n->p ∣ f x-cm g c k x
 |0,f=>by
  constructor
  ·intro h;exact⟨λ_=>0,λx hx=>by have:=h x hx;simpa[cm]using this⟩
  ·rintro⟨c,h⟩ x hx;have:=h x hx;simpa[cm]using this
 |k+1,f=>by
  rw[Nb,Jc,Jr,Kx,Sp.snoc];constructor
  ·rintro⟨a,h⟩;obtain⟨c,h⟩:=sp_cm.mp h;refine⟨λi=>if i=k then a else c i,λx hx=>?_⟩
   have:=h x hx;show p ∣ f x-(cm g (λi=>if i=k then a else c i) k x+(if k=k then a else c k)*g k x)
   rw[if_pos rfl,eA (g':=g) (c':=c) λi hi=>by rw[if_neg ∅]]
   rwa[show f x-(cm g c k x+a*g k x)=f x-a*g k x-cm g c k x by lia]
  ·rintro⟨c,h⟩;refine⟨c k,sp_cm.mpr ⟨c,λx hx=>?_⟩⟩;have:=h x hx
   rwa[show f x-cm g c (k+1) x=f x-c k*g k x-cm g c k x by show f x-(cm g c k x+c k*g k x)=_;lia]at this
theorem sq1(j:P=2∨P=3)(h:¬(P:Int) ∣ c):(P:Int) ∣ c*c-1:=by
 have h0:=KL c (show(P:Int)≠0 by lia)
 have h1:=Kb c (show(0:Int)<P by lia)
 have hw:c%P≠0:=λz=>h (Int.dvd_of_emod_eq_zero z);have a:=sW (p:=P) ∅ (w:=c%P) ∅ h1
 have b:(P:Int) ∣ (c-c%P)*(c+c%P):=KZ cz;have:=MW b a
 rwa[show(c-c%P)*(c+c%P)+(c%P*(c%P)-1)=c*c-1 by grind]at this
theorem vz{P n m:Nat}(q:P=2∨P=3){g:Nat->Nat->Int}(hi:∀k,k<m->¬Sp P n ((J2 k).map g) (g k)){c:Nat->Int}:∀{k:Nat},k<=m->(∀x,x<n->(P:Int) ∣ cm g c k x)->∀i,i<k->(P:Int) ∣ c i
 |0,_,_,i,h=>absurd h ∅
 |k+1,B,h,i,z=>by
  by_cases j:(P:Int) ∣ c k
  ·have ih:=vz q hi (k:=k) ∅ fun x hx=>by
    have a:=h x hx;have b:(P:Int) ∣ c k*g k x:=KZ j;have:=Md a b
    rwa[show cm g c (k+1) x-c k*g k x=cm g c k x by show cm g c k x+c k*g k x-c k*g k x=_;lia]at this
   by_cases e:i=k
   ·rw[e];exact j
   ·exact ih i ∅
  ·exfalso
   apply hi k ∅
   refine sp_cm.mpr ⟨λi=>-(c k)*c i,λx hx=>?_⟩;rw[qQ];have a:(P:Int) ∣ c k*cm g c (k+1) x:=KP (h x hx);have b:(P:Int) ∣ (c k*c k-1)*g k x:=KZ (sq1 q j);have:=Md a b
   rwa[show c k*cm g c (k+1) x-(c k*c k-1)*g k x=g k x - -(c k)*cm g c k x by show c k*(cm g c k x+c k*g k x)-_=_;grind]at this
theorem Sp.less{p:Int}{n N:Nat}(h:n<=N):∀{bs:List (Nat->Int)} {f:Nat->Int},Sp p N bs f->Sp p n bs f
 |[],f,s=>λx hx=>s x ∅
 |b::bs,f,⟨c,s⟩=>⟨c,s.less h⟩
theorem DP{n:Nat}(hP:P=2∨P=3){g mk:Nat->Nat->Int}(hi:∀k,k<m->¬Sp P n ((J2 k).map g) (g k))(h1:∀i x,i<m->x<n->mk i x=g i x)(h2:∀i j,i<m->j<m->mk i (n+j)=if j=i then 1 else 0)(q:Bs P (n+m) ((J2 m).map mk) base)(hf:∀e∈base,∀x,x<e.1->gf e.2 x=0){t t0:List Int}(ht:Vr P (n+m) t0)(e1:∀x,x<n->gf t0 x=gf t x)(G:∀j,j<m->gf t0 (n+j)=0)(hs:Sp P n ((J2 m).map g) (gf t)):
 ∀x,x<n->(P:Int) ∣ gf t x-cm g (λi=>(-(gf (wo P base t0) (n+i)))%P) m x:=by
 have z:0<P:=∅
 have cmg:∀(c:Nat->Int) x,x<n->cm mk c m x=cm g c m x:=λc x hx=>eA λi hi=>by rw[h1 i x hi hx]
 have cmm:∀(c:Nat->Int) j,j<m->cm mk c m (n+j)=c j:=by
  intro c j J;have:∀k,k<=m->cm mk c k (n+j)=if j<k then c j else 0:=by
   intro k
   induction k with
   |zero=>intro _;simp[cm]
   |succ k ih=>
    intro hk;show cm mk c k (n+j)+c k*mk k (n+j)=_;rw[ih ∅,h2 k j ∅ J]
    by_cases e:j=k
    ·subst e;rw[if_neg ∅,if_pos rfl,if_pos ∅];lia
    ·by_cases G:j<k
     ·rw[if_pos G,if_neg e,if_pos ∅];lia
     ·rw[if_neg G,if_neg e,if_neg ∅];lia
  rw[this m (J6 _),if_pos J]
 have L:∀e∈base,e.1<n:=by
  intro e he;apply Lx;intro B;have O:Sp P (n+m) (base.map λe=>gf e.2) (gf e.2):=by
   obtain⟨l,r,rfl⟩:=List.append_of_mem he;rw[Jc,Jr,show(l.map λe=>gf e.2)++(gf e.2::r.map λe=>gf e.2)=((l.map λe=>gf e.2)++[gf e.2])++r.map λe=>gf e.2 by simp]
   exact Sp.last.moreL _
  obtain⟨c,F⟩:=sp_cm.mp ((q.sp _).mp O);have U:=vz hP hi (c:=c) (J6 m) λx hx=>by
   have:=F x ∅
   rw[hf e he x ∅,cmg c x hx,Int.zero_sub]at this
   rwa[<-Py]
  obtain⟨F2,fv⟩:=q.pl e he;have:=F e.1 F2;obtain⟨j,J⟩:∃j,e.1=n+j:=⟨e.1-n,∅⟩
  rw[fv,J,cmm c j ∅]at this
  have h9:=MW this (U j ∅)
  rw[show(1:Int)-c j+c j=1 by lia]at h9
  have:=Int.le_of_dvd (by decide) h9
  lia
 obtain⟨c,F⟩:=sp_cm.mp ((q.sp _).mp (mM z q.vr ht));obtain⟨d,hd⟩:=sp_cm.mp hs;have U:=i7 z q.vr q.pl q.tri ht;have GA:=iY (P:=P) (f:=cm mk (λi=>d i-c i) m) q.pl q.tri (λe he=>by
  have B:=L e he;have a:=F e.1 ∅
  have b:=hd e.1 B;rw[U e he,e1 _ B,cmg c _ B]at a;rw[cmg _ _ B,pA];have:=Md a b
  rwa[show gf t e.1-0-cm g c m e.1-(gf t e.1-cm g d m e.1)=cm g d m e.1-cm g c m e.1 by lia]at this) ((q.sp _).mpr (sp_cm.mpr ⟨λi=>d i-c i,λx _=>by rw[Int.sub_self];exact LH _⟩))
 intro x hx;have GB:∀i,i<m->(P:Int) ∣ d i-(-(gf (wo P base t0) (n+i)))%P:=by
  intro i hi;have a:=GA (n+i) ∅
  rw[cmm _ i hi]at a;have b:=F (n+i) ∅
  rw[G i hi,cmm c i hi]at b;have e:=MW (Md a b) (cz (p:=P) (a:=-(gf (wo P base t0) (n+i))))
  rwa[show d i-c i-(0-gf (wo P base t0) (n+i)-c i)+(-(gf (wo P base t0) (n+i)) - -(gf (wo P base t0) (n+i))%P)=d i - -(gf (wo P base t0) (n+i))%P by lia]at e
 have a:=hd x hx;have b:(P:Int) ∣ cm g (λi=>d i-(-(gf (wo P base t0) (n+i)))%P) m x:=by
  have:∀k,k<=m->(P:Int) ∣ cm g (λi=>d i-(-(gf (wo P base t0) (n+i)))%P) k x:=by
   intro k
   induction k with
   |zero=>intro _;exact LH _
   |succ k ih=>intro hk;exact MW (ih ∅) (KZ (GB k ∅))
  exact this m (J6 _)
 rw[pA]at b;have:=MW a b
 rwa[show gf t x-cm g d m x+(cm g d m x-cm g (λi=>-gf (wo P base t0) (n+i) % ↑P) m x)=gf t x-cm g (λi=>-gf (wo P base t0) (n+i) % ↑P) m x by lia]at this
end
section
variable{T:List FD}
noncomputable def gB(x:Str)(s:Stmt)(ft fp:Nat):FD:=⟨"_law_scheme",s,["_law_box_here","_law_lengths",x,"_law_products","_law_k","_law_product","_law_way","_law_side"],3,
 (.cons (.asg (.name 3) (.lst .nil))
 (.cons (.for (.name 4) (.rng1 (.var 2)) (.cons (.asg (.name 5) (.comp [Y,(Z 0)] ["_law_length","_law_box_here"] (.last (.seq (.var 1)) (.name 0) .nil (.call fp (.cons (.var 1) (.cons (.var 0) .nil))))))
 (.cons (.asg (.name 6) (.call ft (.cons (.var 0) (.cons (.int 8) .nil))))
 (.cons (.ite (.and (.cons (.cmp .lt (.var 6) (.int 3)) (.cons (.cmp .ne (.var 3) (.lst .nil)) .nil))) (.cons (.put (.var 5) (.var 6) (.ix (.ix (.var 3) (.call ft (.cons (.var 0) (.cons (.blt .len (.cons (.var 3) .nil)) .nil)))) (.var 6)))
 .nil) .nil)
 (.cons (.ite (.cmp .eq (.var 6) (.int 3)) (.cons (.asg (.name 7) (.call ft (.cons (.var 0) (.cons (.int 3) .nil))))
 (.cons (.put (.var 5) (.var 7) (.bin .mul (.tup (.cons (.int 0) .nil)) (.ix (.var 1) (.var 7))))
 .nil)) .nil)
 (.cons (.drop (.meth .append (.var 3) (.blt .tuple (.cons (.var 5) .nil))))
 .nil))))))
 (.cons (.ret (.bin .add (.blt .tuple (.cons (.var 1) .nil)) (.tup (.cons (.var 3) .nil))))
 .nil)))⟩
theorem sY{ft fp:Nat}(hf:T[f]?=Z (gB x s ft fp)){n:Nat}(GK:v8 T (n-1) ft)(GL:va T (n-1) fp)(hn:1<=n){c:Nat}(h0:L0<=1000)(h1:L1<=1000)(h2:L2<=1000)(hc:c<=1000)(hb:Box b M)(GB:a≠b)(ha:M a=Z (.lst [.int L0,.int L1,.int L2]))(q:∀(ps:List Pr) pr M',ps.length=c->(∀p∈ps,oJ L0 L1 L2 p)->Bx b M M'->M pr=Y->M' pr=Z (.lst (ps.map prD))->Q (.tup [.int L0,.int L1,.int L2,.ref pr]) M'):phi T n f [.ref b,.ref a,.int c] M Q:=by
 refine al ∅ hf rfl (ρ:=[Z _,Z _,Z _,Y,Y,Y,Y,Y]) rfl ?_
 unfold gB;nofun;refine⟨∅,λpr GD=>?_⟩
 have U:pr≠b:=λz=>by obtain⟨x,y,w,e⟩:=hb;rw[<-z,GD]at e;cases e
 have H8:pr≠a:=λz=>by rw[<-z,GD]at ha;cases ha
 nofun;refine⟨∅,∅,?_⟩
 refine xP (I:=λl ρ M'=>∃(ps:List Pr) (o4 o5 o6 o7:Option D),ρ=[Z (.ref b),Z (.ref a),Z (.int c),Z (.ref pr),o4,o5,o6,o7]/\ps.length=l.length/\(∀p∈ps,oJ L0 L1 L2 p)/\Bx b M M'/\M' pr=Z (.lst (ps.map prD)))
  ⟨[],Y,Y,Y,Y,rfl,rfl,λ_ h=>by simp at h,Bx.of hb (Ge.new GD),aa⟩ (λ_ _ _ _=>trivial) ?_ ?_
 ·rintro l x r ρ M1 e ⟨ps,o4,o5,o6,o7,rfl,hl,hp,x1,GM⟩;have GT:=ag e;rw[dz]at GT;refine⟨_,rfl,λF hF=>?_⟩;ac_nf;have GE:=x1.keep a _ GB ha;rw[cw];ac_nf;refine⟨_,ab GE,?_⟩;simp only[bf];refine⟨ab GE,_,rfl,?_⟩;ac_nf;refine GL h0 x1.box λn0 M2 l0 s0 x2=>?_;have GN:=x2.keep a _ GB GE;refine⟨by simp[r4],ab GN,?_⟩
  refine GL h1 x2.box λn1 M3 l1 s1 x3=>?_;have GO:=x3.keep a _ GB GN;refine⟨by simp[r4],ab GO,?_⟩
  refine GL h2 x3.box λn2 M4 l2 s2 x4=>?_;have GH:=x4.keep a _ GB GO;refine⟨by simp[r4],ab GH,λpq GC=>?_⟩
  have GA:=x4.keep pr _ U (x3.keep pr _ U (x2.keep pr _ U GM));have x5:=((x1.trans x2).trans (x3.trans x4)).ge (Ge.new (o:=.lst ([]++[D.tup (Lq D.int n0)]++[D.tup (Lq D.int n1)]++[D.tup (Lq D.int n2)])) GC);have J:pq≠b:=λz=>by obtain⟨x,y,w,e⟩:=x4.box;rw[<-z,GC]at e;cases e
  have L:M pq=Y:=((x1.trans x2).trans (x3.trans x4)).none GC J;have F2:pr≠pq:=λz=>by rw[z,GC]at GA;cases GA
  have H9:a≠pq:=λz=>by rw[z,GC]at GH;cases GH
  have GI:ah M4 pq (.lst ([]++[D.tup (Lq D.int n0)]++[D.tup (Lq D.int n1)]++[D.tup (Lq D.int n2)])) pr=Z (.lst (ps.map prD)):=by rw[au F2];exact GA
  have GP:ah M4 pq (.lst ([]++[D.tup (Lq D.int n0)]++[D.tup (Lq D.int n1)]++[D.tup (Lq D.int n2)])) pq=Z (.lst (prL (n0,n1,n2))):=aa;have hok:oJ L0 L1 L2 (n0,n1,n2):=⟨l0,l1,l2,s0,s1,s2⟩;generalize ah M4 pq (.lst ([]++[D.tup (Lq D.int n0)]++[D.tup (Lq D.int n1)]++[D.tup (Lq D.int n2)]))=M5 at x5 GI GP;generalize hP:(n0,n1,n2)=p0 at hok GP;clear GC GA x4 GH x3 GO x2 GN hP;nofun;refine GK x5.box (by decide) (by decide) λway M6 w0 w1 x6=>?_
  have GF:=x6.keep pr _ U GI;have GR:=x6.keep pq _ J GP;have GS:=x5.trans x6;refine oK (I:=λρ' M'=>ρ'=[Z (.ref b),Z (.ref a),Z (.int c),Z (.ref pr),Z x,Z (.ref pq),Z (.int way),o7]/\∃p:Pr,oJ L0 L1 L2 p/\Bx b M M'/\M' pr=Z (.lst (ps.map prD))/\M' pq=Z (.lst (prL p))) (λR hR=>?_) ?_
  ·ac_nf
   split
   ·next hw=>
    refine⟨∅,λpe GU=>?_⟩
    have g:=Ge.new (o:=.lst []) GU;refine⟨_,_,jK (g _ _ GF) |>.trans (by rw[v9];rfl),jK aa,?_⟩
    ac_nf;have x7:=GS.ge g;have O:=g _ _ GF;have GG:=g _ _ GR
    split
    ·next GW=>
     have H4:0<ps.length:=by
      cases ps with
      |nil=>simp[Km,Lk]at GW
      |cons p r=>simp
     nofun;refine Ai O ?_;refine GK x7.box (by rw[h7];lia) (by rw[h7];lia) λr M8 r0 r1 x8=>?_
     have G:=x8.keep pr _ U O;have fv:=x8.keep pq _ J GG;obtain⟨d,e1,e2⟩:=oF r0 r1;refine aK G e1 ?_;rw[Jj]at e2
     cases e3:ps[r.toNat]? with
     |none=>rw[e3]at e2;cases e2
     |some pp=>
      rw[e3]at e2;cases e2;have ho:=hp pp (Jh e3);have GX:way=0∨way=1∨way=2:=∅
      have x9:=x7.trans x8
      rcases GX with rfl|rfl|rfl
      ·refine⟨_,_,rfl,rfl,bC fv (j:=0) rfl ?_⟩;exact hR _ _ ⟨rfl,(pp.1,p0.2.1,p0.2.2),⟨ho.l0,hok.l1,hok.l2,ho.s0,hok.s1,hok.s2⟩,x9.upd L J,by rw[au F2];exact G,aa⟩
      ·refine⟨_,_,rfl,rfl,bC fv (j:=1) rfl ?_⟩;exact hR _ _ ⟨rfl,(p0.1,pp.2.1,p0.2.2),⟨hok.l0,ho.l1,hok.l2,hok.s0,ho.s1,hok.s2⟩,x9.upd L J,by rw[au F2];exact G,aa⟩
      ·refine⟨_,_,rfl,rfl,bC fv (j:=2) rfl ?_⟩;exact hR _ _ ⟨rfl,(p0.1,p0.2.1,pp.2.2),⟨hok.l0,hok.l1,ho.l2,hok.s0,hok.s1,ho.s2⟩,x9.upd L J,by rw[au F2];exact G,aa⟩
    ·exact hR _ _ ⟨rfl,p0,hok,x7,O,GG⟩
   ·exact hR _ _ ⟨rfl,p0,hok,GS,GF,GR⟩
  ·rintro ρ M7 ⟨rfl,p,B,x7,O,GG⟩;refine oK (I:=λρ' M'=>∃(o7:Option D),ρ'=[Z (.ref b),Z (.ref a),Z (.int c),Z (.ref pr),Z x,Z (.ref pq),Z (.int way),o7]/\∃p:Pr,oJ L0 L1 L2 p/\Bx b M M'/\M' pr=Z (.lst (ps.map prD))/\M' pq=Z (.lst (prL p))) (λR hR=>?_) ?_
   ·ac_nf
    split
    ·nofun;refine GK x7.box (by decide) (by decide) λside M8 d0 d1 x8=>?_
     have G:=x8.keep pr _ U O;have fv:=x8.keep pq _ J GG;have x9:=x7.trans x8;have GQ:=x9.keep a _ GB ha;nofun;refine⟨by rw[r4];lia,?_⟩
     have GY:side=0∨side=1∨side=2:=∅
     rcases GY with rfl|rfl|rfl
     ·refine aK GQ (d:=.int L0) rfl ?_;ac_nf;refine⟨∅,∅,by rw[r4];lia,bC fv (j:=0) rfl ?_⟩
      rw[fQ];exact hR _ _ ⟨_,rfl,(IY (L0:Int).toNat 0,p.2.1,p.2.2),⟨by simp,B.l1,B.l2,gx,B.s1,B.s2⟩,x9.upd L J,by rw[au F2];exact G,aa⟩
     ·refine aK GQ (d:=.int L1) rfl ?_;ac_nf;refine⟨∅,∅,by rw[r4];lia,bC fv (j:=1) rfl ?_⟩
      rw[fQ];exact hR _ _ ⟨_,rfl,(p.1,IY (L1:Int).toNat 0,p.2.2),⟨B.l0,by simp,B.l2,B.s0,gx,B.s2⟩,x9.upd L J,by rw[au F2];exact G,aa⟩
     ·refine aK GQ (d:=.int L2) rfl ?_;ac_nf;refine⟨∅,∅,by rw[r4];lia,bC fv (j:=2) rfl ?_⟩
      rw[fQ];exact hR _ _ ⟨_,rfl,(p.1,p.2.1,IY (L2:Int).toNat 0),⟨B.l0,B.l1,by simp,B.s0,B.s1,gx⟩,x9.upd L J,by rw[au F2];exact G,aa⟩
    ·exact hR _ _ ⟨_,rfl,p,B,x7,O,GG⟩
   ·rintro ρ M9 ⟨Ha,rfl,p,B,x9,GJ,GZ⟩;nofun;refine⟨⟨_,GJ⟩,_,_,rfl,ab GZ,_,_,_,rfl,rfl,GJ,by rw[h7,r4];lia,?_⟩
    ac_nf;exact hF _ _ ⟨ps++[p],_,_,_,_,rfl,by simp[hl],λp' H0=>(Ja.mp H0).elim (hp p') λz=>by simp at z;subst z;exact B,x9.upd GD U,by rw[aa];simp[prD,prL]⟩
 ·rintro ρ M1 ⟨ps,o4,o5,o6,o7,rfl,hl,hp,x1,GM⟩;have GE:=x1.keep a _ GB ha;dsimp only;nofun;refine⟨_,_,rfl,ab GE,by rw[r4];lia,?_⟩
  ac_nf;rw[dz]at hl;exact⟨by simp,by rw[r4];lia,q ps pr M1 ∅ hp x1 GD GM⟩
end
section
namespace K43
noncomputable def aj(i:Nat):Stmt:=PySem.Challenge.pw_fewtimes_k43_least_or_open.main.body.getD i (.Pass ⟨0,0,0,0⟩)
noncomputable def b0:MSs:=
 (.cons (.asg (.name 2) (.bin .mul (.lst (.cons (.int 0) .nil)) (.var 0)))
 (.cons (.put (.var 2) (.var 1) (.int 1))
 (.cons (.ret (.var 2))
 .nil)))
noncomputable def d0:FD:=⟨"single_one",aj 1,["length","at","row"],2,b0⟩
noncomputable def b1:MSs:=
 (.cons (.asg (.name 2) (.lst (.cons (.tup .nil) .nil)))
 (.cons (.for (.name 3) (.rng1 (.var 0)) (.cons (.asg (.name 2) (.comp [Y,Y,(Z 1)] ["row","x","p"] (.more (.seq (.var 2)) (.name 0) .nil (.last (.rng1 (.var 2)) (.name 1) .nil (.bin .add (.var 0) (.tup (.cons (.var 1) .nil)))))))
 .nil))
 (.cons (.ret (.var 2))
 .nil)))
noncomputable def d1:FD:=⟨"rows_over",aj 3,["length","p","rows","turn"],2,b1⟩
noncomputable def b2:MSs:=
 (.cons (.asg (.name 1) (.comp [Y] ["x"] (.last (.seq (.var 0)) (.name 0) (.cons (.cmp .ne (.var 0) (.int 0)) .nil) (.var 0))))
 (.cons (.ret (.and (.cons (.cmp .gt (.blt .len (.cons (.var 1) .nil)) (.int 0)) (.cons (.cmp .eq (.ix (.var 1) (.int 0)) (.int 1)) .nil))))
 .nil))
noncomputable def d2:FD:=⟨"begins_with_one",aj 4,["row","some"],1,b2⟩
noncomputable def b3:MSs:=
 (.cons (.asg (.name 3) (.comp [Y] ["row"] (.last (.seq (.call 1 (.cons (.var 1) (.cons (.var 2) .nil)))) (.name 0) (.cons (.tru (.call 2 (.cons (.var 0) .nil))) .nil) (.var 0))))
 (.cons (.ret (.comp [Y,Y,(Z 3)] ["l","r","rights"] (.more (.seq (.call 1 (.cons (.var 0) (.cons (.var 2) .nil)))) (.name 0) (.cons (.tru (.call 2 (.cons (.var 0) .nil))) .nil) (.last (.seq (.var 2)) (.name 1) .nil (.tup (.cons (.var 0) (.cons (.var 1) .nil)))))))
 .nil))
noncomputable def d3:FD:=⟨"pairs_over",aj 5,["left","right","p","rights"],3,b3⟩
noncomputable def b4:MSs:=
 (.cons (.asg (.tup (.cons (.name 2) (.cons (.name 3) .nil))) (.var 0))
 (.cons (.ret (.blt .tuple (.cons (.comp [Y,Y,(Z 1),(Z 3)] ["x","y","p","r"] (.more (.seq (.var 2)) (.name 0) .nil (.last (.seq (.var 3)) (.name 1) .nil (.bin .mod (.bin .mul (.var 0) (.var 1)) (.var 2))))) .nil)))
 .nil))
noncomputable def d4:FD:=⟨"pair_table",aj 6,["pair","p","l","r"],2,b4⟩
noncomputable def b5:MSs:=
 (.cons (.asg (.tup (.cons (.name 2) (.cons (.name 3) (.cons (.name 4) (.cons (.name 5) .nil))))) (.var 0))
 (.cons (.asg (.name 6) (.comp [Y,(Z 2),(Z 3)] ["k","left","right"] (.last (.rng1 (.var 4)) (.name 0) .nil (.bin .mul (.lst (.cons (.int 0) .nil)) (.bin .mul (.var 1) (.var 2))))))
 (.cons (.for (.tup (.cons (.name 7) (.cons (.name 8) (.cons (.name 9) (.cons (.name 10) .nil))))) (.seq (.var 5)) (.cons (.put (.ix (.var 6) (.var 7)) (.bin .add (.bin .mul (.var 8) (.var 3)) (.var 9)) (.bin .mod (.var 10) (.var 1)))
 .nil))
 (.cons (.ret (.comp [Y] ["table"] (.last (.seq (.var 6)) (.name 0) .nil (.blt .tuple (.cons (.var 0) .nil)))))
 .nil))))
noncomputable def d5:FD:=⟨"tables_over",aj 7,["task","p","left","right","many","terms","tables","k","i","j","c"],2,b5⟩
noncomputable def b6:MSs:=
 (.cons (.for (.tup (.cons (.name 3) (.cons (.name 4) .nil))) (.seq (.var 1)) (.cons (.asg (.name 5) (.ix (.var 0) (.var 3)))
 (.cons (.ite (.cmp .ne (.var 5) (.int 0)) (.cons (.asg (.name 0) (.blt .tuple (.cons (.comp [Y,Y,(Z 5),(Z 2)] ["x","y","c","p"] (.last (.zip (.var 0) (.var 4)) (.tup (.cons (.name 0) (.cons (.name 1) .nil))) .nil (.bin .mod (.bin .sub (.var 0) (.bin .mul (.var 2) (.var 1))) (.var 3)))) .nil)))
 .nil) .nil)
 .nil)))
 (.cons (.ret (.var 0))
 .nil))
noncomputable def d6:FD:=⟨"without",aj 8,["row","base","p","place","other","c"],3,b6⟩
noncomputable def b7:MSs:=
 (.cons (.ret (.not (.blt .any (.cons (.call 6 (.cons (.var 0) (.cons (.var 1) (.cons (.var 2) .nil)))) .nil))))
 .nil)
noncomputable def d7:FD:=⟨"is_sum",aj 9,["row","base","p"],3,b7⟩
noncomputable def b8:MSs:=
 (.cons (.ret (.ix (.comp [Y,Y] ["at","x"] (.last (.enum (.var 0)) (.tup (.cons (.name 0) (.cons (.name 1) .nil))) (.cons (.cmp .ne (.var 1) (.int 0)) .nil) (.var 0))) (.int 0)))
 .nil)
noncomputable def d8:FD:=⟨"first_filled",aj 10,["row"],1,b8⟩
noncomputable def b9:MSs:=
 (.cons (.asg (.name 3) (.blt .list (.cons (.var 0) .nil)))
 (.cons (.for (.name 4) (.seq (.var 1)) (.cons (.asg (.name 5) (.call 6 (.cons (.var 4) (.cons (.var 3) (.cons (.var 2) .nil)))))
 (.cons (.ite (.tru (.blt .any (.cons (.var 5) .nil))) (.cons (.asg (.name 6) (.call 8 (.cons (.var 5) .nil)))
 (.cons (.drop (.meth .append (.var 3) (.tup (.cons (.var 6) (.cons (.blt .tuple (.cons (.comp [Y,(Z 5),(Z 6),(Z 2)] ["x","rest","place","p"] (.last (.seq (.var 5)) (.name 0) .nil (.bin .mod (.bin .mul (.ix (.var 1) (.var 2)) (.var 0)) (.var 3)))) .nil)) .nil)))))
 .nil)) .nil)
 .nil)))
 (.cons (.ret (.var 3))
 .nil)))
noncomputable def d9:FD:=⟨"grown",aj 11,["base","rows","p","made","row","rest","place"],3,b9⟩
noncomputable def b10:MSs:=
 (.cons (.asg (.name 2) (.int 1))
 (.cons (.for (.name 3) (.rng1 (.blt .min2 (.cons (.var 1) (.cons (.bin .sub (.var 0) (.var 1)) .nil)))) (.cons (.asg (.name 2) (.bin .fdiv (.bin .mul (.var 2) (.bin .sub (.var 0) (.var 3))) (.bin .add (.var 3) (.int 1))))
 .nil))
 (.cons (.ret (.var 2))
 .nil)))
noncomputable def d10:FD:=⟨"many_sets",aj 14,["many","e","count","at"],2,b10⟩
noncomputable def b11:MSs:=
 (.cons (.asg (.name 2) (.lst (.cons (.tup .nil) .nil)))
 (.cons (.for (.name 3) (.rng1 (.var 1)) (.cons (.asg (.name 2) (.comp [Y,Y,(Z 0),(Z 1),(Z 3)] ["chosen","x","many","e","at"] (.more (.seq (.var 2)) (.name 0) .nil (.last (.rng2 (.ite (.tru (.var 0)) (.bin .add (.ix (.var 0) (.neg (.int 1))) (.int 1)) (.int 0)) (.bin .add (.bin .add (.bin .sub (.var 2) (.var 3)) (.var 4)) (.int 1))) (.name 1) .nil (.bin .add (.var 0) (.tup (.cons (.var 1) .nil)))))))
 .nil))
 (.cons (.ret (.var 2))
 .nil)))
noncomputable def d11:FD:=⟨"sets_of",aj 15,["many","e","sets","at"],2,b11⟩
noncomputable def b12:MSs:=
 (.cons (.par 3 4 (.lst .nil) (.lst .nil))
 (.cons (.for (.tup (.cons (.name 5) (.cons (.name 6) .nil))) (.enum (.var 1)) (.cons (.ite (.and (.cons (.tru (.call 7 (.cons (.var 6) (.cons (.var 0) (.cons (.var 2) .nil))))) (.cons (.not (.tru (.call 7 (.cons (.var 6) (.cons (.var 4) (.cons (.var 2) .nil)))))) .nil))) (.cons (.drop (.meth .append (.var 3) (.var 5)))
 (.cons (.asg (.name 4) (.call 9 (.cons (.var 4) (.cons (.lst (.cons (.var 6) .nil)) (.cons (.var 2) .nil)))))
 .nil)) .nil)
 .nil))
 (.cons (.ret (.tup (.cons (.var 3) (.cons (.var 4) .nil))))
 .nil)))
noncomputable def d12:FD:=⟨"pairs_within",aj 16,["space","tables","p","chosen","base","at","table"],3,b12⟩
noncomputable def b13:MSs:=
 (.cons (.asg (.tup (.cons (.name 3) (.cons (.name 4) .nil))) (.tup (.cons (.blt .len (.cons (.var 1) .nil)) (.cons (.blt .len (.cons (.ix (.var 0) (.int 0)) .nil)) .nil))))
 (.cons (.asg (.name 5) (.comp [Y,Y,(Z 3)] ["at","table","many"] (.last (.enum (.var 1)) (.tup (.cons (.name 0) (.cons (.name 1) .nil))) .nil (.bin .add (.var 1) (.blt .tuple (.cons (.call 0 (.cons (.var 2) (.cons (.var 0) .nil))) .nil))))))
 (.cons (.asg (.name 6) (.call 9 (.cons (.lst .nil) (.cons (.var 5) (.cons (.var 2) .nil)))))
 (.cons (.ret (.comp [Y,(Z 3),(Z 6),(Z 2),(Z 4)] ["table","many","base","p","length"] (.last (.seq (.var 0)) (.name 0) .nil (.comp [Y,(Z 3)] ["x","p"] (.last (.seq (.sl (.call 6 (.cons (.bin .add (.var 0) (.bin .mul (.tup (.cons (.int 0) .nil)) (.var 1))) (.cons (.var 2) (.cons (.var 3) .nil)))) (.some (.var 4)) .none)) (.name 0) .nil (.bin .mod (.neg (.var 0)) (.var 1)))))))
 .nil))))
noncomputable def d13:FD:=⟨"shares",aj 17,["tables","chosen","p","many","length","marked","base"],3,b13⟩
noncomputable def b14:MSs:=
 (.cons (.asg (.tup (.cons (.name 3) (.cons (.name 4) (.cons (.name 5) (.cons (.name 6) .nil))))) (.var 0))
 (.cons (.asg (.name 7) (.call 13 (.cons (.call 5 (.cons (.var 0) (.cons (.var 2) .nil))) (.cons (.comp [Y,(Z 2)] ["pair","p"] (.last (.seq (.var 1)) (.name 0) .nil (.call 4 (.cons (.var 0) (.cons (.var 1) .nil))))) (.cons (.var 2) .nil)))))
 (.cons (.ret (.tup (.cons (.var 3) (.cons (.var 4) (.cons (.var 5) (.cons (.comp [Y,Y,Y,(Z 7)] ["at","l","r","outs"] (.last (.enum (.var 1)) (.tup (.cons (.name 0) (.cons (.tup (.cons (.name 1) (.cons (.name 2) .nil))) .nil))) .nil (.tup (.cons (.var 1) (.cons (.var 2) (.cons (.blt .tuple (.cons (.comp [Y,(Z 0)] ["row","at"] (.last (.seq (.var 3)) (.name 0) .nil (.ix (.var 0) (.var 1)))) .nil)) .nil)))))) .nil))))))
 .nil)))
noncomputable def d14:FD:=⟨"scheme_by",aj 18,["task","pairs","p","left","right","many","terms","outs"],3,b14⟩
noncomputable def b15:MSs:=
 (.cons (.asg (.name 2) (.call 3 (.cons (.ix (.var 0) (.int 0)) (.cons (.ix (.var 0) (.int 1)) (.cons (.var 1) .nil)))))
 (.cons (.ret (.tup (.cons (.var 2) (.cons (.comp [Y,(Z 1)] ["pair","p"] (.last (.seq (.var 2)) (.name 0) .nil (.call 4 (.cons (.var 0) (.cons (.var 1) .nil))))) (.cons (.call 9 (.cons (.lst .nil) (.cons (.call 5 (.cons (.var 0) (.cons (.var 1) .nil))) (.cons (.var 1) .nil)))) .nil)))))
 .nil))
noncomputable def d15:FD:=⟨"looked_at",aj 19,["task","p","pairs"],2,b15⟩
noncomputable def b16:MSs:=
 (.cons (.asg (.tup (.cons (.name 2) (.cons (.name 3) (.cons (.name 4) .nil)))) (.call 15 (.cons (.var 0) (.cons (.var 1) .nil))))
 (.cons (.asg (.name 5) (.int 0))
 (.cons (.while (.cmp .le (.call 10 (.cons (.blt .len (.cons (.var 2) .nil)) (.cons (.var 5) .nil))) (.glob "MOST_SETS" (.int 3000))) (.cons (.for (.name 6) (.seq (.call 11 (.cons (.blt .len (.cons (.var 2) .nil)) (.cons (.var 5) .nil)))) (.cons (.asg (.name 7) (.call 9 (.cons (.var 4) (.cons (.comp [Y,(Z 3)] ["at","tables"] (.last (.seq (.var 6)) (.name 0) .nil (.ix (.var 1) (.var 0)))) (.cons (.var 1) .nil)))))
 (.cons (.asg (.tup (.cons (.name 8) (.cons (.name 9) .nil))) (.call 12 (.cons (.var 7) (.cons (.var 3) (.cons (.var 1) .nil)))))
 (.cons (.ite (.cmp .eq (.blt .len (.cons (.var 9) .nil)) (.blt .len (.cons (.var 7) .nil))) (.cons (.ret (.tup (.cons (.str (JN "least")) (.cons (.bin .add (.blt .len (.cons (.var 4) .nil)) (.var 5)) (.cons (.call 14 (.cons (.var 0) (.cons (.comp [Y,(Z 2)] ["at","pairs"] (.last (.seq (.var 8)) (.name 0) .nil (.ix (.var 1) (.var 0)))) (.cons (.var 1) .nil)))) .nil)))))
 .nil) .nil)
 .nil))))
 (.cons (.aug 5 .add (.int 1))
 .nil)))
 (.cons (.ret (.tup (.cons (.str (JN "open")) (.cons (.bin .add (.blt .len (.cons (.var 4) .nil)) (.var 5)) .nil))))
 .nil))))
noncomputable def d16:FD:=⟨"least_over",aj 20,["task","p","pairs","tables","own","e","chosen","space","numbers","base"],2,b16⟩
noncomputable def d17:FD:=jJ (aj 22)
noncomputable def d18:FD:=kn (aj 23)
noncomputable def d19:FD:=sN (aj 24) 17 18
noncomputable def d20:FD:=oG (aj 25) 18
noncomputable def d21:FD:=oI (aj 26) 25
noncomputable def d22:FD:=gB "_law_count_here" (aj 27) 20 21
noncomputable def d23:FD:=kA (aj 28)
noncomputable def d24:FD:=kB (aj 29)
noncomputable def b25:MSs:=
 (.cons (.ret (.ix (.lst (.cons (.int 0) (.cons (.int 0) (.cons (.int 1) (.cons (.int 1) (.cons (.int 1) (.cons (.neg (.int 1)) (.cons (.neg (.int 1)) (.cons (.int 2) (.cons (.int 0) .nil)))))))))) (.call 20 (.cons (.var 0) (.cons (.int 9) .nil)))))
 .nil)
noncomputable def d25:FD:=⟨"_law_number",aj 30,["_law_box_here"],1,b25⟩
noncomputable def b26:MSs:=
 (.cons (.asg (.name 2) (.bin .add (.int 2) (.call 20 (.cons (.var 0) (.cons (.int 2) .nil)))))
 (.cons (.asg (.name 3) (.lst .nil))
 (.cons (.for (.name 4) (.rng2 (.int 1) (.int 7)) (.cons (.drop (.meth .extend (.var 3) (.comp [Y,(Z 4),(Z 1),(Z 2)] ["_law_right","_law_left","_law_most","_law_p"] (.last (.rng2 (.int 1) (.int 7)) (.name 0) (.cons (.cmp .le (.bin .mul (.var 1) (.var 0)) (.blt .min2 (.cons (.var 2) (.cons (.ix (.lst (.cons (.int 12) (.cons (.int 9) .nil))) (.bin .sub (.var 3) (.int 2))) .nil)))) .nil) (.tup (.cons (.var 1) (.cons (.var 0) .nil)))))))
 .nil))
 (.cons (.asg (.tup (.cons (.name 4) (.cons (.name 5) .nil))) (.ix (.var 3) (.call 20 (.cons (.var 0) (.cons (.blt .len (.cons (.var 3) .nil)) .nil)))))
 (.cons (.ret (.tup (.cons (.var 2) (.cons (.var 4) (.cons (.var 5) .nil)))))
 .nil)))))
noncomputable def d26:FD:=⟨"_law_field",aj 31,["_law_box_here","_law_most","_law_p","_law_some","_law_left","_law_right"],2,b26⟩
noncomputable def b27:MSs:=
 (.cons (.asg (.name 2) (.lst (.cons (.tup .nil) .nil)))
 (.cons (.for (.name 3) (.rng1 (.var 0)) (.cons (.asg (.name 4) (.lst .nil))
 (.cons (.for (.name 5) (.seq (.var 2)) (.cons (.drop (.meth .extend (.var 4) (.comp [Y,(Z 5)] ["_law_number_here","_law_row"] (.last (.rng1 (.var 1)) (.name 0) .nil (.bin .add (.var 1) (.tup (.cons (.var 0) .nil)))))))
 .nil))
 (.cons (.asg (.name 2) (.var 4))
 .nil))))
 (.cons (.ret (.comp [Y] ["_law_row"] (.last (.seq (.var 2)) (.name 0) (.cons (.cmp .eq (.sl (.comp [Y] ["_law_number_here"] (.last (.seq (.var 0)) (.name 0) (.cons (.cmp .ne (.var 0) (.int 0)) .nil) (.var 0))) .none (.some (.int 1))) (.lst (.cons (.int 1) .nil))) .nil) (.var 0))))
 .nil)))
noncomputable def d27:FD:=⟨"_law_rows_over",aj 32,["_law_length","_law_p","_law_found","_law_k","_law_longer","_law_row"],2,b27⟩
noncomputable def b28:MSs:=
 (.cons (.asg (.name 3) (.lst .nil))
 (.cons (.for (.name 4) (.seq (.call 27 (.cons (.var 0) (.cons (.var 2) .nil)))) (.cons (.drop (.meth .extend (.var 3) (.comp [Y,(Z 4)] ["_law_r","_law_l"] (.last (.seq (.call 27 (.cons (.var 1) (.cons (.var 2) .nil)))) (.name 0) .nil (.tup (.cons (.var 1) (.cons (.var 0) .nil)))))))
 .nil))
 (.cons (.ret (.var 3))
 .nil)))
noncomputable def d28:FD:=⟨"_law_pairs",aj 33,["_law_left","_law_right","_law_p","_law_found","_law_l"],3,b28⟩
noncomputable def b29:MSs:=
 (.cons (.asg (.name 2) (.lst .nil))
 (.cons (.for (.name 3) (.seq (.ix (.var 0) (.int 0))) (.cons (.drop (.meth .extend (.var 2) (.comp [Y,(Z 3),(Z 1)] ["_law_b","_law_a","_law_p"] (.last (.seq (.ix (.var 0) (.int 1))) (.name 0) .nil (.bin .mod (.bin .mul (.var 1) (.var 0)) (.var 2))))))
 .nil))
 (.cons (.ret (.blt .tuple (.cons (.var 2) .nil)))
 .nil)))
noncomputable def d29:FD:=⟨"_law_table",aj 34,["_law_pair","_law_p","_law_found","_law_a"],2,b29⟩
noncomputable def b30:MSs:=
 (.cons (.asg (.name 2) (.comp [Y,(Z 0)] ["_law_k","_law_task_here"] (.last (.rng1 (.ix (.var 0) (.int 2))) (.name 0) .nil (.bin .mul (.lst (.cons (.int 0) .nil)) (.bin .mul (.ix (.var 1) (.int 0)) (.ix (.var 1) (.int 1)))))))
 (.cons (.for (.tup (.cons (.name 3) (.cons (.name 4) (.cons (.name 5) (.cons (.name 6) .nil))))) (.seq (.ix (.var 0) (.int 3))) (.cons (.put (.ix (.var 2) (.var 3)) (.bin .add (.bin .mul (.var 4) (.ix (.var 0) (.int 1))) (.var 5)) (.bin .mod (.var 6) (.var 1)))
 .nil))
 (.cons (.ret (.comp [Y] ["_law_table_here"] (.last (.seq (.var 2)) (.name 0) .nil (.blt .tuple (.cons (.var 0) .nil)))))
 .nil)))
noncomputable def d30:FD:=⟨"_law_tables",aj 35,["_law_task_here","_law_p","_law_found","_law_k","_law_i","_law_j","_law_c"],2,b30⟩
noncomputable def b31:MSs:=
 (.cons (.asg (.name 3) (.dnew N2))
 (.cons (.frz 0 (.for (.name 4) (.keys (.var 0)) (.cons (.for (.name 5) (.rng1 (.var 2)) (.cons (.put (.var 3) (.blt .tuple (.cons (.comp [Y,Y,(Z 5),(Z 2)] ["_law_a","_law_b","_law_times","_law_p"] (.last (.zip (.var 4) (.var 1)) (.tup (.cons (.name 0) (.cons (.name 1) .nil))) .nil (.bin .mod (.bin .add (.var 0) (.bin .mul (.var 2) (.var 1))) (.var 3)))) .nil)) (.bl N2))
 .nil))
 .nil)))
 (.cons (.ret (.var 3))
 .nil)))
noncomputable def d31:FD:=⟨"_law_with",aj 36,["_law_known","_law_table_here","_law_p","_law_found","_law_own","_law_times"],3,b31⟩
noncomputable def b32:MSs:=
 (.cons (.asg (.name 3) (.d1 (.bin .mul (.tup (.cons (.int 0) .nil)) (.var 1)) (.bl N2)))
 (.cons (.for (.name 4) (.seq (.var 0)) (.cons (.ite (.cmp .ninD (.var 4) (.var 3)) (.cons (.asg (.name 3) (.call 31 (.cons (.var 3) (.cons (.var 4) (.cons (.var 2) .nil)))))
 .nil) .nil)
 .nil))
 (.cons (.ret (.var 3))
 .nil)))
noncomputable def d32:FD:=⟨"_law_span",aj 37,["_law_tables_here","_law_size","_law_p","_law_known","_law_table_here"],3,b32⟩
noncomputable def b33:MSs:=
 (.cons (.par 2 3 (.blt .lenT (.cons (.var 0) .nil)) (.int 0))
 (.cons (.while (.cmp .gt (.var 2) (.int 1)) (.cons (.par 2 3 (.bin .fdiv (.var 2) (.var 1)) (.bin .add (.var 3) (.int 1)))
 .nil))
 (.cons (.ret (.var 3))
 .nil)))
noncomputable def d33:FD:=⟨"_law_height",aj 38,["_law_known","_law_p","_law_many","_law_height_here"],2,b33⟩
noncomputable def b34:MSs:=
 (.cons (.asg (.name 3) (.bin .add (.int 1) (.call 20 (.cons (.var 0) (.cons (.int 4) .nil)))))
 (.cons (.ite (.cmp .eq (.call 20 (.cons (.var 0) (.cons (.int 2) .nil))) (.int 0)) (.cons (.asg (.name 4) (.lst .nil))
 (.cons (.for (.name 5) (.rng1 (.var 3)) (.cons (.for (.name 6) (.rng1 (.var 1)) (.cons (.drop (.meth .extend (.var 4) (.comp [Y,(Z 5),(Z 6),(Z 0)] ["_law_j","_law_k","_law_i","_law_box_here"] (.last (.rng1 (.var 2)) (.name 0) .nil (.tup (.cons (.var 1) (.cons (.var 2) (.cons (.var 0) (.cons (.bin .sub (.call 20 (.cons (.var 3) (.cons (.int 7) .nil))) (.int 3)) .nil)))))))))
 .nil))
 .nil))
 (.cons (.ret (.tup (.cons (.var 1) (.cons (.var 2) (.cons (.var 3) (.cons (.comp [Y] ["_law_term"] (.last (.seq (.var 4)) (.name 0) (.cons (.cmp .ne (.ix (.var 0) (.int 3)) (.int 0)) .nil) (.var 0))) .nil))))))
 .nil))) .nil)
 (.cons (.asg (.name 7) (.call 22 (.cons (.var 0) (.cons (.lst (.cons (.var 1) (.cons (.var 2) (.cons (.var 3) .nil)))) (.cons (.call 20 (.cons (.var 0) (.cons (.int 5) .nil))) .nil)))))
 (.cons (.ret (.tup (.cons (.var 1) (.cons (.var 2) (.cons (.var 3) (.cons (.call 24 (.cons (.call 23 (.cons (.var 7) .nil)) .nil)) .nil))))))
 .nil))))
noncomputable def d34:FD:=⟨"_law_task",aj 39,["_law_box_here","_law_left","_law_right","_law_many","_law_terms_here","_law_k","_law_i","_law_scheme_here"],3,b34⟩
noncomputable def b35:MSs:=
 (.cons (.asg (.name 2) (.lst (.cons (.tup .nil) .nil)))
 (.cons (.for (.name 3) (.rng1 (.var 1)) (.cons (.asg (.name 4) (.lst .nil))
 (.cons (.for (.name 5) (.seq (.var 2)) (.cons (.asg (.name 6) (.ite (.cmp .ne (.var 5) (.tup .nil)) (.bin .add (.ix (.var 5) (.neg (.int 1))) (.int 1)) (.int 0)))
 (.cons (.drop (.meth .extend (.var 4) (.comp [Y,(Z 5)] ["_law_number_here","_law_row"] (.last (.rng2 (.var 6) (.bin .add (.bin .add (.bin .sub (.var 0) (.var 1)) (.var 3)) (.int 1))) (.name 0) .nil (.bin .add (.var 1) (.tup (.cons (.var 0) .nil)))))))
 .nil)))
 (.cons (.asg (.name 2) (.var 4))
 .nil))))
 (.cons (.ret (.var 2))
 .nil)))
noncomputable def d35:FD:=⟨"_law_sets",aj 40,["_law_many","_law_size","_law_found","_law_k","_law_longer","_law_row","_law_first"],2,b35⟩
noncomputable def b36:MSs:=
 (.cons (.asg (.name 2) (.int 1))
 (.cons (.for (.name 3) (.rng1 (.var 1)) (.cons (.asg (.name 2) (.bin .fdiv (.bin .mul (.var 2) (.bin .sub (.var 0) (.var 3))) (.bin .add (.var 3) (.int 1))))
 .nil))
 (.cons (.ret (.var 2))
 .nil)))
noncomputable def d36:FD:=⟨"_law_count",aj 41,["_law_many","_law_size","_law_found","_law_k"],2,b36⟩
noncomputable def b37:MSs:=
 (.cons (.asg (.name 4) (.var 0))
 (.cons (.for (.name 5) (.seq (.var 2)) (.cons (.ite (.cmp .ninD (.ix (.var 1) (.var 5)) (.var 4)) (.cons (.asg (.name 4) (.call 31 (.cons (.var 4) (.cons (.ix (.var 1) (.var 5)) (.cons (.var 3) .nil)))))
 .nil) .nil)
 .nil))
 (.cons (.ret (.var 4))
 .nil)))
noncomputable def d37:FD:=⟨"_law_sums_by",aj 42,["_law_base","_law_tables_here","_law_numbers","_law_p","_law_known","_law_number_here"],4,b37⟩
noncomputable def b38:MSs:=
 (.cons (.asg (.name 4) (.d1 (.bin .mul (.tup (.cons (.int 0) .nil)) (.var 2)) (.bl N2)))
 (.cons (.for (.name 5) (.seq (.var 1)) (.cons (.ite (.and (.cons (.cmp .inD (.var 5) (.var 0)) (.cons (.cmp .ninD (.var 5) (.var 4)) .nil))) (.cons (.asg (.name 4) (.call 31 (.cons (.var 4) (.cons (.var 5) (.cons (.var 3) .nil)))))
 .nil) .nil)
 .nil))
 (.cons (.ret (.cmp .eq (.blt .lenT (.cons (.var 4) .nil)) (.blt .lenT (.cons (.var 0) .nil))))
 .nil)))
noncomputable def d38:FD:=⟨"_law_told",aj 43,["_law_known","_law_tables_here","_law_size","_law_p","_law_found","_law_table_here"],4,b38⟩
noncomputable def b39:MSs:=
 (.cons (.asg (.name 2) (.bin .mul (.ix (.var 0) (.int 0)) (.ix (.var 0) (.int 1))))
 (.cons (.asg (.name 3) (.comp [Y,(Z 1)] ["_law_pair","_law_p"] (.last (.seq (.call 28 (.cons (.ix (.var 0) (.int 0)) (.cons (.ix (.var 0) (.int 1)) (.cons (.var 1) .nil))))) (.name 0) .nil (.call 29 (.cons (.var 0) (.cons (.var 1) .nil))))))
 (.cons (.asg (.name 4) (.call 32 (.cons (.call 30 (.cons (.var 0) (.cons (.var 1) .nil))) (.cons (.var 2) (.cons (.var 1) .nil)))))
 (.cons (.asg (.name 5) (.call 33 (.cons (.var 4) (.cons (.var 1) .nil))))
 (.cons (.for (.name 6) (.rng1 (.bin .add (.var 2) (.int 1))) (.cons (.ite (.cmp .gt (.call 36 (.cons (.blt .len (.cons (.var 3) .nil)) (.cons (.var 6) .nil))) (.int 3000)) (.cons (.ret (.tup (.cons (.str (JN "open")) (.cons (.bin .add (.var 5) (.var 6)) .nil))))
 .nil) .nil)
 (.cons (.for (.name 7) (.seq (.call 35 (.cons (.blt .len (.cons (.var 3) .nil)) (.cons (.var 6) .nil)))) (.cons (.ite (.tru (.call 38 (.cons (.call 37 (.cons (.var 4) (.cons (.var 3) (.cons (.var 7) (.cons (.var 1) .nil))))) (.cons (.var 3) (.cons (.var 2) (.cons (.var 1) .nil)))))) (.cons (.ret (.tup (.cons (.str (JN "least")) (.cons (.bin .add (.var 5) (.var 6)) .nil))))
 .nil) .nil)
 .nil))
 .nil)))
 (.cons (.ret (.tup (.cons (.str (JN "none")) (.cons (.int 0) .nil))))
 .nil))))))
noncomputable def d39:FD:=⟨"_law_due",aj 44,["_law_task_here","_law_p","_law_size","_law_tables_here","_law_base","_law_height_here","_law_more","_law_numbers"],2,b39⟩
noncomputable def b40:MSs:=
 (.cons (.asg (.name 3) (.call 23 (.cons (.var 0) .nil)))
 (.cons (.frz 3 (.asg (.name 4) (.blt .dict (.cons (.comp [Y,(Z 3),(Z 2)] ["_law_place","_law_sums_here","_law_p"] (.last (.keys (.var 3)) (.name 0) (.cons (.cmp .ne (.bin .mod (.ix (.var 1) (.var 0)) (.var 2)) (.int 0)) .nil) (.tup (.cons (.var 0) (.cons (.bin .mod (.ix (.var 1) (.var 0)) (.var 2)) .nil))))) .nil))))
 (.cons (.ret (.cmp .eqD (.var 4) (.blt .dict (.cons (.comp [Y,(Z 2)] ["_law_term","_law_p"] (.last (.seq (.ix (.var 1) (.int 3))) (.name 0) (.cons (.cmp .ne (.bin .mod (.ix (.var 0) (.int 3)) (.var 1)) (.int 0)) .nil) (.tup (.cons (.sl (.var 0) .none (.some (.int 3))) (.cons (.bin .mod (.ix (.var 0) (.int 3)) (.var 1)) .nil))))) .nil))))
 .nil)))
noncomputable def d40:FD:=⟨"_law_does",aj 45,["_law_scheme_here","_law_task_here","_law_p","_law_sums_here","_law_found"],3,b40⟩
noncomputable def b41:MSs:=
 (.cons (.ite (.or (.cons (.cmp .eq (.var 1) (.int 2)) (.cons (.cmp .ne (.bin .mul (.ix (.var 0) (.int 0)) (.ix (.var 0) (.int 1))) (.int 6)) (.cons (.cmp .lt (.ix (.var 0) (.int 2)) (.int 3)) .nil)))) (.cons (.ret (.var 0))
 .nil) .nil)
 (.cons (.ret (.tup (.cons (.ix (.var 0) (.int 0)) (.cons (.ix (.var 0) (.int 1)) (.cons (.int 2) (.cons (.comp [Y] ["_law_term"] (.last (.seq (.ix (.var 0) (.int 3))) (.name 0) (.cons (.cmp .lt (.ix (.var 0) (.int 0)) (.int 2)) .nil) (.var 0))) .nil))))))
 .nil))
noncomputable def d41:FD:=⟨"_law_few",aj 46,["_law_task_here","_law_p"],2,b41⟩
noncomputable def b42:MSs:=
 (.cons (.for (.name 1) (.rng1 (.blt .max2 (.cons (.int 1) (.cons (.blt .min2 (.cons (.blt .len (.cons (.var 0) .nil)) (.cons (.int 2) .nil))) .nil)))) (.cons (.asg (.name 2) (.call 19 (.cons (.var 0) (.cons (.var 1) .nil))))
 (.cons (.asg (.tup (.cons (.name 3) (.cons (.name 4) (.cons (.name 5) .nil)))) (.call 26 (.cons (.var 2) (.cons (.ix (.lst (.cons (.int 6) (.cons (.int 9) (.cons (.int 8) (.cons (.int 12) .nil))))) (.call 20 (.cons (.var 2) (.cons (.int 4) .nil)))) .nil))))
 (.cons (.asg (.name 6) (.call 41 (.cons (.call 34 (.cons (.var 2) (.cons (.var 4) (.cons (.var 5) .nil)))) (.cons (.var 3) .nil))))
 (.cons (.asg (.name 7) (.call 39 (.cons (.var 6) (.cons (.var 3) .nil))))
 (.cons (.asg (.name 8) (.call 16 (.cons (.var 6) (.cons (.var 3) .nil))))
 (.cons (.ite (.cmp .ne (.sl (.var 8) .none (.some (.int 2))) (.var 7)) (.cons (.ret (.bl Ua))
 .nil) .nil)
 (.cons (.ite (.and (.cons (.cmp .eq (.ix (.var 7) (.int 0)) (.str (JN "open"))) (.cons (.cmp .ne (.blt .len (.cons (.var 8) .nil)) (.int 2)) .nil))) (.cons (.ret (.bl Ua))
 .nil) .nil)
 (.cons (.ite (.and (.cons (.cmp .eq (.ix (.var 7) (.int 0)) (.str (JN "least"))) (.cons (.cmp .ne (.blt .len (.cons (.ix (.ix (.var 8) (.int 2)) (.int 3)) .nil)) (.ix (.var 7) (.int 1))) .nil))) (.cons (.ret (.bl Ua))
 .nil) .nil)
 (.cons (.ite (.and (.cons (.cmp .eq (.ix (.var 7) (.int 0)) (.str (JN "least"))) (.cons (.not (.tru (.call 40 (.cons (.ix (.var 8) (.int 2)) (.cons (.var 6) (.cons (.var 3) .nil)))))) .nil))) (.cons (.ret (.bl Ua))
 .nil) .nil)
 .nil))))))))))
 (.cons (.ret (.bl N2))
 .nil))
noncomputable def d42:FD:=⟨"law",aj 47,["_law_script","_law_k","_law_box_here","_law_p","_law_left","_law_right","_law_task_here","_law_due_here","_law_found"],1,b42⟩
noncomputable def tab:List FD:=[d0,d1,d2,d3,d4,d5,d6,d7,d8,d9,d10,d11,d12,d13,d14,d15,d16,d17,d18,d19,d20,d21,d22,d23,d24,d25,d26,d27,d28,d29,d30,d31,d32,d33,d34,d35,d36,d37,d38,d39,d40,d41,d42]
noncomputable def pB:List (Str×D):=[("MOST_SETS",(.int 3000))]
end K43
end
section
namespace K43
theorem Cl:∀d∈tab,sM (tab.map (·.name)) pB d=N2:=by decide +kernel
noncomputable abbrev PA(K:Frag)(x:Str)(f:Ub):Prop:=NX K KQ x=Z (Z (.ref f))
noncomputable abbrev PL(K:Frag)(f:Ub)(x:Str)(s:Stmt)(oc:hH)(od:Option Ub)(kV dc pm:hH)(an:Option Ub)(cd ct:hH)(sl:Array (Option hH)):Prop:=K.lookup f=Z ⟨oc,od,.func (MX x x (dC s) (ce s) (aB s) .none kV dc pm an cd ct),sl⟩
noncomputable abbrev PC(K:Frag)(c:hH)(x:Str):Prop:=P5 K c x=N2
noncomputable abbrev PK(K:Frag)(f:Ub):Prop:=Np K (.ref f)=N2
theorem all_mk{l:Qp}{w:K1}{K:Frag}{h:Heap}{mg:Str->Option hH}{fa:Ub}(X:K.In h)(G:h.Ns KQ mg)(hfa:mg "law"=Z (.ref fa))(z:∀x∈bltNames,NX K KQ x=Z Y)(a0:PA K "single_one" f0)(l0:PL K f0 "single_one" (aj 1) oc0 od0 kV0 dc0 pm0 an0 cd0 ct0 sl0)(c0:PC K cd0 "single_one")(k0:PK K f0)(a1:PA K "rows_over" f1)(l1:PL K f1 "rows_over" (aj 3) oc1 od1 kV1 dc1 pm1 an1 cd1 ct1 sl1)(c1:PC K cd1 "rows_over")(k1:PK K f1)(a2:PA K "begins_with_one" f2)(l2:PL K f2 "begins_with_one" (aj 4) oc2 od2 kV2 dc2 pm2 an2 cd2 ct2 sl2)(c2:PC K cd2 "begins_with_one")(k2:PK K f2)(a3:PA K "pairs_over" f3)(l3:PL K f3 "pairs_over" (aj 5) oc3 od3 kV3 dc3 pm3 an3 cd3 ct3 sl3)(c3:PC K cd3 "pairs_over")(k3:PK K f3)(a4:PA K "pair_table" f4)(l4:PL K f4 "pair_table" (aj 6) oc4 od4 kV4 dc4 pm4 an4 cd4 ct4 sl4)(c4:PC K cd4 "pair_table")(k4:PK K f4)(a5:PA K "tables_over" f5)(l5:PL K f5 "tables_over" (aj 7) oc5 od5 kV5 dc5 pm5 an5 cd5 ct5 sl5)(c5:PC K cd5 "tables_over")(k5:PK K f5)(a6:PA K "without" f6)(l6:PL K f6 "without" (aj 8) oc6 od6 kV6 dc6 pm6 an6 cd6 ct6 sl6)(c6:PC K cd6 "without")(k6:PK K f6)(a7:PA K "is_sum" f7)(l7:PL K f7 "is_sum" (aj 9) oc7 od7 kV7 dc7 pm7 an7 cd7 ct7 sl7)(c7:PC K cd7 "is_sum")(k7:PK K f7)(a8:PA K "first_filled" f8)(l8:PL K f8 "first_filled" (aj 10) oc8 od8 kV8 dc8 pm8 an8 cd8 ct8 sl8)(c8:PC K cd8 "first_filled")(k8:PK K f8)(a9:PA K "grown" f9)(l9:PL K f9 "grown" (aj 11) oc9 od9 kV9 dc9 pm9 an9 cd9 ct9 sl9)(c9:PC K cd9 "grown")(k9:PK K f9)(a10:PA K "many_sets" f10)(l10:PL K f10 "many_sets" (aj 14) oc10 od10 kV10 dc10 pm10 an10 cd10 ct10 sl10)(c10:PC K cd10 "many_sets")(k10:PK K f10)(a11:PA K "sets_of" f11)(l11:PL K f11 "sets_of" (aj 15) oc11 od11 kV11 dc11 pm11 an11 cd11 ct11 sl11)(c11:PC K cd11 "sets_of")(k11:PK K f11)(a12:PA K "pairs_within" f12)(l12:PL K f12 "pairs_within" (aj 16) oc12 od12 kV12 dc12 pm12 an12 cd12 ct12 sl12)(c12:PC K cd12 "pairs_within")(k12:PK K f12)(a13:PA K "shares" f13)(l13:PL K f13 "shares" (aj 17) oc13 od13 kV13 dc13 pm13 an13 cd13 ct13 sl13)(c13:PC K cd13 "shares")(k13:PK K f13)(a14:PA K "scheme_by" f14)(l14:PL K f14 "scheme_by" (aj 18) oc14 od14 kV14 dc14 pm14 an14 cd14 ct14 sl14)(c14:PC K cd14 "scheme_by")(k14:PK K f14)(a15:PA K "looked_at" f15)(l15:PL K f15 "looked_at" (aj 19) oc15 od15 kV15 dc15 pm15 an15 cd15 ct15 sl15)(c15:PC K cd15 "looked_at")(k15:PK K f15)(a16:PA K "least_over" f16)(l16:PL K f16 "least_over" (aj 20) oc16 od16 kV16 dc16 pm16 an16 cd16 ct16 sl16)(c16:PC K cd16 "least_over")(k16:PK K f16)(a17:PA K "_law_cell_at" f17)(l17:PL K f17 "_law_cell_at" (aj 22) oc17 od17 kV17 dc17 pm17 an17 cd17 ct17 sl17)(c17:PC K cd17 "_law_cell_at")(k17:PK K f17)(a18:PA K "_law_mixed" f18)(l18:PL K f18 "_law_mixed" (aj 23) oc18 od18 kV18 dc18 pm18 an18 cd18 ct18 sl18)(c18:PC K cd18 "_law_mixed")(k18:PK K f18)(a19:PA K "_law_box" f19)(l19:PL K f19 "_law_box" (aj 24) oc19 od19 kV19 dc19 pm19 an19 cd19 ct19 sl19)(c19:PC K cd19 "_law_box")(k19:PK K f19)(a20:PA K "_law_take" f20)(l20:PL K f20 "_law_take" (aj 25) oc20 od20 kV20 dc20 pm20 an20 cd20 ct20 sl20)(c20:PC K cd20 "_law_take")(k20:PK K f20)(a21:PA K "_law_part" f21)(l21:PL K f21 "_law_part" (aj 26) oc21 od21 kV21 dc21 pm21 an21 cd21 ct21 sl21)(c21:PC K cd21 "_law_part")(k21:PK K f21)(a22:PA K "_law_scheme" f22)(l22:PL K f22 "_law_scheme" (aj 27) oc22 od22 kV22 dc22 pm22 an22 cd22 ct22 sl22)(c22:PC K cd22 "_law_scheme")(k22:PK K f22)(a23:PA K "_law_sums" f23)(l23:PL K f23 "_law_sums" (aj 28) oc23 od23 kV23 dc23 pm23 an23 cd23 ct23 sl23)(c23:PC K cd23 "_law_sums")(k23:PK K f23)(a24:PA K "_law_terms" f24)(l24:PL K f24 "_law_terms" (aj 29) oc24 od24 kV24 dc24 pm24 an24 cd24 ct24 sl24)(c24:PC K cd24 "_law_terms")(k24:PK K f24)(a25:PA K "_law_number" f25)(l25:PL K f25 "_law_number" (aj 30) oc25 od25 kV25 dc25 pm25 an25 cd25 ct25 sl25)(c25:PC K cd25 "_law_number")(k25:PK K f25)(a26:PA K "_law_field" f26)(l26:PL K f26 "_law_field" (aj 31) oc26 od26 kV26 dc26 pm26 an26 cd26 ct26 sl26)(c26:PC K cd26 "_law_field")(k26:PK K f26)(a27:PA K "_law_rows_over" f27)(l27:PL K f27 "_law_rows_over" (aj 32) oc27 od27 kV27 dc27 pm27 an27 cd27 ct27 sl27)(c27:PC K cd27 "_law_rows_over")(k27:PK K f27)(a28:PA K "_law_pairs" f28)(l28:PL K f28 "_law_pairs" (aj 33) oc28 od28 kV28 dc28 pm28 an28 cd28 ct28 sl28)(c28:PC K cd28 "_law_pairs")(k28:PK K f28)(a29:PA K "_law_table" f29)(l29:PL K f29 "_law_table" (aj 34) oc29 od29 kV29 dc29 pm29 an29 cd29 ct29 sl29)(c29:PC K cd29 "_law_table")(k29:PK K f29)(a30:PA K "_law_tables" f30)(l30:PL K f30 "_law_tables" (aj 35) oc30 od30 kV30 dc30 pm30 an30 cd30 ct30 sl30)(c30:PC K cd30 "_law_tables")(k30:PK K f30)(a31:PA K "_law_with" f31)(l31:PL K f31 "_law_with" (aj 36) oc31 od31 kV31 dc31 pm31 an31 cd31 ct31 sl31)(c31:PC K cd31 "_law_with")(k31:PK K f31)(a32:PA K "_law_span" f32)(l32:PL K f32 "_law_span" (aj 37) oc32 od32 kV32 dc32 pm32 an32 cd32 ct32 sl32)(c32:PC K cd32 "_law_span")(k32:PK K f32)(a33:PA K "_law_height" f33)(l33:PL K f33 "_law_height" (aj 38) oc33 od33 kV33 dc33 pm33 an33 cd33 ct33 sl33)(c33:PC K cd33 "_law_height")(k33:PK K f33)(a34:PA K "_law_task" f34)(l34:PL K f34 "_law_task" (aj 39) oc34 od34 kV34 dc34 pm34 an34 cd34 ct34 sl34)(c34:PC K cd34 "_law_task")(k34:PK K f34)(a35:PA K "_law_sets" f35)(l35:PL K f35 "_law_sets" (aj 40) oc35 od35 kV35 dc35 pm35 an35 cd35 ct35 sl35)(c35:PC K cd35 "_law_sets")(k35:PK K f35)(a36:PA K "_law_count" f36)(l36:PL K f36 "_law_count" (aj 41) oc36 od36 kV36 dc36 pm36 an36 cd36 ct36 sl36)(c36:PC K cd36 "_law_count")(k36:PK K f36)(a37:PA K "_law_sums_by" f37)(l37:PL K f37 "_law_sums_by" (aj 42) oc37 od37 kV37 dc37 pm37 an37 cd37 ct37 sl37)(c37:PC K cd37 "_law_sums_by")(k37:PK K f37)(a38:PA K "_law_told" f38)(l38:PL K f38 "_law_told" (aj 43) oc38 od38 kV38 dc38 pm38 an38 cd38 ct38 sl38)(c38:PC K cd38 "_law_told")(k38:PK K f38)(a39:PA K "_law_due" f39)(l39:PL K f39 "_law_due" (aj 44) oc39 od39 kV39 dc39 pm39 an39 cd39 ct39 sl39)(c39:PC K cd39 "_law_due")(k39:PK K f39)(a40:PA K "_law_does" f40)(l40:PL K f40 "_law_does" (aj 45) oc40 od40 kV40 dc40 pm40 an40 cd40 ct40 sl40)(c40:PC K cd40 "_law_does")(k40:PK K f40)(a41:PA K "_law_few" f41)(l41:PL K f41 "_law_few" (aj 46) oc41 od41 kV41 dc41 pm41 an41 cd41 ct41 sl41)(c41:PC K cd41 "_law_few")(k41:PK K f41)(a42:PA K "law" f42)(l42:PL K f42 "law" (aj 47) oc42 od42 kV42 dc42 pm42 an42 cd42 ct42 sl42)(c42:PC K cd42 "law")(k42:PK K f42)(gcst0:NX K KQ "MOST_SETS"=Z (Z (.int 3000 ut0)))
 : ∃fd:Nm,(∀(s:I7) (v:hH),RL s fd ⟨[v],[]⟩ [("_law_script",v)])/\∀base:Heap,K.In base->base.Ns KQ mg->dP l.prog w K mg base CX0 40 fa fd ["_law_script"] (lSp K (phi tab 40 42)):=by
 have e:=hfa.symm.trans (Jk X G a42)
 cases e
 have O:yL K mg tab pB:=by
  refine⟨λx hx=>PySem.W.mg_none_of X G (z x hx),?_,Cl,?_⟩
  ·intro i d hd
   match i,hd with
   |0,hd=>cases hd;exact⟨_,_,ae l0 c0 k0,Jk X G a0,a0,(ae l0 c0 k0).binds λ_ _ _ _ _ _ us hl=>by obtain⟨u0,u1,rfl⟩:=aW us hl;rfl⟩
   |1,hd=>cases hd;exact⟨_,_,ae l1 c1 k1,Jk X G a1,a1,(ae l1 c1 k1).binds λ_ _ _ _ _ _ us hl=>by obtain⟨u0,u1,rfl⟩:=aW us hl;rfl⟩
   |2,hd=>cases hd;exact⟨_,_,ae l2 c2 k2,Jk X G a2,a2,(ae l2 c2 k2).binds λ_ _ _ _ _ _ us hl=>by obtain⟨u0,rfl⟩:=fP us hl;rfl⟩
   |3,hd=>cases hd;exact⟨_,_,ae l3 c3 k3,Jk X G a3,a3,(ae l3 c3 k3).binds λ_ _ _ _ _ _ us hl=>by obtain⟨u0,u1,u2,rfl⟩:=bV us hl;rfl⟩
   |4,hd=>cases hd;exact⟨_,_,ae l4 c4 k4,Jk X G a4,a4,(ae l4 c4 k4).binds λ_ _ _ _ _ _ us hl=>by obtain⟨u0,u1,rfl⟩:=aW us hl;rfl⟩
   |5,hd=>cases hd;exact⟨_,_,ae l5 c5 k5,Jk X G a5,a5,(ae l5 c5 k5).binds λ_ _ _ _ _ _ us hl=>by obtain⟨u0,u1,rfl⟩:=aW us hl;rfl⟩
   |6,hd=>cases hd;exact⟨_,_,ae l6 c6 k6,Jk X G a6,a6,(ae l6 c6 k6).binds λ_ _ _ _ _ _ us hl=>by obtain⟨u0,u1,u2,rfl⟩:=bV us hl;rfl⟩
   |7,hd=>cases hd;exact⟨_,_,ae l7 c7 k7,Jk X G a7,a7,(ae l7 c7 k7).binds λ_ _ _ _ _ _ us hl=>by obtain⟨u0,u1,u2,rfl⟩:=bV us hl;rfl⟩
   |8,hd=>cases hd;exact⟨_,_,ae l8 c8 k8,Jk X G a8,a8,(ae l8 c8 k8).binds λ_ _ _ _ _ _ us hl=>by obtain⟨u0,rfl⟩:=fP us hl;rfl⟩
   |9,hd=>cases hd;exact⟨_,_,ae l9 c9 k9,Jk X G a9,a9,(ae l9 c9 k9).binds λ_ _ _ _ _ _ us hl=>by obtain⟨u0,u1,u2,rfl⟩:=bV us hl;rfl⟩
   |10,hd=>cases hd;exact⟨_,_,ae l10 c10 k10,Jk X G a10,a10,(ae l10 c10 k10).binds λ_ _ _ _ _ _ us hl=>by obtain⟨u0,u1,rfl⟩:=aW us hl;rfl⟩
   |11,hd=>cases hd;exact⟨_,_,ae l11 c11 k11,Jk X G a11,a11,(ae l11 c11 k11).binds λ_ _ _ _ _ _ us hl=>by obtain⟨u0,u1,rfl⟩:=aW us hl;rfl⟩
   |12,hd=>cases hd;exact⟨_,_,ae l12 c12 k12,Jk X G a12,a12,(ae l12 c12 k12).binds λ_ _ _ _ _ _ us hl=>by obtain⟨u0,u1,u2,rfl⟩:=bV us hl;rfl⟩
   |13,hd=>cases hd;exact⟨_,_,ae l13 c13 k13,Jk X G a13,a13,(ae l13 c13 k13).binds λ_ _ _ _ _ _ us hl=>by obtain⟨u0,u1,u2,rfl⟩:=bV us hl;rfl⟩
   |14,hd=>cases hd;exact⟨_,_,ae l14 c14 k14,Jk X G a14,a14,(ae l14 c14 k14).binds λ_ _ _ _ _ _ us hl=>by obtain⟨u0,u1,u2,rfl⟩:=bV us hl;rfl⟩
   |15,hd=>cases hd;exact⟨_,_,ae l15 c15 k15,Jk X G a15,a15,(ae l15 c15 k15).binds λ_ _ _ _ _ _ us hl=>by obtain⟨u0,u1,rfl⟩:=aW us hl;rfl⟩
   |16,hd=>cases hd;exact⟨_,_,ae l16 c16 k16,Jk X G a16,a16,(ae l16 c16 k16).binds λ_ _ _ _ _ _ us hl=>by obtain⟨u0,u1,rfl⟩:=aW us hl;rfl⟩
   |17,hd=>cases hd;exact⟨_,_,ae l17 c17 k17,Jk X G a17,a17,(ae l17 c17 k17).binds λ_ _ _ _ _ _ us hl=>by obtain⟨u0,u1,rfl⟩:=aW us hl;rfl⟩
   |18,hd=>cases hd;exact⟨_,_,ae l18 c18 k18,Jk X G a18,a18,(ae l18 c18 k18).binds λ_ _ _ _ _ _ us hl=>by obtain⟨u0,u1,rfl⟩:=aW us hl;rfl⟩
   |19,hd=>cases hd;exact⟨_,_,ae l19 c19 k19,Jk X G a19,a19,(ae l19 c19 k19).binds λ_ _ _ _ _ _ us hl=>by obtain⟨u0,u1,rfl⟩:=aW us hl;rfl⟩
   |20,hd=>cases hd;exact⟨_,_,ae l20 c20 k20,Jk X G a20,a20,(ae l20 c20 k20).binds λ_ _ _ _ _ _ us hl=>by obtain⟨u0,u1,rfl⟩:=aW us hl;rfl⟩
   |21,hd=>cases hd;exact⟨_,_,ae l21 c21 k21,Jk X G a21,a21,(ae l21 c21 k21).binds λ_ _ _ _ _ _ us hl=>by obtain⟨u0,u1,rfl⟩:=aW us hl;rfl⟩
   |22,hd=>cases hd;exact⟨_,_,ae l22 c22 k22,Jk X G a22,a22,(ae l22 c22 k22).binds λ_ _ _ _ _ _ us hl=>by obtain⟨u0,u1,u2,rfl⟩:=bV us hl;rfl⟩
   |23,hd=>cases hd;exact⟨_,_,ae l23 c23 k23,Jk X G a23,a23,(ae l23 c23 k23).binds λ_ _ _ _ _ _ us hl=>by obtain⟨u0,rfl⟩:=fP us hl;rfl⟩
   |24,hd=>cases hd;exact⟨_,_,ae l24 c24 k24,Jk X G a24,a24,(ae l24 c24 k24).binds λ_ _ _ _ _ _ us hl=>by obtain⟨u0,rfl⟩:=fP us hl;rfl⟩
   |25,hd=>cases hd;exact⟨_,_,ae l25 c25 k25,Jk X G a25,a25,(ae l25 c25 k25).binds λ_ _ _ _ _ _ us hl=>by obtain⟨u0,rfl⟩:=fP us hl;rfl⟩
   |26,hd=>cases hd;exact⟨_,_,ae l26 c26 k26,Jk X G a26,a26,(ae l26 c26 k26).binds λ_ _ _ _ _ _ us hl=>by obtain⟨u0,u1,rfl⟩:=aW us hl;rfl⟩
   |27,hd=>cases hd;exact⟨_,_,ae l27 c27 k27,Jk X G a27,a27,(ae l27 c27 k27).binds λ_ _ _ _ _ _ us hl=>by obtain⟨u0,u1,rfl⟩:=aW us hl;rfl⟩
   |28,hd=>cases hd;exact⟨_,_,ae l28 c28 k28,Jk X G a28,a28,(ae l28 c28 k28).binds λ_ _ _ _ _ _ us hl=>by obtain⟨u0,u1,u2,rfl⟩:=bV us hl;rfl⟩
   |29,hd=>cases hd;exact⟨_,_,ae l29 c29 k29,Jk X G a29,a29,(ae l29 c29 k29).binds λ_ _ _ _ _ _ us hl=>by obtain⟨u0,u1,rfl⟩:=aW us hl;rfl⟩
   |30,hd=>cases hd;exact⟨_,_,ae l30 c30 k30,Jk X G a30,a30,(ae l30 c30 k30).binds λ_ _ _ _ _ _ us hl=>by obtain⟨u0,u1,rfl⟩:=aW us hl;rfl⟩
   |31,hd=>cases hd;exact⟨_,_,ae l31 c31 k31,Jk X G a31,a31,(ae l31 c31 k31).binds λ_ _ _ _ _ _ us hl=>by obtain⟨u0,u1,u2,rfl⟩:=bV us hl;rfl⟩
   |32,hd=>cases hd;exact⟨_,_,ae l32 c32 k32,Jk X G a32,a32,(ae l32 c32 k32).binds λ_ _ _ _ _ _ us hl=>by obtain⟨u0,u1,u2,rfl⟩:=bV us hl;rfl⟩
   |33,hd=>cases hd;exact⟨_,_,ae l33 c33 k33,Jk X G a33,a33,(ae l33 c33 k33).binds λ_ _ _ _ _ _ us hl=>by obtain⟨u0,u1,rfl⟩:=aW us hl;rfl⟩
   |34,hd=>cases hd;exact⟨_,_,ae l34 c34 k34,Jk X G a34,a34,(ae l34 c34 k34).binds λ_ _ _ _ _ _ us hl=>by obtain⟨u0,u1,u2,rfl⟩:=bV us hl;rfl⟩
   |35,hd=>cases hd;exact⟨_,_,ae l35 c35 k35,Jk X G a35,a35,(ae l35 c35 k35).binds λ_ _ _ _ _ _ us hl=>by obtain⟨u0,u1,rfl⟩:=aW us hl;rfl⟩
   |36,hd=>cases hd;exact⟨_,_,ae l36 c36 k36,Jk X G a36,a36,(ae l36 c36 k36).binds λ_ _ _ _ _ _ us hl=>by obtain⟨u0,u1,rfl⟩:=aW us hl;rfl⟩
   |37,hd=>cases hd;exact⟨_,_,ae l37 c37 k37,Jk X G a37,a37,(ae l37 c37 k37).binds λ_ _ _ _ _ _ us hl=>by obtain⟨u0,u1,u2,u3,rfl⟩:=yM us hl;rfl⟩
   |38,hd=>cases hd;exact⟨_,_,ae l38 c38 k38,Jk X G a38,a38,(ae l38 c38 k38).binds λ_ _ _ _ _ _ us hl=>by obtain⟨u0,u1,u2,u3,rfl⟩:=yM us hl;rfl⟩
   |39,hd=>cases hd;exact⟨_,_,ae l39 c39 k39,Jk X G a39,a39,(ae l39 c39 k39).binds λ_ _ _ _ _ _ us hl=>by obtain⟨u0,u1,rfl⟩:=aW us hl;rfl⟩
   |40,hd=>cases hd;exact⟨_,_,ae l40 c40 k40,Jk X G a40,a40,(ae l40 c40 k40).binds λ_ _ _ _ _ _ us hl=>by obtain⟨u0,u1,u2,rfl⟩:=bV us hl;rfl⟩
   |41,hd=>cases hd;exact⟨_,_,ae l41 c41 k41,Jk X G a41,a41,(ae l41 c41 k41).binds λ_ _ _ _ _ _ us hl=>by obtain⟨u0,u1,rfl⟩:=aW us hl;rfl⟩
   |42,hd=>cases hd;exact⟨_,_,ae l42 c42 k42,Jk X G a42,a42,(ae l42 c42 k42).binds λ_ _ _ _ _ _ us hl=>by obtain⟨u0,rfl⟩:=fP us hl;rfl⟩
   |i+43,hd=>simp[tab]at hd
  ·intro x i hx;simp only[pB,Jp,K8,or_false,Prod.mk.injEq]at hx
   rcases hx with⟨rfl,rfl⟩
   ·exact⟨_,Jk X G gcst0,GV.ints⟩
 refine⟨MX "law" "law" (dC (aj 47)) (ce (aj 47)) (aB (aj 47)) .none kV42 dc42 pm42 an42 cd42 ct42,λs v=>.of_eq rfl,λbase _ _=>?_⟩;exact v6 O 40 42 d42 _ _ rfl (ae l42 c42 k42)
theorem walk {l:Qp}{q:JB}{loose:List Str}{XP:(Str->Option hH)->Heap->Prop}{YP:K1->Heap->Prop}{d:DefRec}{K:Params->Frag}(hn:l.most=Z 63)(hdf:d.params.defaults=[])(hlaw:∀ns:List Int,ns.length<=63->phi tab 40 42 [.con (ns.map D.int)] (fun _=>Y) fun d _=>d=.bl N2)(hY:∀(w:K1) (h:Heap),YP w h->(K w.params).In h)(F:∀(w:K1) (mg:Str->Option hH) (fa:Ub) (h:Heap),(K w.params).In h->h.Ns KQ mg->mg d.name=Z (.ref fa)->
   ∃fd:Nm,(∀(s:I7) (u:hH),RL s fd ⟨[u],[]⟩ [("_law_script",u)])/\∀base:Heap,(K w.params).In base->base.Ns KQ mg->dP l.prog w (K w.params) mg base CX0 40 fa fd ["_law_script"] (lSp (K w.params) (phi tab 40 42))):
 PySem.W.WalkO q loose XP YP l.row.toRowW d [] (λf vs=>Tg f vs):=
 L2.walk_of (n:=63) (k:=40) (x:="_law_script") (CX:=λ_=>CX0) (sp:=λw=>lSp (K w.params) (phi tab 40 42)) hn (by decide) hdf ⟨rfl,by decide,by decide⟩ hY F (λw H a ns hl hO hS=>Cc hO hS (hlaw ns hl)) λ_ _ _ _ _ z=>z
end K43
end
section
namespace K43
open L2.Srt
theorem qR{n:Nat}(j:1<=n):sP tab n 18:=vc (x:="_law_number_here") (s:=aj 23) rfl j
theorem bR{n:Nat}(j:2<=n):v8 tab n 20:=λz h1 h2 q=>Al (s:=aj 25) (fm:=18) rfl (qR ∅) j z h1 h2 q
theorem sZ{n:Nat}(U:3<=n):oH tab n 25:=by
 intro b M Q B q;refine al ∅ rfl rfl (ρ:=[Z _]) rfl ?_
 unfold d25 L2.Mi.K43.b25;nofun;refine⟨by rw[r4];lia,λp F=>?_⟩
 have g:=Ge.new (o:=.lst ([0,0,1,1,1,-1,-1,2,0].map D.int)) F;have e:=aa (M:=M) (a:=p) (o:=.lst ([0,0,1,1,1,-1,-1,2,0].map D.int));have j:p≠b:=λz=>by obtain⟨_,_,_,h⟩:=B;rw[<-z,F]at h;cases h
 have x0:=Bx.of B g;change phi _ _ _ _ (ah M p (.lst ([0,0,1,1,1,-1,-1,2,0].map D.int))) _;generalize ah M p (.lst ([0,0,1,1,1,-1,-1,2,0].map D.int))=M1 at e x0⊢;refine bR ∅ x0.box (by decide) (by decide) λv M2 v0 v1 G=>?_
 have e:=G.keep p _ j e;obtain⟨v,rfl⟩:=JS v0;have O:v<([0,0,1,1,1,-1,-1,2,0]:List Int).length:=by simp;lia
 have J:([0,0,1,1,1,-1,-1,2,0]:List Int)[v]?=Z ([0,0,1,1,1,-1,-1,2,0]:List Int)[v]:=z4 O;have hm:=Jh J;have L:-1000<=([0,0,1,1,1,-1,-1,2,0]:List Int)[v]/\([0,0,1,1,1,-1,-1,2,0]:List Int)[v]<=1000:=by simp only[Jp,K8,or_false]at hm;lia
 exact aK e (bx (by rw[Jj,J];rfl)) (q _ _ L.1 L.2 (x0.trans G))
theorem xX{n:Nat}(B:4<=n):va tab n 21:=λj z q=>Am (s:=aj 26) (fn:=25) rfl (sZ ∅) ∅ j z q
variable{M M':Mem}
theorem aP{p:Ub}(g:Ge M M')(h:M' p=Y):M p=Y:=by
 cases hz:M p with
 |none=>rfl
 |some o=>rw[g _ _ hz]at h;cases h
noncomputable abbrev rD(v:List Int):D:=.tup (v.map .int)
noncomputable def rwN(P:Nat)(rows:List (List Int)):List (List Int):=rows.flatMap λr=>(J2 P).map λx=>r++[((x:Nat):Int)]
noncomputable def rws(P:Nat):Nat->List (List Int)
 |0=>[[]]
 |k+1=>rwN P (rws P k)
theorem fi{P:Nat}:∀{rows:List (List Int)},(rwN P rows).length=rows.length*P
 |[]=>by simp[rwN]
 |r::rows=>by have ih:=fi (P:=P) (rows:=rows);unfold rwN at ih⊢;rw[Ka,q7,ih,Jw,Kq];simp;lia
theorem cQ{P:Nat}(j:P<=3):∀k,k<=6->(rws P k).length<=3^k
 |0,_=>by simp[rws]
 |k+1,h=>by show(rwN P (rws P k)).length<=_;rw[fi,Qn];exact JK (cQ j k ∅) j
theorem ie{k:Nat}(h:k<=6):3^k<=729:=K0 (OF (by decide) h) (by decide)
theorem cR{P:Nat}:∀k,∀r∈rws P k,r.length=k
 |0,r,h=>by simp[rws]at h;simp[h]
 |k+1,r,h=>by obtain⟨u,j,h⟩:=KD.mp h;obtain⟨x,_,rfl⟩:=J8.mp h;rw[q7,cR k u j];rfl
noncomputable def nzl(v:List Int):List Int:=v.filter λx=>!(x==0)
noncomputable def fo(v:List Int):Bool:=decide (0<(nzl v).length)&&decide (gz (nzl v) 0=1)
variable{v:List Int}{Q:QD}
theorem lL{k:Nat}(L:1<=k)(O:v.length<=1000)(q:∀M',Ge M M'->Q (.bl (fo v)) M'):phi tab k 2 [rD v] M Q:=by
 refine al ∅ rfl rfl (ρ:=[Z _,Y]) rfl ?_
 unfold d2 L2.Mi.K43.b2;nofun;refine ak (f:=D.int) (ys:=v) (I:=λl ρ M' acc=>(∃o0,ρ=[o0])/\M'=M/\acc=(nzl l).map .int) rfl ⟨⟨_,rfl⟩,rfl,rfl⟩ (λ_ _ _ _ _=>by first|rfl|trivial) ?_ ?_
 ·rintro l x r ρ z acc e ⟨⟨o0,rfl⟩,rfl,rfl⟩;refine⟨_,rfl,λN B=>?_⟩;have F:=ag e;have G:=Jv (λx:Int=>!(x==0)) l;ac_nf
  by_cases hx:x=0
  ·subst hx;simp;exact B _ _ _ ⟨⟨_,rfl⟩,rfl,by simp[nzl]⟩
  ·rw[if_pos (by simpa using hx)]
   exact⟨by rw[h7,r4];unfold nzl;lia,B _ _ _ ⟨⟨_,rfl⟩,rfl,by simp[nzl,hx]⟩⟩
 ·rintro ρ z acc ⟨⟨o0,rfl⟩,rfl,rfl⟩ p hp;have g1:=Ge.new (o:=.lst ((nzl v).map .int)) hp;have j:=aa (M:=z) (a:=p) (o:=.lst ((nzl v).map .int));generalize ah z p (.lst ((nzl v).map .int))=M2 at g1 j⊢;nofun;refine⟨_,_,rfl,ba (ab j),?_⟩;ac_nf;rw[h7]
  cases hz:nzl v with
  |nil=>
   rw[if_neg (by simp)]
   have:=q _ g1;unfold fo at this;rw[hz]at this;simpa using this
  |cons x r=>
   rw[if_pos (by simp)]
   rw[hz]at j;refine aK j (d:=.int x) (bx (k:=0) rfl) ?_;ac_nf;have:=q _ g1;unfold fo at this;rw[hz]at this;have J:(x==1)=decide (x=1):=rfl;rw[J];simpa[gz]using this
noncomputable def fx1(c:Nat)(a:Nat)(l:List Nat):List (Nat×Nat):=(l.filter λb:Nat=>decide ((1+a)*(1+b)<=c)).map λb=>(1+a,1+b)
noncomputable def fx(c:Nat)(l:List Nat):List (Nat×Nat):=l.flatMap λa=>fx1 c a (J2 6)
noncomputable def pnD(x:Nat×Nat):D:=.tup [.int x.1,.int x.2]
theorem vA{c:Nat}:∀{l:List Nat},(fx c l).length<=l.length*6
 |[]=>by simp[fx]
 |a::l=>by
  have ih:=vA (c:=c) (l:=l);have h1:(fx1 c a (J2 6)).length<=6:=by unfold fx1;rw[h7];exact Jv _ _
  unfold fx at ih⊢;rw[Ka,q7,Jw];lia
theorem Cn:∀{A B:List Int},Lk (A.map .int) (B.map .int)=decide (A=B)
 |[],[]=>by simp[Lk]
 |[],_::_=>by simp[Lk]
 |_::_,[]=>by simp[Lk]
 |a::A,b::B=>by
  rw[Jr,Jr,Lk,Cn]
  by_cases h:a=b<;>simp[Km,h]
variable{a b:Ub}
theorem Ax{A B:List Int}(j:M a=Z (.lst (A.map .int)))(z:M b=Z (.lst (B.map .int)))(q:Q (.bl (decide (A=B))) M):wEq (.ref a) (.ref b) M Q:=by
 refine⟨.list (A.map .int),.list (B.map .int),by rw[jK j,eZ];rfl,by rw[jK z,eZ];rfl,?_⟩
 rw[Km,Cn];exact q
theorem Ay:decide ((nzl v).take 1=[1])=fo v:=by
 unfold fo
 cases nzl v with
 |nil=>simp
 |cons x r=>simp[gz]
variable{P L:Nat}
theorem qS{k:Nat}(hk:1<=k)(hP:P<=3)(hL:L<=6)(q:∀p M',Ge M M'->M p=Y->M' p=Z (.lst ((rws P L).map rD))->Q (.ref p) M'):phi tab k 1 [.int L,.int P] M Q:=by
 refine al ∅ rfl rfl (ρ:=[Z _,Z _,Y,Y]) rfl ?_
 unfold d1 L2.Mi.K43.b1;nofun;refine⟨by rw[r4];lia,by rw[r4];lia,λJ z=>?_⟩
 have g0:=Ge.new (o:=.lst [rD []]) z;have e0:=aa (M:=M) (a:=J) (o:=.lst [rD []]);change wSs _ _ _ _ (ah M J (.lst [rD []]));generalize ah M J (.lst [rD []])=M0 at g0 e0⊢;nofun;refine⟨∅,∅,?_⟩
 rw[Jd];refine ao (f:=λi=>D.int (i:Nat)) (ys:=J2 L) (I:=λl ρ M'=>∃pr O,ρ=[Z (.int L),Z (.int P),Z (.ref pr),O]/\Ge M M'/\M pr=Y/\M' pr=Z (.lst ((rws P l.length).map rD))) av ⟨J,_,rfl,g0,z,e0⟩ (λ_ _ _ _=>trivial) ?_ ?_
 ·rintro l i r ρ M1 e ⟨pr,O,rfl,g1,n1,B⟩;refine⟨_,rfl,λF hF=>?_⟩;have U:=ag e;rw[Jb]at U;have GB:=K0 (cQ hP l.length ∅) (ie (show l.length<=6 by lia))
  nofun;refine⟨_,ab B,?_⟩;refine ak (f:=rD) (ys:=rws P l.length) (I:=λl2 ρ M' acc=>(∃o0 j,ρ=[o0,j,Z (.int P)])/\M'=M1/\acc=(rwN P l2).map rD) rfl ⟨⟨_,_,rfl⟩,rfl,rfl⟩ (λ_ _ _ _ h=>by rw[h.2.1];exact ab B) ?_ ?_
  ·rintro l2 w r2 ρ M2 acc e2 ⟨⟨o0,j,rfl⟩,rfl,rfl⟩;refine⟨_,rfl,λN hN=>?_⟩;have GA:=ag e2;have GC:=cR l.length w (by rw[e2];simp)
   ac_nf;refine⟨∅,∅,?_⟩
   rw[Jd];refine ak (f:=λi=>D.int (i:Nat)) (ys:=J2 P) (I:=λl3 ρ M' acc=>(∃j,ρ=[Z (rD w),j,Z (.int P)])/\M'=M2/\acc=(rwN P l2++l3.map λx=>w++[((x:Nat):Int)]).map rD) av ⟨⟨_,rfl⟩,rfl,by simp⟩ (λ_ _ _ _ _=>trivial) ?_ ?_
   ·rintro l3 x r3 ρ M3 acc e3 ⟨⟨j,rfl⟩,rfl,rfl⟩;refine⟨_,rfl,λN2 F2=>?_⟩;have fv:=ag e3;rw[Jb]at fv;have hm:l2.length*P<=729*3:=JK ∅ hP
    ac_nf;refine⟨by rw[r4];lia,.inr trivial,by rw[h7,r4];lia,by rw[h7,q7,fi,h7,r4];lia,F2 _ _ _ ⟨⟨_,rfl⟩,rfl,by simp⟩⟩
   ·rintro ρ M3 acc ⟨⟨j,rfl⟩,rfl,rfl⟩;exact hN _ _ _ ⟨⟨_,_,rfl⟩,rfl,by simp[rwN,JV]⟩
  ·rintro ρ M2 acc ⟨⟨o0,j,rfl⟩,rfl,rfl⟩ pn G;refine hF _ _ ⟨pn,_,rfl,g1.trans (Ge.new G),aP g1 G,?_⟩;rw[aa,q7];rfl
 ·rintro ρ M1 ⟨pr,O,rfl,g1,n1,B⟩;dsimp only;nofun;rw[Jb]at B;exact q pr M1 g1 n1 B
theorem pC{k:Nat}(hk:1<=k)(hP:P<=3)(hL:L<=6)(q:∀p M',Ge M M'->M p=Y->M' p=Z (.lst (((rws P L).filter fo).map rD))->Q (.ref p) M'):phi tab k 27 [.int L,.int P] M Q:=by
 refine al ∅ rfl rfl (ρ:=[Z _,Z _,Y,Y,Y,Y]) rfl ?_
 unfold d27 L2.Mi.K43.b27;nofun;refine⟨by rw[r4];lia,by rw[r4];lia,λp0 GD=>?_⟩
 have g0:=Ge.new (o:=.lst [rD []]) GD;have e0:=aa (M:=M) (a:=p0) (o:=.lst [rD []]);change wSs _ _ _ _ (ah M p0 (.lst [rD []]));generalize ah M p0 (.lst [rD []])=M0 at g0 e0⊢;nofun;refine⟨∅,∅,?_⟩
 rw[Jd];refine ao (f:=λi=>D.int (i:Nat)) (ys:=J2 L) (I:=λl ρ M'=>∃pr o3 o4 O,ρ=[Z (.int L),Z (.int P),Z (.ref pr),o3,o4,O]/\Ge M M'/\M' pr=Z (.lst ((rws P l.length).map rD))) av ⟨p0,_,_,_,rfl,g0,e0⟩ (λ_ _ _ _=>trivial) ?_ ?_
 ·rintro l i r ρ fv e ⟨pr,o3,o4,O,rfl,g1,J⟩;refine⟨_,rfl,λF hF=>?_⟩;have GE:=ag e;rw[Jb]at GE;have GF:=K0 (cQ hP l.length ∅) (ie (show l.length<=6 by lia))
  nofun;refine⟨by rw[r4];lia,λpl j=>?_⟩
  have g2:=Ge.new (o:=.lst []) j;have e2:=aa (M:=fv) (a:=pl) (o:=.lst []);generalize ah fv pl (.lst [])=M2 at g2 e2⊢;have GK:=aP g1 j;have GM:pr≠pl:=λz=>by rw[z,j]at J;cases J
  nofun;refine⟨_,ab (g2 _ _ J),?_⟩;refine ao (f:=rD) (ys:=rws P l.length) (I:=λl2 ρ M'=>(∃O,ρ=[Z (.int L),Z (.int P),Z (.ref pr),Z (.int (i:Nat)),Z (.ref pl),O])/\Ge fv M'/\M' pl=Z (.lst ((rwN P l2).map rD))) rfl ⟨⟨_,rfl⟩,g2,e2⟩ (λ_ _ _ h=>ab (h.2.1 _ _ J)) ?_ ?_
  ·rintro l2 w r2 ρ U e' ⟨⟨O,rfl⟩,g3,G⟩;refine⟨_,rfl,λF2 GG=>?_⟩;have GA:=ag e';have GH:=cR l.length w (by rw[e'];simp)
   nofun;refine⟨⟨_,G⟩,∅,∅,?_⟩
   rw[Jd];refine ak (f:=λi=>D.int (i:Nat)) (ys:=J2 P) (I:=λF2 ρ M' acc=>(∃o0,ρ=[o0,Z (rD w)])/\M'=U/\acc=(F2.map λx=>w++[((x:Nat):Int)]).map rD) av ⟨⟨_,rfl⟩,rfl,rfl⟩ (λ_ _ _ _ _=>trivial) ?_ ?_
   ·rintro F2 x r3 ρ M4 acc e3' ⟨⟨o0,rfl⟩,rfl,rfl⟩;refine⟨_,rfl,λN hN=>?_⟩;have GB:=ag e3';rw[Jb]at GB;ac_nf;exact⟨by rw[r4];lia,.inr trivial,by rw[h7,r4];lia,by rw[h7,h7,r4];lia,hN _ _ _ ⟨⟨_,rfl⟩,rfl,by simp⟩⟩
   ·rintro ρ M4 acc ⟨⟨o0,rfl⟩,rfl,rfl⟩ pe hpe;have gp:=Ge.new (o:=.lst (((J2 P).map λx=>w++[((x:Nat):Int)]).map rD)) hpe;have hm:l2.length*P<=729*3:=JK ∅ hP
    refine⟨pl,pe,_,_,rfl,rfl,gp _ _ G,aa,by rw[h7,h7,h7,Jb,fi,r4];lia,?_⟩
    refine GG _ _ ⟨⟨_,rfl⟩,(g3.trans gp).upd j,?_⟩;rw[aa];simp[rwN,JV]
  ·rintro ρ U ⟨⟨O,rfl⟩,g3,G⟩;dsimp only;nofun;refine hF _ _ ⟨pl,_,_,_,rfl,g1.trans g3,?_⟩;rw[G,q7];rfl
 ·rintro ρ fv ⟨pr,o3,o4,O,rfl,g1,J⟩;dsimp only;rw[Jb]at J;have GF:=K0 (cQ hP L hL) (ie hL);nofun;refine⟨_,ab J,?_⟩;refine ak (f:=rD) (ys:=rws P L) (I:=λl2 ρ M' acc=>(∃o0,ρ=[o0])/\Ge fv M'/\acc=(l2.filter fo).map rD) rfl ⟨⟨_,rfl⟩,Ge.refl,rfl⟩ (λ_ _ _ _ h=>ab (h.2.1 _ _ J)) ?_ ?_
  ·rintro l2 w r2 ρ M2 acc e2 ⟨⟨o0,rfl⟩,g2,rfl⟩;refine⟨_,rfl,λN hN=>?_⟩;have GA:=ag e2;have GH:=cR L w (by rw[e2];simp)
   have GN:=Jv fo l2;refine⟨_,rfl,_,rfl,?_⟩;refine ak (f:=D.int) (ys:=w) (I:=λF2 ρ M' acc=>(∃o0,ρ=[o0])/\M'=M2/\acc=(nzl F2).map .int) rfl ⟨⟨_,rfl⟩,rfl,rfl⟩ (λ_ _ _ _ _=>by first|rfl|trivial) ?_ ?_
   ·rintro F2 x r3 ρ U acc G ⟨⟨o0,rfl⟩,rfl,rfl⟩;refine⟨_,rfl,λN2 GC=>?_⟩;have GB:=ag G;have GL:=Jv (λx:Int=>!(x==0)) F2;refine⟨_,rfl,?_⟩;ac_nf
    by_cases hx:x=0
    ·subst hx;simp;exact GC _ _ _ ⟨⟨_,rfl⟩,rfl,by simp[nzl]⟩
    ·rw[if_pos (by simpa using hx)]
     exact⟨by rw[h7,r4];unfold nzl;lia,GC _ _ _ ⟨⟨_,rfl⟩,rfl,by simp[nzl,hx]⟩⟩
   ·rintro ρ U acc ⟨⟨o0,rfl⟩,rfl,rfl⟩ p3 hp3;have g3:=Ge.new (o:=.lst ((nzl w).map .int)) hp3;have G:=aa (M:=U) (a:=p3) (o:=.lst ((nzl w).map .int));generalize ah U p3 _=M4 at g3 G⊢;refine⟨_,G,fun p4 GI=>?_⟩;have ec:dW ((nzl w).map D.int) Y (Z 1)=((nzl w).take 1).map .int:=by
     unfold dW;simp only[HT.sIx];rw[if_neg ∅,Rr]
     cases nzl w with
     |nil=>simp
     |cons x r=>simp
    rw[ec];have g4:=Ge.new (o:=.lst (((nzl w).take 1).map .int)) GI;have e4:=aa (M:=M4) (a:=p4) (o:=.lst (((nzl w).take 1).map .int));generalize ah M4 p4 _=M5 at g4 e4⊢;refine⟨by rw[r4];lia,λp5 GJ=>?_⟩
    have g5:=Ge.new (o:=.lst ([1].map D.int)) GJ;have gA:=g2.trans (g3.trans (g4.trans g5));refine Ax (B:=[1]) (g5 _ _ e4) aa ?_;rw[Ay];refine⟨_,rfl,?_⟩
    cases ho:fo w with
    |true=>
     rw[if_pos rfl];refine⟨_,rfl,by rw[h7,r4];lia,hN _ _ _ ⟨⟨_,rfl⟩,gA,?_⟩⟩
     rw[JF,Jz ho];simp
    |false=>
     rw[if_neg (by simp)]
     refine hN _ _ _ ⟨⟨_,rfl⟩,gA,?_⟩;rw[JF,JH (by rw[ho];simp)];simp
  ·rintro ρ M2 acc ⟨⟨o0,rfl⟩,g2,rfl⟩ pn hpn;exact q pn _ (g1.trans (g2.trans (Ge.new hpn))) (aP (g1.trans g2) hpn) aa
noncomputable abbrev p2D(x:List Int×List Int):D:=.tup [rD x.1,rD x.2]
noncomputable def prs(P L R:Nat):List (List Int×List Int):=((rws P L).filter fo).flatMap λl=>((rws P R).filter fo).map λr=>(l,r)
noncomputable def prL(P R:Nat)(ls:List (List Int)):List (List Int×List Int):=ls.flatMap λl=>((rws P R).filter fo).map λr=>(l,r)
theorem ig{P R:Nat}:∀{ls:List (List Int)},(prL P R ls).length=ls.length*((rws P R).filter fo).length
 |[]=>by simp[prL]
 |l::ls=>by have ih:=ig (P:=P) (R:=R) (ls:=ls);unfold prL at ih⊢;rw[Ka,q7,ih,Jw,Kq];simp;lia
variable{R:Nat}
theorem gC(q:P<=3)(j:R<=6):((rws P R).filter fo).length<=729:=K0 (Jv _ _) (K0 (cQ q R j) (ie j))
theorem xY{k:Nat}(hk:2<=k)(B:P<=3)(F2:L<=6)(U:R<=6)(q:∀p M',Ge M M'->M p=Y->M' p=Z (.lst ((prs P L R).map p2D))->Q (.ref p) M'):phi tab k 3 [.int L,.int R,.int P] M Q:=by
 refine al ∅ rfl rfl (ρ:=[Z _,Z _,Z _,Y]) rfl ?_
 unfold d3 L2.Mi.K43.b3;nofun;refine qS ∅ B U λp0 M0 g0 n0 fv=>⟨_,ab fv,?_⟩
 have GF:=K0 (cQ B R U) (ie U);have GG:=K0 (cQ B L F2) (ie F2);refine ak (f:=rD) (ys:=rws P R) (I:=λl ρ M' acc=>(∃o0,ρ=[o0])/\Ge M0 M'/\acc=(l.filter fo).map rD) rfl ⟨⟨_,rfl⟩,Ge.refl,rfl⟩ (λ_ _ _ _ h=>ab (h.2.1 _ _ fv)) ?_ ?_
 ·rintro l w r ρ M1 acc e ⟨⟨o0,rfl⟩,g1,rfl⟩;refine⟨_,rfl,λN F=>?_⟩;have GA:=ag e;have GB:=cR R w (by rw[e];simp)
  have GC:=Jv fo l;ac_nf;refine lL ∅ ∅ λM2 g2=>⟨_,rfl,?_⟩
  cases ho:fo w with
  |true=>
   rw[if_pos rfl];refine⟨by rw[h7,r4];lia,F _ _ _ ⟨⟨_,rfl⟩,g1.trans g2,?_⟩⟩
   rw[JF,Jz ho];simp
  |false=>
   rw[if_neg (by simp)]
   refine F _ _ _ ⟨⟨_,rfl⟩,g1.trans g2,?_⟩;rw[JF,JH (by rw[ho];simp)];simp
 ·rintro ρ M1 acc ⟨⟨o0,rfl⟩,g1,rfl⟩ pr hpr;have gr:=g0.trans (g1.trans (Ge.new (o:=.lst (((rws P R).filter fo).map rD)) hpr));have er:=aa (M:=M1) (a:=pr) (o:=.lst (((rws P R).filter fo).map rD));generalize ah M1 pr _=M2 at gr er⊢;clear g0 n0 fv g1 hpr;nofun;refine qS ∅ B F2 λp3 M3 g3 n3 e3=>⟨_,ab e3,?_⟩
  have er:=g3 _ _ er;refine ak (f:=rD) (ys:=rws P L) (I:=λl ρ M' acc=>(∃o0 j,ρ=[o0,j,Z (.ref pr)])/\Ge M3 M'/\acc=(prL P R (l.filter fo)).map p2D) rfl ⟨⟨_,_,rfl⟩,Ge.refl,rfl⟩ (λ_ _ _ _ h=>ab (h.2.1 _ _ e3)) ?_ ?_
  ·rintro l w r ρ M4 acc e ⟨⟨o0,j,rfl⟩,G,rfl⟩;refine⟨_,rfl,λN F=>?_⟩;have GA:=ag e;have GB:=cR L w (by rw[e];simp)
   have GC:=Jv fo l;have GD:=gC B U;ac_nf;refine lL ∅ ∅ λM5 z=>⟨_,rfl,?_⟩
   cases ho:fo w with
   |true=>
    rw[if_pos rfl];have J:=(G.trans z) _ _ er;refine⟨_,ab J,?_⟩;refine ak (f:=rD) (ys:=(rws P R).filter fo) (I:=λl2 ρ M' acc=>(∃j,ρ=[Z (rD w),j,Z (.ref pr)])/\M'=M5/\acc=(prL P R (l.filter fo)++l2.map λr=>(w,r)).map p2D) rfl ⟨⟨_,rfl⟩,rfl,by simp⟩ (λ_ _ _ _ h=>by rw[h.2.1];exact ab J) ?_ ?_
    ·rintro l2 x r2 ρ M6 acc e2 ⟨⟨j,rfl⟩,rfl,rfl⟩;refine⟨_,rfl,λN2 GE=>?_⟩;have GH:=ag e2;have hm:(l.filter fo).length*((rws P R).filter fo).length<=729*729:=JK ∅ GD
     ac_nf;refine⟨by rw[r4];lia,by rw[h7,q7,ig,h7,r4];lia,GE _ _ _ ⟨⟨_,rfl⟩,rfl,by simp⟩⟩
    ·rintro ρ M6 acc ⟨⟨j,rfl⟩,rfl,rfl⟩;refine F _ _ _ ⟨⟨_,_,rfl⟩,G.trans z,?_⟩;rw[JF,Jz ho];simp[prL,JV]
   |false=>
    rw[if_neg (by simp)]
    refine F _ _ _ ⟨⟨_,_,rfl⟩,G.trans z,?_⟩;rw[JF,JH (by rw[ho];simp)];simp
  ·rintro ρ M4 acc ⟨⟨o0,j,rfl⟩,G,rfl⟩ pn O;have z:=gr.trans (g3.trans G);exact q pn _ (z.trans (Ge.new O)) (aP z O) aa
theorem vB{k:Nat}(hk:2<=k)(B:P<=3)(hL:L<=6)(hR:R<=6)(q:∀p M',Ge M M'->M p=Y->M' p=Z (.lst ((prs P L R).map p2D))->Q (.ref p) M'):phi tab k 28 [.int L,.int R,.int P] M Q:=by
 refine al ∅ rfl rfl (ρ:=[Z _,Z _,Z _,Y,Y]) rfl ?_
 unfold d28 L2.Mi.K43.b28;nofun;refine⟨by rw[r4];lia,λpf j=>?_⟩
 have g1:=Ge.new (o:=.lst []) j;have G:=aa (M:=M) (a:=pf) (o:=.lst []);generalize ah M pf (.lst [])=M1 at g1 G⊢;nofun;refine pC ∅ B hL λp3 M3 g3 n3 e3=>⟨_,ab e3,?_⟩
 have GB:=gC B hL;have J:=gC B hR;have O:p3≠pf:=λz=>by rw[z,G]at n3;cases n3
 refine ao (f:=rD) (ys:=(rws P L).filter fo) (I:=λl ρ M'=>(∃U,ρ=[Z (.int L),Z (.int R),Z (.int P),Z (.ref pf),U])/\Ge M M'/\M' p3=Z (.lst (((rws P L).filter fo).map rD))/\M' pf=Z (.lst ((prL P R l).map p2D))) rfl ⟨⟨_,rfl⟩,g1.trans g3,e3,g3 _ _ G⟩ (λ_ _ _ h=>ab h.2.2.1) ?_ ?_
 ·rintro l w r ρ M4 e ⟨⟨U,rfl⟩,F2,e4,f4⟩;refine⟨_,rfl,λF hF=>?_⟩;have GC:=ag e;nofun;refine⟨⟨_,f4⟩,?_⟩;refine pC ∅ B hR λp5 M5 fv n5 e5=>⟨_,ab e5,?_⟩
  refine ak (f:=rD) (ys:=(rws P R).filter fo) (I:=λl2 ρ M' acc=>(∃o0,ρ=[o0,Z (rD w)])/\M'=M5/\acc=(l2.map λr=>(w,r)).map p2D) rfl ⟨⟨_,rfl⟩,rfl,rfl⟩ (λ_ _ _ _ h=>by rw[h.2.1];exact ab e5) ?_ ?_
  ·rintro l2 x r2 ρ M6 acc e2 ⟨⟨o1,rfl⟩,rfl,rfl⟩;refine⟨_,rfl,λN2 GA=>?_⟩;have GD:=ag e2;ac_nf;refine⟨by rw[r4];lia,by rw[h7,h7,r4];lia,GA _ _ _ ⟨⟨_,rfl⟩,rfl,by simp⟩⟩
  ·rintro ρ M6 acc ⟨⟨o1,rfl⟩,rfl,rfl⟩ pe hpe;have gp:=Ge.new (o:=.lst ((((rws P R).filter fo).map λr=>(w,r)).map p2D)) hpe;have hm:l.length*((rws P R).filter fo).length<=729*729:=JK ∅ J
   refine⟨pf,pe,_,_,rfl,rfl,gp _ _ (fv _ _ f4),aa,by rw[h7,h7,h7,ig,r4];lia,?_⟩
   refine hF _ _ ⟨⟨_,rfl⟩,(F2.trans (fv.trans gp)).upd j,by rw[au O];exact gp _ _ (fv _ _ e4),?_⟩
   rw[aa];simp[prL,JV]
 ·rintro ρ M4 ⟨⟨U,rfl⟩,F2,e4,f4⟩;dsimp only;nofun;exact q pf M4 F2 j f4
noncomputable def tst(P R:Nat)(tabs:List (List Int))(t:Tm):List (List Int):=tabs.set t.1.1.toNat (((tabs[t.1.1.toNat]?).getD []).set (t.1.2.1*R+t.1.2.2).toNat (t.2%P))
noncomputable def tbs(P n R many:Nat)(ts:List Tm):List (List Int):=ts.foldl (tst P R) (IY many (IY n 0))
variable{many:Nat}{ts:List Tm}
theorem j3{n:Nat}{t:Tm}:tbs P n R many (ts++[t])=tst P R (tbs P n R many ts) t:=by unfold tbs;rw[Nj];rfl
structure TI'(L R many:Nat)(t:Tm):Prop where
 k:0<=t.1.1/\t.1.1<many
 i:0<=t.1.2.1/\t.1.2.1<L
 j:0<=t.1.2.2/\t.1.2.2<R
variable{tabs:List (List Int)}
theorem Co(F:0<P){t:Tm}(z:TI' L R many t)(B:tabs.length=many)(j:∀v∈tabs,Vr P (L*R) v):(tst P R tabs t).length=many/\∀v∈tst P R tabs t,Vr P (L*R) v:=by
 refine⟨by unfold tst;rw[N5];exact B,λv hm=>?_⟩
 unfold tst at hm
 rcases Po hm with h|h
 ·exact j v h
 ·have q:t.1.1.toNat<tabs.length:=by have:=z.k;lia
  rw[z4 q,MQ]at h;have h0:=j _ (KO q);rw[h];refine⟨by rw[N5];exact h0.len,λx hx=>?_⟩
  rcases Po hx with hx|hx
  ·exact h0.inn x hx
  ·rw[hx];exact⟨KL _ ∅,Kb _ ∅⟩
theorem cq(q:0<P)(j:∀t∈ts,TI' L R many t):(tbs P (L*R) R many ts).length=many/\∀v∈tbs P (L*R) R many ts,Vr P (L*R) v:=by
 have:∀(ts:List Tm) (tabs:List (List Int)),(∀t∈ts,TI' L R many t)->tabs.length=many->(∀v∈tabs,Vr P (L*R) v)->(ts.foldl (tst P R) tabs).length=many/\∀v∈ts.foldl (tst P R) tabs,Vr P (L*R) v:=by
  intro ts
  induction ts with
  |nil=>intro tabs _ h1 h2;exact⟨h1,h2⟩
  |cons t ts ih=>intro tabs j h1 h2;obtain⟨a,b⟩:=Co q (j t Je) h1 h2;exact ih _ (λx hx=>j x (J3 _ hx)) a b
 exact this ts _ j (by simp) λv z=>by rw[K6 z];exact i6 q
variable{i:Nat}
theorem yO(h:i<L):ixN L (i:Nat)=Z i:=by unfold ixN;rw[if_pos ∅,if_pos ∅,Jd]
theorem Cp{l:List Ub}(h:l.Nodup){j:Nat}(hi:i<l.length)(q:j<l.length)(e:l[i]=l[j]):i=j:=by
 have z:=Pk.mp (JI.mp h)
 rcases Nat.lt_trichotomy i j with k|k|k
 ·exact absurd e (z i j hi q k)
 ·exact k
 ·exact absurd e.symm (z j i q hi k)
structure TS(qs:List Ub)(tabs:List (List Int))(M:Mem):Prop where
 len:qs.length=tabs.length
 nd:qs.Nodup
 at':∀(k:Nat) q v,qs[k]?=Z q->tabs[k]?=Z v->M q=Z (.lst (v.map .int))
variable{qs:List Ub}
theorem TS.put(h:TS qs tabs M){k:Nat}{q:Ub}{w:List Int}(G:qs[k]?=Z q)(J:tabs[k]?=Z v):TS qs (tabs.set k w) (ah M q (.lst (w.map .int))) where
 len:=by rw[N5];exact h.len
 nd:=h.nd
 at':=λk' q' v' j B=>by
  by_cases e:k'=k
  ·subst e;rw[G]at j;cases j;rw[L6 ((J0.mp J).1)]at B
   cases B
   exact aa
  ·rw[LI (fun z=>e z.symm)]at B;have F:q'≠q:=fun z=>by
    subst z;obtain⟨h1,L⟩:=J0.mp G;obtain⟨h2,O⟩:=J0.mp j;exact e (Cp h.nd h2 h1 (O.trans L.symm))
   rw[au F];exact h.at' k' q' v' j B
variable{N:NC}
theorem qT(L:tabs.length<=1000)(G:∀v∈tabs,v.length<=1000)(h:TS qs tabs M){chk:Mem->Prop}(J:chk M){o0:Option D}(q:∀ρ,N ρ M (tabs.map rD)):
 bf (be 0) (bJ (wAr gc (aN (aY 0) bF))) chk N (qs.map .ref) [o0] M []:=by
 refine ak (f:=D.ref) (ys:=qs) (I:=λl ρ M' acc=>(∃o0,ρ=[o0])/\M'=M/\acc=(tabs.take l.length).map rD) rfl ⟨⟨_,rfl⟩,rfl,rfl⟩ (λ_ _ _ _ h=>by rw[h.2.1];exact J) ?_ ?_
 ·rintro l x r ρ M1 acc e ⟨⟨o0,rfl⟩,rfl,rfl⟩;refine⟨_,rfl,λN' z=>?_⟩;have B:=ag e;have hx:qs[l.length]?=Z x:=by rw[e];simp
  have j:l.length<tabs.length:=by rw[<-h.len];exact B
  have F:tabs[l.length]?=Z tabs[l.length]:=z4 j;have ex:=h.at' _ _ _ hx F;have O:=h.len;ac_nf;refine⟨_,_,rfl,ab ex,by rw[h7,JG,r4];lia,z _ _ _ ⟨⟨_,rfl⟩,rfl,?_⟩⟩
  rw[q7,JC,Ln,F,Jc];rfl
 ·rintro ρ M1 acc ⟨⟨o0,rfl⟩,rfl,rfl⟩;rw[KI (by rw[h.len];exact J6 _)]
  exact q _
theorem Az{i j:Int}(hi:0<=i/\i<L)(q:0<=j/\j<R):0<=i*R+j/\i*R+j<((L*R:Nat):Int):=by
 have h1:=Int.mul_nonneg hi.1 (show(0:Int)<=R by lia)
 have h2:=Int.mul_le_mul_of_nonneg_right (show i<=L-1 by lia) (show(0:Int)<=R by lia)
 rw[Int.sub_mul]at h2
 push_cast
 lia
theorem Cq{t:Tm}(ht:TI' L R many t)(h1:tabs.length=many)(h2:∀v∈tabs,Vr P (L*R) v)(U:TS qs tabs M):
 ∃(q:Ub) (v:List Int) (z:Nat),atI (qs.map D.ref) t.1.1=Z (.ref q)/\q∈qs/\M q=Z (.lst (v.map .int))/\ixN (v.map D.int).length (t.1.2.1*R+t.1.2.2)=Z z/\TS qs (tst P R tabs t) (ah M q (.lst ((v.map D.int).set z (.int (t.2%P))))):=by
 obtain⟨F2,fv,GA⟩:=ht;have hlen:=U.len;obtain⟨k,F⟩:=JS F2.1;have G:k<qs.length:=∅
 have J:k<tabs.length:=∅
 have j:=z4 G;have B:=z4 J;have ea:=U.at' k _ _ j B;have GB:=(h2 _ (KO J)).len;have O:=Az fv GA;obtain⟨z,hz⟩:=JS O.1;have GC:z<(tabs[k]).length:=by rw[GB];lia
 refine⟨qs[k],tabs[k],z,by rw[F];exact bx (by rw[Jj,j];rfl),KO G,ea,?_,?_⟩
 ·rw[hz];exact yO (by rw[h7];exact GC)
 ·have:=U.put (w:=(tabs[k]).set z (t.2%P)) j B;unfold tst;rw[F,hz,Jd,Jd,B,MQ,<-show((tabs[k]).set z (t.2%P)).map D.int=_ from List.map_set];exact this
theorem lM{k:Nat}(F2:1<=k)(hP:0<P/\P<=3)(hL:L<=6)(hR:R<=6)(hm:many<=10)(ht:∀t∈ts,TI' L R many t){p:Ub}(hp:M p=Z (.lst (ts.map tmD)))(q:∀pt M',Ge M M'->M pt=Y->M' pt=Z (.lst ((tbs P (L*R) R many ts).map rD))->Q (.ref pt) M'):phi tab k 5 [.tup [.int L,.int R,.int many,.ref p],.int P] M Q:=by
 have hn:L*R<=6*6:=JK hL hR;refine al ∅ rfl rfl (ρ:=[Z _,Z _,Y,Y,Y,Y,Y,Y,Y,Y,Y]) rfl ?_
 unfold d5 L2.Mi.K43.b5;nofun;nofun;refine⟨∅,∅,?_⟩
 rw[Jd];refine ak (f:=λi=>D.int (i:Nat)) (ys:=J2 many) (I:=λl ρ M' acc=>(∃o0,ρ=[o0,Z (.int L),Z (.int R)])/\Ge M M'/\∃qs:List Ub,acc=qs.map .ref/\TS qs (IY l.length (IY (L*R) 0)) M'/\∀q∈qs,M q=Y) av ⟨⟨_,rfl⟩,Ge.refl,[],rfl,⟨rfl,by simp,λk q v h=>by simp at h⟩,by simp⟩ (λ_ _ _ _ _=>trivial) ?_ ?_
 ·rintro l x r ρ fv acc e ⟨⟨o0,rfl⟩,g1,qs,rfl,j,hq⟩;refine⟨_,rfl,λN hN=>?_⟩;have GE:=ag e;rw[Jb]at GE;have GA:=j.len;rw[Ly]at GA;ac_nf;refine⟨by rw[r4];lia,λp0 GF=>⟨cL ∅,?_⟩⟩
  rw[<-Mr];refine⟨_,aa,∅,∅,by rw[r4];simp;lia,λp1 GB=>?_⟩
  rw[Jd,fQ];have GC:=Ge.new (o:=.lst [.int 0]) GF;have g2:=GC.trans (Ge.new (o:=.lst ((IY (L*R) (0:Int)).map D.int)) GB);have e2:=aa (M:=ah fv p0 (.lst [.int 0])) (a:=p1) (o:=.lst ((IY (L*R) (0:Int)).map D.int));generalize ah (ah fv p0 (.lst [.int 0])) p1 _=M2 at g2 e2⊢;have n1:=aP GC GB;refine⟨by rw[h7,r4];lia,hN _ _ _ ⟨⟨_,rfl⟩,g1.trans g2,qs++[p1],by simp,⟨by simp[GA],?_,?_⟩,?_⟩⟩
  ·rw[Mx];refine⟨j.nd,by simp,λa G b hb=>?_⟩
   rw[JE.mp hb];intro z;obtain⟨k,F2⟩:=LN G;have J:k<l.length:=by have:=(J0.mp F2).1;lia
   have:=j.at' k a (IY (L*R) 0) F2 (by rw[JR,if_pos J])
   rw[z,n1]at this;cases this
  ·intro k q v h1 h2;rw[JR]at h2
   split at h2
   ·cases h2
    by_cases hkl:k<qs.length
    ·rw[J1 hkl]at h1;exact g2 _ _ (j.at' k q _ h1 (by rw[JR,if_pos ∅]))
    ·rw[IX ∅]at h1
     have:k-qs.length=0:=by have:=(J0.mp h1).1;simp at this;lia
     rw[this]at h1;cases h1;exact e2
   ·cases h2
  ·intro a G
   rcases Ja.mp G with G|G
   ·exact hq a G
   ·rw[JE.mp G];exact aP g1 n1
 ·rintro ρ fv acc ⟨⟨o0,rfl⟩,g1,qs,rfl,j,hq⟩ pt hpt;rw[Jb]at j;have GG:pt∉qs:=fun h=>by
   obtain⟨k,F2⟩:=LN h;have J:k<(IY many (IY (L*R) (0:Int))).length:=by rw[<-j.len];exact(J0.mp F2).1
   have:=j.at' k pt _ F2 (z4 J);rw[hpt]at this;cases this
  have gt:=Ge.new (o:=.lst (qs.map D.ref)) hpt;have et:=aa (M:=fv) (a:=pt) (o:=.lst (qs.map D.ref));have j:TS qs (tbs P (L*R) R many []) (ah fv pt (.lst (qs.map D.ref))):=⟨j.len,j.nd,λk q v h1 h2=>gt _ _ (j.at' k q v h1 h2)⟩;have g2:=g1.trans gt;have GL:=aP g1 hpt;generalize ah fv pt _=M2 at g2 et j⊢;nofun;refine⟨_,ab (g2 _ _ hp),?_⟩;refine ao (f:=tmD) (ys:=ts) (I:=λl ρ M'=>(∃o7 o8 o9 O,ρ=[Z _,Z (.int P),Z (.int L),Z (.int R),Z (.int many),Z (.ref p),Z (.ref pt),o7,o8,o9,O])/\Ge M M'/\M' pt=Z (.lst (qs.map .ref))/\TS qs (tbs P (L*R) R many l) M') rfl ⟨⟨_,_,_,_,rfl⟩,g2,et,j⟩ (λ_ _ _ h=>ab (h.2.1 _ _ hp)) ?_ ?_
  ·rintro l t r ρ M3 e ⟨⟨o7,o8,o9,O,rfl⟩,g3,B,U⟩;refine⟨_,rfl,λF hF=>?_⟩;obtain⟨GH,GI,GJ⟩:=ht t (by rw[e];simp)
   nofun;obtain⟨h1,h2⟩:=cq hP.1 (ts:=l) (λt GK=>ht t (by rw[e];simp[GK]))
   obtain⟨a,v,z,c1,c2,c3,c4,c5⟩:=Cq (P:=P) ⟨GH,GI,GJ⟩ h1 h2 U;refine⟨∅,aK B c1 ⟨cL ∅,bC c3 c4 (hF _ _ ⟨⟨_,_,_,_,rfl⟩,g3.upd (hq a c2),?_,by rw[j3];exact c5⟩)⟩⟩
   rw[au λz=>GG (by rw[z];exact c2)];exact B
  ·rintro ρ M3 ⟨⟨o7,o8,o9,O,rfl⟩,g3,B,U⟩;dsimp only;nofun;have hb:=cq hP.1 ht;refine⟨_,ab B,qT ∅ (λv hv=>by rw[(hb.2 v hv).len];lia) U (ab B) λρ pn GD=>q pn _ (g3.trans (Ge.new GD)) (aP g3 GD) aa⟩
theorem t5{k:Nat}(F2:1<=k)(hP:0<P/\P<=3)(hL:L<=6)(hR:R<=6)(hm:many<=10)(ht:∀t∈ts,TI' L R many t){p:Ub}(hp:M p=Z (.lst (ts.map tmD)))(q:∀pt M',Ge M M'->M pt=Y->M' pt=Z (.lst ((tbs P (L*R) R many ts).map rD))->Q (.ref pt) M'):phi tab k 30 [.tup [.int L,.int R,.int many,.ref p],.int P] M Q:=by
 have hn:L*R<=6*6:=JK hL hR;refine al ∅ rfl rfl (ρ:=[Z _,Z _,Y,Y,Y,Y,Y]) rfl ?_
 unfold d30 L2.Mi.K43.b30;nofun;refine⟨_,rfl,_,rfl,∅,∅,?_⟩
 rw[Jd];refine ak (f:=λi=>D.int (i:Nat)) (ys:=J2 many) (I:=λl ρ M' acc=>(∃o0,ρ=[o0,Z (.tup [.int L,.int R,.int many,.ref p])])/\Ge M M'/\∃qs:List Ub,acc=qs.map .ref/\TS qs (IY l.length (IY (L*R) 0)) M'/\∀q∈qs,M q=Y) av ⟨⟨_,rfl⟩,Ge.refl,[],rfl,⟨rfl,by simp,λk q v h=>by simp at h⟩,by simp⟩ (λ_ _ _ _ _=>trivial) ?_ ?_
 ·rintro l x r ρ fv acc e ⟨⟨o0,rfl⟩,g1,qs,rfl,j,hq⟩;refine⟨_,rfl,λN hN=>?_⟩;have GE:=ag e;rw[Jb]at GE;have GA:=j.len;rw[Ly]at GA;ac_nf;refine⟨by rw[r4];lia,λp0 GF=>⟨_,rfl,_,rfl,?_⟩⟩
  ac_nf;refine⟨cL ∅,?_⟩
  rw[<-Mr];refine⟨_,aa,∅,∅,by rw[r4];simp;lia,λp1 GB=>?_⟩
  rw[Jd,fQ];have GC:=Ge.new (o:=.lst [.int 0]) GF;have g2:=GC.trans (Ge.new (o:=.lst ((IY (L*R) (0:Int)).map D.int)) GB);have e2:=aa (M:=ah fv p0 (.lst [.int 0])) (a:=p1) (o:=.lst ((IY (L*R) (0:Int)).map D.int));generalize ah (ah fv p0 (.lst [.int 0])) p1 _=M2 at g2 e2⊢;have n1:=aP GC GB;refine⟨by rw[h7,r4];lia,hN _ _ _ ⟨⟨_,rfl⟩,g1.trans g2,qs++[p1],by simp,⟨by simp[GA],?_,?_⟩,?_⟩⟩
  ·rw[Mx];refine⟨j.nd,by simp,λa G b hb=>?_⟩
   rw[JE.mp hb];intro z;obtain⟨k,F2⟩:=LN G;have J:k<l.length:=by have:=(J0.mp F2).1;lia
   have:=j.at' k a (IY (L*R) 0) F2 (by rw[JR,if_pos J])
   rw[z,n1]at this;cases this
  ·intro k q v h1 h2;rw[JR]at h2
   split at h2
   ·cases h2
    by_cases hkl:k<qs.length
    ·rw[J1 hkl]at h1;exact g2 _ _ (j.at' k q _ h1 (by rw[JR,if_pos ∅]))
    ·rw[IX ∅]at h1
     have:k-qs.length=0:=by have:=(J0.mp h1).1;simp at this;lia
     rw[this]at h1;cases h1;exact e2
   ·cases h2
  ·intro a G
   rcases Ja.mp G with G|G
   ·exact hq a G
   ·rw[JE.mp G];exact aP g1 n1
 ·rintro ρ fv acc ⟨⟨o0,rfl⟩,g1,qs,rfl,j,hq⟩ pt hpt;rw[Jb]at j;have GG:pt∉qs:=fun h=>by
   obtain⟨k,F2⟩:=LN h;have J:k<(IY many (IY (L*R) (0:Int))).length:=by rw[<-j.len];exact(J0.mp F2).1
   have:=j.at' k pt _ F2 (z4 J);rw[hpt]at this;cases this
  have gt:=Ge.new (o:=.lst (qs.map D.ref)) hpt;have et:=aa (M:=fv) (a:=pt) (o:=.lst (qs.map D.ref));have j:TS qs (tbs P (L*R) R many []) (ah fv pt (.lst (qs.map D.ref))):=⟨j.len,j.nd,λk q v h1 h2=>gt _ _ (j.at' k q v h1 h2)⟩;have g2:=g1.trans gt;have GL:=aP g1 hpt;generalize ah fv pt _=M2 at g2 et j⊢;nofun;refine⟨_,rfl,_,ab (g2 _ _ hp),?_⟩;refine ao (f:=tmD) (ys:=ts) (I:=λl ρ M'=>(∃o7 o8 o9 O,ρ=[Z (.tup [.int L,.int R,.int many,.ref p]),Z (.int P),Z (.ref pt),o7,o8,o9,O])/\Ge M M'/\M' pt=Z (.lst (qs.map .ref))/\TS qs (tbs P (L*R) R many l) M') rfl ⟨⟨_,_,_,_,rfl⟩,g2,et,j⟩ (λ_ _ _ h=>ab (h.2.1 _ _ hp)) ?_ ?_
  ·rintro l t r ρ M3 e ⟨⟨o7,o8,o9,O,rfl⟩,g3,B,U⟩;refine⟨_,rfl,λF hF=>?_⟩;obtain⟨GH,GI,GJ⟩:=ht t (by rw[e];simp)
   nofun;obtain⟨h1,h2⟩:=cq hP.1 (ts:=l) (λt GK=>ht t (by rw[e];simp[GK]))
   obtain⟨a,v,z,c1,c2,c3,c4,c5⟩:=Cq (P:=P) ⟨GH,GI,GJ⟩ h1 h2 U;refine⟨∅,aK B c1 ⟨_,rfl,?_⟩⟩
   ac_nf;refine⟨cL ∅,bC c3 c4 (hF _ _ ⟨⟨_,_,_,_,rfl⟩,g3.upd (hq a c2),?_,by rw[j3];exact c5⟩)⟩
   rw[au λz=>GG (by rw[z];exact c2)];exact B
  ·rintro ρ M3 ⟨⟨o7,o8,o9,O,rfl⟩,g3,B,U⟩;dsimp only;nofun;have hb:=cq hP.1 ht;refine⟨_,ab B,qT ∅ (λv hv=>by rw[(hb.2 v hv).len];lia) U (ab B) λρ pn GD=>q pn _ (g3.trans (Ge.new GD)) (aP g3 GD) aa⟩
theorem lN(a b:List Int):MZ fH (a.map .int) (b.map .int)=(a.zip b).map λxy=>.tup [.int xy.1,.int xy.2]:=by rw[List.zipWith_map,Rb,SA];rfl
variable{u:List Int}
theorem vC{p t:Int}:cb p t u v=(u.zip v).map λxy=>(xy.1+t*xy.2)%p:=by unfold cb;rw[Rb,SA]
theorem pD{P:Nat}{e:Nat×List Int}:∀{bs:List (Nat×List Int)} {r:List Int},wo P (bs++[e]) r=cb P (-(gf (wo P bs r) e.1)) (wo P bs r) e.2
 |[],r=>rfl
 |b::bs,r=>pD (bs:=bs)
theorem EK{n:Nat}(z:0<P)(j:Vr P n u)(q:Vr P n v):cb P 0 u v=u:=by
 refine(dA ∅ j.len q.len).ext j λx hx=>?_
 have:=cY (p:=P) (t:=0) j.len q.len hx;rw[<-Py]at this
 rwa[show -(gf u x+0*gf v x-gf (cb P 0 u v) x)=gf (cb P 0 u v) x-gf u x by lia]at this
noncomputable abbrev eD(e:Nat×List Int):D:=.tup [.int e.1,rD e.2]
theorem Cr(L:0<P){c:Int}(O:u.length<=1000){chk:Mem->Prop}(F:chk M)(G:∀x∈v,0<=x/\x<3)(q:∀ρ,N ρ M ((cb P (-c) u v).map .int)):
 bf (nF (bI (be 0) (bI (be 1) fG))) (bJ (wOp gb (wOp jU (aY 0) (wOp eN (aY 2) (aY 1))) (aY 3))) chk N (MZ fH (u.map .int) (v.map .int)) [Y,Y,Z (.int c),Z (.int P)] M []:=by
 refine ak (I:=λl' ρ M' acc=>(∃z B,ρ=[z,B,Z (.int c),Z (.int P)])/\M'=M/\acc=(l'.map λxy=>(xy.1 + -c*xy.2)%P).map .int) (ys:=u.zip v) (f:=λxy=>.tup [.int xy.1,.int xy.2]) (lN _ _) ⟨⟨_,_,rfl⟩,rfl,rfl⟩ (λ_ _ _ _ h=>by rw[h.2.1];exact F) ?_ ?_
 ·rintro l' xy r' ρ M5 acc e' ⟨⟨z,B,rfl⟩,rfl,rfl⟩;refine⟨_,rfl,fun N J=>?_⟩;ac_nf;have j:=ag e';rw[T3]at j;have hs:xy.2∈v:=by
   have:xy∈u.zip v:=by rw[e'];simp
   exact(NF this).2
  have hs:=G _ hs;refine⟨eP ∅,∅,by simp[r4];lia,J _ _ _ ⟨⟨_,_,rfl⟩,rfl,?_⟩⟩
  rw[Jc,Jc];simp only[Jr,Kx];rw[show xy.1 + -c*xy.2=xy.1-c*xy.2 by rw[Int.neg_mul];lia]
 ·rintro ρ M5 acc ⟨_,rfl,rfl⟩;have:=q ρ
  rwa[vC]at this
theorem Ct(L:0<P){c:Int}(O:u.length<=1000){chk:Mem->Prop}(F:chk M)(G:∀x∈v,0<=x/\x<3)(q:∀ρ,N ρ M ((cb P c u v).map .int)):
 bf (nF (bI (be 0) (bI (be 1) fG))) (bJ (wOp gb (wOp dS (aY 0) (wOp eN (aY 2) (aY 1))) (aY 3))) chk N (MZ fH (u.map .int) (v.map .int)) [Y,Y,Z (.int c),Z (.int P)] M []:=by
 refine ak (I:=λl' ρ M' acc=>(∃z B,ρ=[z,B,Z (.int c),Z (.int P)])/\M'=M/\acc=(l'.map λxy=>(xy.1+c*xy.2)%P).map .int) (ys:=u.zip v) (f:=λxy=>.tup [.int xy.1,.int xy.2]) (lN _ _) ⟨⟨_,_,rfl⟩,rfl,rfl⟩ (λ_ _ _ _ h=>by rw[h.2.1];exact F) ?_ ?_
 ·rintro l' xy r' ρ M5 acc e' ⟨⟨z,B,rfl⟩,rfl,rfl⟩;refine⟨_,rfl,fun N J=>?_⟩;ac_nf;have j:=ag e';rw[T3]at j;have hs:xy.2∈v:=by
   have:xy∈u.zip v:=by rw[e'];simp
   exact(NF this).2
  have hs:=G _ hs;exact⟨eP ∅,∅,by simp[r4];lia,J _ _ _ ⟨⟨_,_,rfl⟩,rfl,by simp⟩⟩
 ·rintro ρ M5 acc ⟨_,rfl,rfl⟩;have:=q ρ
  rwa[vC]at this
variable{base:List (Nat×List Int)}
theorem fU{k:Nat}(hk:1<=k){n:Nat}(U:0<P/\P<=3)(hn:n<=100)(F2:∀e∈base,Vr P n e.2)(hp:∀e∈base,e.1<n)(hv:Vr P n v)(ea:M a=Z (.lst (base.map eD)))(q:∀M',Ge M M'->Q (rD (wo P base v)) M'):phi tab k 6 [rD v,.ref a,.int P] M Q:=by
 refine al ∅ rfl rfl (ρ:=[Z _,Z _,Z _,Y,Y,Y]) rfl ?_
 unfold d6 L2.Mi.K43.b6;nofun;refine⟨_,ab ea,?_⟩;refine ao (f:=eD) (ys:=base) (I:=λl ρ M'=>(∃B G J,ρ=[Z (rD (wo P l v)),Z (.ref a),Z (.int P),B,G,J])/\Ge M M') rfl ⟨⟨_,_,_,rfl⟩,Ge.refl⟩ (λ_ _ _ h=>ab (h.2 _ _ ea)) ?_ ?_
 ·rintro l e r ρ M1 es ⟨⟨B,G,J,rfl⟩,g1⟩;refine⟨_,rfl,λF fv=>?_⟩;have z:Vr P n (wo P l v):=dB U.1 (λx hx=>F2 x (by rw[es];simp[hx])) hv
  have he:=F2 e (by rw[es];simp)
  have j:=hp e (by rw[es];simp)
  have GA:=z.at j;nofun;refine⟨_,bx (by rw[Jj,aO (by rw[z.len];exact j)];rfl),?_⟩
  nofun
  by_cases L:gf (wo P l v) e.1=0
  ·rw[L];simp;refine fv _ _ ⟨?_,g1⟩;rw[pD,L,Int.neg_zero,EK U.1 z he];exact⟨_,_,_,rfl⟩
  ·rw[if_pos (by simpa using L)]
   nofun;refine Cr ∅ (by have:=z.len;lia) trivial (c:=gf (wo P l v) e.1) (λx hx=>by have:=he.inn x hx;lia) λρ p O=>⟨_,_,rfl,ab aa,fv _ _ ⟨?_,g1.trans (Ge.new O)⟩⟩
   rw[pD];exact⟨_,_,_,rfl⟩
 ·rintro ρ M1 ⟨⟨B,G,J,rfl⟩,g1⟩;dsimp only;nofun;exact q _ g1
theorem xZ(ns:List Int):cD (ns.map .int)=ns.zipIdx.map λp=>.tup [.int (p.2:Nat),.int p.1]:=by
 unfold cD;apply Lo;intro i;rw[Mw,Jj,Jj,Lh]
 cases ns[i]?<;>simp
theorem j4:∀ns:List Int,aF sd (ns.map .int)=Z (ns.map λx=>x != 0)
 |[]=>rfl
 |x::r=>by rw[Jr,aF,j4 r];rfl
theorem pE{n:Nat}(j:Vr P n v):(v.map λx=>x != 0).any id=Ua↔v=IY n 0:=by
 constructor
 ·intro h;rw[List.any_eq_false]at h;rw[Qy];refine⟨j.len,λx hx=>?_⟩;have:=h (x != 0) (JA hx);simpa using this
 ·rintro rfl;simp
theorem Cu{n pl:Nat}(L:0<P){w:List Int}(O:w.length<=100)(j:pl<n)(hw:Vr P n w)(B:P<=3){chk:Mem->Prop}(F:chk M)(q:∀ρ,N ρ M ((w.map λx=>(gf w pl*x)%P).map .int)):
 bf (be 0) (bJ (wOp gb (wOp eN (wOp wIx (aY 1) (aY 2)) (aY 0)) (aY 3))) chk N (w.map .int) [Y,Z (rD w),Z (.int pl),Z (.int P)] M []:=by
 refine ak (f:=D.int) (ys:=w) (I:=λl ρ M' acc=>(∃o0,ρ=[o0,Z (rD w),Z (.int pl),Z (.int P)])/\M'=M/\acc=(l.map λx=>(gf w pl*x)%P).map .int) rfl ⟨⟨_,rfl⟩,rfl,rfl⟩ (λ_ _ _ _ h=>by rw[h.2.1];exact F) ?_ ?_
 ·rintro l x r ρ M1 acc e ⟨⟨o0,rfl⟩,rfl,rfl⟩;refine⟨_,rfl,λN' z=>?_⟩;have G:=ag e;have J:=hw.at j;ac_nf;refine⟨_,bx (by rw[Jj,aO (by rw[hw.len];exact j)];rfl),?_⟩
  ac_nf;refine⟨cL ∅,∅,by simp[r4];lia,z _ _ _ ⟨⟨_,rfl⟩,rfl,by simp⟩⟩
 ·rintro ρ M1 acc ⟨⟨o0,rfl⟩,rfl,rfl⟩;exact q _
theorem vD(h:rD u=rD v):u=v:=by have h:=D.tup.inj h;exact(List.map_inj_right λa b e=>D.int.inj e).mp h
noncomputable def kv(u:List Int):D×D:=(rD u,.bl N2)
theorem fj:∀{v:List Int},v≠[]->bK (rD v)=N2
 |[],h=>absurd rfl h
 |[_],_=>rfl
 |[_,_],_=>rfl
 |[_,_,_],_=>rfl
 |a::b::c::d::r,_=>by
  have:∀r:List Int,(r.map D.int).all dq=N2:=λr=>by rw[List.all_map,Mh];intro x _;rfl
  show((D.int a::D.int b::D.int c::D.int d::r.map D.int).all dq&&N2)=N2;rw[Bool.and_true];exact this (a::b::c::d::r)
theorem jO{ks:List (List Int)}:(dget (ks.map kv) (rD v)).isSome=decide (v∈ks):=by
 unfold dget;rw[NW];rw[Bool.eq_iff_iff,List.find?_isSome,decide_eq_true_iff];constructor
 ·rintro⟨p,j,e⟩;obtain⟨u,q,rfl⟩:=J8.mp j;rw[<-vD (of_decide_eq_true e)];exact q
 ·intro h;exact⟨kv v,JA h,decide_eq_true rfl⟩
theorem Cv{ks:List (List Int)}(h:v∉ks):bX (ks.map kv) (rD v) (.bl N2)=(ks++[v]).map kv:=by unfold bX;rw[if_neg,Jc];rfl;intro z;obtain⟨p,j,e⟩:=MP.mp z;obtain⟨u,q,rfl⟩:=J8.mp j;exact h (by rw[<-vD (of_decide_eq_true e)];exact q)
theorem y4{t:List Int}{l r:List (List Int)}{l2 j:List Nat}{s:Nat}(h:(nx P t (l++u::r)).Nodup)(e:J2 P=l2++s::j):cb P (s:Nat) u t∉nx P t l++nxR P t u l2:=by
 have q:nx P t (l++u::r)=(nx P t l++nxR P t u l2)++cb P (s:Nat) u t::(nxR P t u j++nx P t r):=by simp[nx,JV,nxR,e]
 rw[q,Mx]at h;exactλz=>h.2.2 _ z _ Je rfl
variable{keys:List (List Int)}{d:Ub}
theorem vE{k:Nat}(J:1<=k){r:Nat}(B:P=2∨P=3)(F:keys.length=P^r)(ed:M d=Z (.dct N2 (keys.map kv)))(q:Q (.int r) M):phi tab k 33 [.ref d,.int P] M Q:=by
 refine al ∅ rfl rfl (ρ:=[Z _,Z _,Y,Y]) rfl ?_
 unfold d33 L2.Mi.K43.b33;nofun;refine⟨_,_,rfl,.inl ed,?_⟩;nofun;refine⟨r+1,?_⟩;rw[h7,F];have go:∀(j h:Nat),h+j=r->aS (iF (wOp wGt (aY 2) (wC (D.int 1)))) (wSs (phi tab (k-1)) (MSs.cons (MS.par 2 3 (ME.bin BOp.fdiv (ME.var 2) (ME.var 1)) (ME.bin BOp.add (ME.var 3) (ME.int 1))) MSs.nil)) {nx:=wSs (phi tab (k-1)) (MSs.cons (MS.ret (ME.var 3)) MSs.nil) {nx:=λx M'=>Q D.non M',rt:=Q},rt:=Q} (j+1) [Z (D.ref d),Z (D.int ↑P),Z (D.int ((P^j:Nat):Int)),Z (D.int (h:Nat))] M:=by
  intro j
  induction j with
  |zero=>
   intro h e;unfold aS;ac_nf;rw[if_neg (by simp)]
   nofun;rw[show h=r by lia];exact q
  |succ j ih=>
   intro h e;have G:1<=P^j:=Nat.pow_pos ∅
   have z:P^(j+1)=P^j*P:=Qn _ _;unfold aS;ac_nf;rw[if_pos (by rw[z];rcases B with rfl|rfl<;>lia)]
   nofun;refine⟨∅,by have L:(3:Int)<2^256:=(by decide);lia,?_⟩
   rw[z,Mr,Int.mul_ediv_cancel _ ∅]
   exact ih (h+1) ∅
 exact go r 0 ∅
theorem lP{l:List Int}(h:eL l):Big l:=λx hx=>by have:=h x hx;lia
theorem AA(j:P<=3)(q:L<=6)(z:R<=6):(prs P L R).length<=729*729:=by show(prL P R ((rws P L).filter fo)).length<=_;rw[ig];exact JK (gC j q) (gC j z)
theorem y7{k:Nat}(hk:1<=k){n:Nat}(hn:n<=100)(F:Vr P n v)(J:v≠IY n 0)(q:∀(pl:Nat) M',pl<n->gf v pl≠0->(∀x,x<pl->gf v x=0)->Ge M M'->Q (.int pl) M'):phi tab k 8 [rD v] M Q:=by
 refine al ∅ rfl rfl (ρ:=[Z _]) rfl ?_
 unfold d8 L2.Mi.K43.b8;nofun;rw[xZ];refine ak (I:=λl ρ M' acc=>(∃L O,ρ=[L,O])/\M'=M/\acc=(l.filter λp=>p.1 != 0).map λx=>.int (x.2:Nat)) (ys:=v.zipIdx) (f:=λp=>.tup [.int (p.2:Nat),.int p.1]) rfl ⟨⟨_,_,rfl⟩,rfl,rfl⟩ (λ_ _ _ _ _=>trivial) ?_ ?_
 ·rintro l x r ρ M1 acc e ⟨⟨L,O,rfl⟩,rfl,rfl⟩;have G:=ag e;rw[Mk,F.len]at G;refine⟨_,rfl,λN U=>?_⟩;ac_nf;have fv:=Jv (λp:Int×Nat=>p.1 != 0) l
  split
  ·next hx=>exact⟨by rw[h7,r4];lia,U _ _ _ ⟨⟨_,_,rfl⟩,rfl,by rw[JF,Jc,Jz (p:=λp:Int×Nat=>p.1 != 0) (a:=x) hx];rfl⟩⟩
  ·next hx=>exact U _ _ _ ⟨⟨_,_,rfl⟩,rfl,by rw[JF,JH (p:=λp:Int×Nat=>p.1 != 0) (a:=x) hx];simp⟩
 ·rintro ρ M1 acc ⟨_,rfl,rfl⟩ p hp
  cases hf:v.zipIdx.filter (λp=>p.1 != 0)with
  |nil=>
   exfalso
   apply J;rw[Qy];refine⟨F.len,λx hx=>?_⟩;obtain⟨i,hi⟩:=LN hx;have hm:(x,i)∈v.zipIdx:=Na.mpr hi;have:=Oa.mp hf _ hm;simpa using this
  |cons x r=>
   have hm:x∈v.zipIdx.filter (λp=>p.1 != 0):=by rw[hf];exact Je
   obtain⟨hm,hx⟩:=KJ.mp hm;have hi:=Na.mp hm;have F2:x.2<v.length:=(J0.mp hi).1;have j:=aO F2;rw[hi]at j;have j:=JO.inj j;have hb:∀y,y<x.2->gf v y=0:=by
    intro y hy;obtain⟨l₁,l₂,e,h1,_⟩:=List.filter_eq_cons_iff.mp hf;have B:v.zipIdx[l₁.length]?=Z x:=by rw[e];simp
    rw[Lh]at B;obtain⟨z,J,B⟩:=Mb.mp B;have GA:x.2=l₁.length:=by rw[<-B];simp
    have ey:v.zipIdx[y]?=Z (gf v y,y):=by rw[Lh,aO ∅];simp
    rw[e,J1 ∅]at ey
    have:=h1 _ (Jh ey);simpa using this
   refine aK aa (d:=.int x.2) (bx (k:=0) rfl) (q _ _ (by rw[<-F.len];exact F2) (by rw[<-j];simpa using hx) hb (Ge.new hp))
def Fs(base:List (Nat×List Int)):Prop:=∀e∈base,∀x,x<e.1->gf e.2 x=0
variable{A:List (Nat->Int)}
theorem fV{k:Nat}(hk:2<=k){n:Nat}(hP:P=2∨P=3)(hn:n<=100){j:List (Nat×List Int)}(F2:Bs P n A j)(fv:Fs j)(GD:j.length<=100){ts:List (List Int)}(hl:ts.length<=100)(ht:∀t∈ts,Vr P n t)(ea:M a=Z (.lst (j.map eD)))(eb:M b=Z (.lst (ts.map rD)))(q:∀c (base:List (Nat×List Int)) M',Bs P n (chF P n A ts) base->Fs base->M c=Y->M' c=Z (.lst (base.map eD))->Ge M M'->Q (.ref c) M'):phi tab k 9 [.ref a,.ref b,.int P] M Q:=by
 have z:0<P:=∅
 refine al ∅ rfl rfl (ρ:=[Z _,Z _,Z _,Y,Y,Y,Y]) rfl ?_
 unfold d9 L2.Mi.K43.b9;nofun;refine⟨_,_,rfl,ab ea,λc hc=>?_⟩;have g1:=Ge.new (o:=.lst (j.map eD)) hc;have e1:=aa (M:=M) (a:=c) (o:=.lst (j.map eD));generalize ah M c (.lst (j.map eD))=M1 at g1 e1⊢;nofun;refine⟨_,ab (g1 _ _ eb),?_⟩;refine ao (f:=rD) (ys:=ts) (I:=λl ρ M'=>(∃o4 o5 o6,ρ=[Z (.ref a),Z (.ref b),Z (.int P),Z (.ref c),o4,o5,o6])/\Ge M M'/\∃base:List (Nat×List Int),M' c=Z (.lst (base.map eD))/\Bs P n (chF P n A l) base/\Fs base/\base.length<=j.length+l.length) rfl ⟨⟨_,_,_,rfl⟩,g1,j,e1,F2,fv,by simp⟩ (λ_ _ _ h=>ab (h.2.1 _ _ eb)) ?_ ?_
 ·rintro l t r ρ M2 es ⟨⟨o4,o5,o6,rfl⟩,g2,base,O,G,hf,GA⟩;refine⟨_,rfl,λF hF=>?_⟩;have B:=ht t (by rw[es];simp)
  have GE:=ag es;nofun;refine fU ∅ ⟨z,∅⟩ hn G.vr (λe he=>(G.pl e he).1) B O λM3 g3=>?_
  have hw:=dB z G.vr B;nofun;refine⟨_,_,_,rfl,rfl,j4 _,⟨_,rfl,?_⟩⟩
  cases hz:((wo P base t).map λx=>x != 0).any id with
  |false=>
   rw[if_neg (by simp)]
   have J:=(G.out z B).mp ((pE hw).mp hz);refine hF _ _ ⟨⟨_,_,_,rfl⟩,g2.trans g3,base,g3 _ _ O,?_,hf,by rw[q7];lia⟩
   rw[gy J];exact G
  |true=>
   rw[if_pos rfl];have U:wo P base t≠IY n 0:=λh=>by rw[(pE hw).mpr h]at hz;cases hz
   have J:¬Sp P n (chF P n A l) (gf t):=λh=>U ((G.out z B).mpr h);nofun;refine y7 ∅ hn hw U λpl M4 L GB GC g4=>?_
   have GF:=hw.at L;nofun;refine⟨⟨_,g4 _ _ (g3 _ _ O)⟩,Cu z (by have:=hw.len;lia) L hw ∅ trivial λρ pn hpn=>⟨_,_,rfl,ab aa,?_⟩⟩
   have g5:=g4.trans (Ge.new (o:=.lst (((wo P base t).map λx=>(gf (wo P base t) pl*x)%P).map .int)) hpn);refine⟨by rw[r4];lia,c,_,_,rfl,rfl,g5 _ _ (g3 _ _ O),by rw[h7,r4];lia,?_⟩
   refine hF _ _ ⟨⟨_,_,_,rfl⟩,(g2.trans (g3.trans g5)).upd hc,base++[(pl,(wo P base t).map λx=>(gf (wo P base t) pl*x)%P)],?_,?_,?_,?_⟩
   ·rw[aa,Jc];rfl
   ·rw[cO J];exact G.step hP B L GB
   ·intro e he x hx
    rcases Ja.mp he with he|he
    ·exact hf e he x hx
    ·rw[JE.mp he]at hx⊢;dsimp only at hx⊢;rw[oU (F:=λx=>(gf (wo P base t) pl*x)%P) (by rw[hw.len];lia),GC x hx];simp
   ·rw[q7,q7];simp;lia
 ·rintro ρ M2 ⟨⟨o4,o5,o6,rfl⟩,g2,base,O,G,hf,GA⟩;dsimp only;nofun;exact q _ _ _ G hf hc O g2
theorem pF{k:Nat}(G:2<=k){n:Nat}(J:P=2∨P=3)(F:n<=100)(z:Bs P n A base)(B:Vr P n v)(ea:M a=Z (.lst (base.map eD)))(q:∀c M',(c=N2↔Sp P n A (gf v))->Ge M M'->Q (.bl c) M'):phi tab k 7 [rD v,.ref a,.int P] M Q:=by
 have j:0<P:=∅
 refine al ∅ rfl rfl (ρ:=[Z _,Z _,Z _]) rfl ?_
 unfold d7 L2.Mi.K43.b7;nofun;refine fU ∅ ⟨j,∅⟩ F z.vr (λe he=>(z.pl e he).1) B ea λL g3=>?_
 have hw:=dB j z.vr B;refine⟨_,_,_,rfl,rfl,j4 _,?_⟩;refine⟨_,rfl,q _ _ ?_ g3⟩;rw[KW,pE hw,z.out j B]
structure Kd(d:Ub)(kvs:List (D×D))(M M':Mem):Prop where
 kp:∀a o,a≠d->M a=Z o->M' a=Z o
 df:DF M' d N2 kvs
variable{kvs:List (D×D)}
theorem Kd.refl(h:DF M d N2 kvs):Kd d kvs M M:=⟨λ_ _ _ e=>e,h⟩
theorem DF.ge{t:Bool}(h:DF M d t kvs)(g:Ge M M'):DF M' d t kvs:=h.imp (g _ _) λz=>⟨z.1,g _ _ z.2⟩
theorem Kd.ge{M'':Mem}(h:Kd d kvs M M')(g:Ge M' M''):Kd d kvs M M'':=⟨λa o n e=>g _ _ (h.kp a o n e),DF.ge h.df g⟩
theorem Kd.trans{M'':Mem}(h:Kd d kvs M M')(g:Kd d kvs M' M''):Kd d kvs M M'':=⟨λa o n e=>g.kp a o n (h.kp a o n e),g.df⟩
theorem DF.ne{t:Bool}(h:DF M d t kvs)(e:M a=Y):a≠d:=λz=>by
 rw[z]at e
 rcases h with h|h
 ·rw[e]at h;cases h
 ·rw[e]at h;cases h.2
theorem Kd.none(h:Kd d kvs M M')(e:M' a=Y):M a=Y:=by
 cases q:M a with
 |none=>rfl
 |some o=>rw[h.kp a o (DF.ne h.df e) q]at e;cases e
theorem Cw{t:TSd}{A:bv}{ρ:ar}(e:ρ[i]?=Z (Z (.ref a)))(m:DF M a N2 kvs)(h:∀M',(∀b o,b≠a->M b=Z o->M' b=Z o)->M' a=Z (.fdc kvs)->t A ρ M'):iM i t A ρ M:=by
 rcases m with m|⟨_,m⟩
 ·exact km e m (h _ (λb o n q=>by rw[au n];exact q) aa)
 ·exact Aj e m (h _ (λb o n q=>q) m)
theorem kD{k:Nat}(hk:1<=k){n:Nat}(hP:P=2∨P=3)(hn:1<=n/\n<=100){t:List Int}(hl:keys.length<=100000)(hv:∀u∈keys,u.length=n)(ht:Vr P n t)(L:(nx P t keys).Nodup)(ed:DF M d N2 (keys.map kv))(q:∀f M',Kd d (keys.map kv) M M'->M f=Y->M' f=Z (.dct N2 ((nx P t keys).map kv))->Q (.ref f) M'):phi tab k 31 [.ref d,rD t,.int P] M Q:=by
 have GA:0<P:=∅
 refine al ∅ rfl rfl (ρ:=[Z _,Z _,Z _,Y,Y,Y]) rfl ?_
 unfold d31 L2.Mi.K43.b31;nofun;intro f hf;have fv:=Ge.new (o:=.dct N2 []) hf;have e0:=aa (M:=M) (a:=f) (o:=.dct N2 []);have O:f≠d:=DF.ne ed hf;have j:=DF.ge ed fv;generalize ah M f (.dct N2 [])=M0 at fv e0 j⊢;nofun;refine Cw rfl j λM1 k1 fd=>?_;have e1:=k1 _ _ O e0;have k1:∀a o,a≠d->M a=Z o->M1 a=Z o:=λa o n e=>k1 _ _ n (fv _ _ e);clear fv e0 j;ac_nf;refine⟨_,fd,?_⟩;refine ao (f:=rD) (ys:=keys) (I:=λl ρ M'=>(∃o4 B,ρ=[Z (.ref d),Z (rD t),Z (.int P),Z (.ref f),o4,B])/\(∀a o,a≠d->M a=Z o->M' a=Z o)/\M' d=Z (.fdc (keys.map kv))/\M' f=Z (.dct N2 ((nx P t l).map kv))) (by rw[Kf];rfl) ⟨⟨_,_,rfl⟩,k1,fd,e1⟩ (λ_ _ _ _=>by first|rfl|trivial) ?_ ?_
 ·rintro l u r ρ M2 es ⟨⟨o4,B,rfl⟩,k2,G,e2⟩;refine⟨_,rfl,λF hF=>?_⟩;have GD:=ag es;have hu:=hv u (by rw[es];simp)
  nofun;refine⟨∅,∅,?_⟩
  rw[Jd];refine ao (f:=λi=>D.int (i:Nat)) (ys:=J2 P) (I:=λl2 ρ M'=>(∃B,ρ=[Z (.ref d),Z (rD t),Z (.int P),Z (.ref f),Z (rD u),B])/\(∀a o,a≠d->M a=Z o->M' a=Z o)/\M' d=Z (.fdc (keys.map kv))/\M' f=Z (.dct N2 ((nx P t l++nxR P t u l2).map kv))) av ⟨⟨_,rfl⟩,k2,G,by simpa[nxR]using e2⟩ (λ_ _ _ _=>by first|rfl|trivial) ?_ ?_
  ·rintro l2 s r2 ρ M3 es2 ⟨⟨B,rfl⟩,k3,J,e3⟩;refine⟨_,rfl,λF2 GB=>?_⟩;have GC:=ag es2;rw[Jb]at GC;rw[es]at L;have U:=y4 L es2;nofun;refine Ct GA ∅ (by trivial) (λx hx=>by have:=ht.inn x hx;lia) λρ pn hpn=>⟨_,_,rfl,ab aa,?_⟩
   have gn:=Ge.new (o:=.lst ((cb P (s:Nat) u t).map .int)) hpn;have F2:=(dA (p:=P) (t:=(s:Nat)) ∅ hu ht.len).len
   refine oE (gn _ _ e3) (fj (λz=>by rw[z]at F2;simp at F2;lia)) (by rw[h7,q7,oT,r4];unfold nxR;rw[h7];rcases hP with rfl|rfl<;>lia) ?_
   rw[Cv U];refine GB _ _ ⟨⟨_,rfl⟩,λa o n e=>?_,?_,?_⟩
   ·rw[au (λz=>by rw[z,hf]at e;cases e)];exact gn _ _ (k3 a o n e)
   ·rw[au O.symm];exact gn _ _ J
   ·rw[aa];simp[nxR]
  ·rintro ρ M3 ⟨⟨B,rfl⟩,k3,J,e3⟩;refine hF _ _ ⟨⟨_,_,rfl⟩,k3,J,?_⟩;rw[e3];simp[nx,JV]
 ·rintro ρ M2 ⟨⟨o4,B,rfl⟩,k2,G,e2⟩;dsimp only;nofun;exact q _ _ ⟨k2,.inr ⟨rfl,G⟩⟩ hf e2
def Bd(P n:Nat):Prop:=(P=2/\n<=12)∨(P=3/\n<=9)
theorem Bd.pw{n k:Nat}(h:Bd P n)(j:k<=n):P^k<=19683:=by
 rcases h with⟨rfl,h⟩|⟨rfl,h⟩
 ·exact K0 (OF (by decide) (show k<=12 by lia)) (by decide)
 ·exact K0 (OF (by decide) (show k<=9 by lia)) (by decide)
theorem Bd.p{n:Nat}(h:Bd P n):P=2∨P=3:=by rcases h with⟨h,_⟩|⟨h,_⟩<;>simp[h]
theorem Bd.n{n:Nat}(h:Bd P n):n<=12:=by rcases h with⟨_,h⟩|⟨_,h⟩<;>lia
theorem In.n{n:Nat}(z:P=2∨P=3)(h:In P n A):A.length<=n:=by
 obtain⟨keys,h⟩:=h;have B:∀v,Vr P n v->v∈rws P n:=by
  intro v j;have:∀(k:Nat),k<=n->v.take k∈rws P k:=by
   intro k
   induction k with
   |zero=>intro _;simp[rws]
   |succ k ih=>
    intro F;have q:k<v.length:=by rw[j.len];lia
    have hx:=j.inn _ (KO q);show _∈rwN P (rws P k);refine KD.mpr ⟨_,ih ∅,J8.mpr ⟨(v[k]).toNat,K2.mpr ∅,?_⟩⟩
    rw[Ln,z4 q,Nw hx.1];rfl
  have:=this n (J6 _)
  rwa[KI (by rw[j.len];exact J6 _)]at this
 have q:∀k,(rws P k).length=P^k:=by
  intro k
  induction k with
  |zero=>rfl
  |succ k ih=>show(rwN P (rws P k)).length=_;rw[fi,ih,Qn]
 have:=i9 h.nd λv j=>B v ((h.mem v).mp j).1;rw[h.len,q]at this;exact mN z this
theorem yP{n:Nat}(j:Kn P n A keys){t:List Int}(q:Vr P n t):t∈keys↔Sp P n A (gf t):=(j.mem t).trans ⟨λh=>h.2,λh=>⟨q,h⟩⟩
theorem t6{n:Nat}(q:1<=n){t:List Int}(j:Vr P n t):t≠[]:=λz=>by have:=j.len;rw[z]at this;simp at this;lia
theorem y8{k:Nat}(hk:2<=k){n:Nat}(O:Bd P n)(hn:1<=n){ts:List (List Int)}(ht:∀t∈ts,Vr P n t)(eb:M b=Z (.lst (ts.map rD)))(q:∀d keys M',Kn P n (chF P n [] ts) keys->M' d=Z (.dct N2 (keys.map kv))->M d=Y->Ge M M'->Q (.ref d) M'):phi tab k 32 [.ref b,.int n,.int P] M Q:=by
 have U:=O.p;have GB:=O.n;have F2:0<P:=∅
 refine al ∅ rfl rfl (ρ:=[Z _,Z _,Z _,Y,Y]) rfl ?_
 unfold d32 L2.Mi.K43.b32;nofun;intro p hp;rw[Jd,fQ,lK];refine⟨by rw[r4];lia,∅,∅,by rw[r4];lia,fj (λz=>by have:=congrArg MR z;simp at this;lia),aa,?_⟩
 have g1:=Ge.new (o:=.dct N2 ([IY n (0:Int)].map kv)) hp;have e1:=aa (M:=M) (a:=p) (o:=.dct N2 ([IY n (0:Int)].map kv));change wSs _ _ _ _ (ah M p (.dct N2 ([IY n (0:Int)].map kv)));generalize ah M p (.dct N2 ([IY n (0:Int)].map kv))=M1 at g1 e1⊢;nofun;refine⟨_,ab (g1 _ _ eb),?_⟩;refine ao (f:=rD) (ys:=ts) (I:=λl ρ M'=>Ge M M'/\∃d keys,(∃fv,ρ=[Z (.ref b),Z (.int n),Z (.int P),Z (.ref d),fv])/\M d=Y/\M' d=Z (.dct N2 (keys.map kv))/\Kn P n (chF P n [] l) keys) rfl ⟨g1,p,[IY n 0],⟨_,rfl⟩,hp,e1,Kn.init F2⟩ (λ_ _ _ h=>ab (h.1 _ _ eb)) ?_ ?_
 ·rintro l t r ρ M2 es ⟨g2,d,keys,⟨fv,rfl⟩,nd,G,j⟩;refine⟨_,rfl,λF hF=>?_⟩;have B:=ht t (by rw[es];simp)
  have GA:=O.pw (In.n U ⟨_,j⟩);rw[<-j.len]at GA;nofun;refine⟨_,_,_,rfl,.inl G,fj (t6 hn B),⟨_,rfl,?_⟩⟩;rw[jO]
  by_cases hm:t∈keys
  ·rw[if_neg (by simp[hm])]
   refine hF _ _ ⟨g2,d,keys,⟨_,rfl⟩,nd,G,?_⟩;rw[gy ((j.mem t).mp hm).2];exact j
  ·rw[if_pos (by simp[hm])]
   have J:¬Sp P n (chF P n [] l) (gf t):=λh=>hm ((j.mem t).mpr ⟨B,h⟩);have L:=j.step U B J;nofun;refine kD ∅ U ⟨hn,∅⟩ ∅ (λu hu=>((j.mem u).mp hu).1.len) B L.nd (.inl G) λf M3 k3 nf e3=>?_
   refine hF _ _ ⟨λa o e=>k3.kp a o (λz=>by rw[z,nd]at e;cases e) (g2 _ _ e),f,nx P t keys,⟨_,rfl⟩,aP g2 nf,e3,?_⟩
   rw[cO J];exact L
 ·rintro ρ M2 ⟨g2,d,keys,⟨fv,rfl⟩,nd,G,j⟩;dsimp only;nofun;exact q _ _ _ j G nd g2
noncomputable abbrev ixD(ix:List Nat):D:=.tup (ix.map λi:Nat=>D.int ((i:Nat):Int))
noncomputable def tat(T:List (List Int))(i:Nat):List Int:=T.getD i []
variable{T:List (List Int)}
theorem eB(h:i<T.length):T[i]?=Z (tat T i):=by unfold tat;rw[Jo,z4 h];rfl
theorem eC{n:Nat}(j:∀t∈T,Vr P n t)(h:i<T.length):Vr P n (tat T i):=j _ (Jh (eB h))
theorem DQ{a b:List (D×D)}(h:DF M d N2 a)(g:DF M d N2 b):a=b:=by
 rcases h with h|h<;>rcases g with g|g
 ·rw[h]at g;cases g;rfl
 ·rw[h]at g;cases g.2
 ·rw[h.2]at g;cases g
 ·rw[h.2]at g;cases g.2;rfl
variable{ix:List Nat}
theorem vF{k:Nat}(hk:2<=k){n:Nat}(hB:Bd P n)(hn:1<=n)(hK:Kn P n A keys)(hT:∀t∈T,Vr P n t)(hi:∀i∈ix,i<T.length){d0 pt:Ub}(ed:DF M d0 N2 (keys.map kv))(et:M pt=Z (.lst (T.map rD)))(q:∀d keys' M',Kn P n (chF P n A (ix.map (tat T))) keys'->DF M' d N2 (keys'.map kv)->Kd d0 (keys.map kv) M M'->Q (.ref d) M'):phi tab k 37 [.ref d0,.ref pt,ixD ix,.int P] M Q:=by
 have hP:=hB.p;have GC:=hB.n;have GD:0<P:=∅
 have GA:pt≠d0:=λz=>by
  rw[z]at et
  rcases ed with h|h
  ·rw[et]at h;cases h
  ·rw[et]at h;cases h.2
 refine al ∅ rfl rfl (ρ:=[Z _,Z _,Z _,Z _,Y,Y]) rfl ?_
 unfold d37 L2.Mi.K43.b37;nofun;nofun;refine ao (f:=λi:Nat=>D.int i) (ys:=ix) (I:=λl ρ M'=>Kd d0 (keys.map kv) M M'/\∃d keys',(∃o5,ρ=[Z (.ref d0),Z (.ref pt),Z (ixD ix),Z (.int P),Z (.ref d),o5])/\DF M' d N2 (keys'.map kv)/\(d=d0∨M d=Y)/\Kn P n (chF P n A (l.map (tat T))) keys') rfl ⟨Kd.refl ed,d0,keys,⟨_,rfl⟩,ed,.inl rfl,hK⟩ (λ_ _ _ _=>by first|rfl|trivial) ?_ ?_
 ·rintro l i r ρ M2 es ⟨G,d,keys',⟨o5,rfl⟩,J,hd,j⟩;refine⟨_,rfl,λF hF=>?_⟩;have L:=hi i (by rw[es];simp)
  have B:=eC hT L;have GB:=hB.pw (In.n hP ⟨_,j⟩);rw[<-j.len]at GB;have O:=G.kp _ _ GA et;have U:atI (T.map rD) (i:Nat)=Z (rD (tat T i)):=bx (by rw[Jj,eB L];rfl)
  nofun;refine aK O U ?_;refine⟨_,_,_,rfl,J,fj (t6 hn B),⟨_,rfl,?_⟩⟩;rw[jO]
  by_cases hm:tat T i∈keys'
  ·rw[if_neg (by simp[hm])]
   refine hF _ _ ⟨G,d,keys',⟨_,rfl⟩,J,hd,?_⟩;rw[Jc,Jr,Kx,gy ((j.mem _).mp hm).2];exact j
  ·rw[if_pos (by simp[hm])]
   have F2:¬Sp P n (chF P n A (l.map (tat T))) (gf (tat T i)):=λh=>hm ((j.mem _).mpr ⟨B,h⟩);have fv:=j.step hP B F2;nofun;refine aK O U ?_;refine kD ∅ hP ⟨hn,∅⟩ ∅ (λu hu=>((j.mem u).mp hu).1.len) B fv.nd J λf M3 k3 nf e3=>?_
   refine hF _ _ ⟨⟨λa o n e=>k3.kp a o (λz=>?_) (G.kp a o n e),?_⟩,f,_,⟨_,rfl⟩,.inl e3,.inr (G.none nf),?_⟩
   ·rcases hd with hd|hd
    ·exact n (z.trans hd)
    ·rw[z,hd]at e;cases e
   ·by_cases z:d=d0
    ·rw[<-z];have:=DQ (z▸G.df) J;rw[this];exact k3.df
    ·rcases G.df with h|h
     ·exact .inl (k3.kp _ _ (λy=>z y.symm) h)
     ·exact .inr ⟨rfl,k3.kp _ _ (λy=>z y.symm) h.2⟩
   ·rw[Jc,Jr,Kx,cO F2];exact fv
 ·rintro ρ M2 ⟨G,d,keys',⟨o5,rfl⟩,J,hd,j⟩;dsimp only;nofun;exact q _ _ _ j J G
noncomputable def chS(P n:Nat)(S:List (Nat->Int))(ts:List (List Int)):List (Nat->Int):=ts.foldl (λA t=>@ite _ (Sp P n S (gf t)/\¬Sp P n A (gf t)) (LV _) (A++[gf t]) A) []
variable{S:List (Nat->Int)}
theorem fq{n:Nat}{ts:List (List Int)}{t:List Int}(h:¬(Sp P n S (gf t)/\¬Sp P n (chS P n S ts) (gf t))):chS P n S (ts++[t])=chS P n S ts:=by unfold chS at h⊢;rw[Nj,L5,R0,if_neg h]
theorem kE{n:Nat}{ts:List (List Int)}{t:List Int}(h:Sp P n S (gf t))(h2:¬Sp P n (chS P n S ts) (gf t)):chS P n S (ts++[t])=chS P n S ts++[gf t]:=by unfold chS at h2⊢;rw[Nj,L5,R0,if_pos ⟨h,h2⟩]
theorem AB{k:Nat}(hk:2<=k){n:Nat}(F2:Bd P n)(hn:1<=n)(fv:Kn P n S keys)(hT:∀t∈T,Vr P n t){dk pt:Ub}(ed:DF M dk N2 (keys.map kv))(et:M pt=Z (.lst (T.map rD)))(q:∀c M',(c=N2↔(chS P n S T).length=S.length)->Ge M M'->Q (.bl c) M'):phi tab k 38 [.ref dk,.ref pt,.int n,.int P] M Q:=by
 have J:=F2.p;have GC:=F2.n;have GA:0<P:=∅
 refine al ∅ rfl rfl (ρ:=[Z _,Z _,Z _,Z _,Y,Y]) rfl ?_
 unfold d38 L2.Mi.K43.b38;nofun;intro p hp;rw[Jd,fQ,lK];refine⟨by rw[r4];lia,∅,∅,by rw[r4];lia,fj (λz=>by have:=congrArg MR z;simp at this;lia),aa,?_⟩
 have g1:=Ge.new (o:=.dct N2 ([IY n (0:Int)].map kv)) hp;have e1:=aa (M:=M) (a:=p) (o:=.dct N2 ([IY n (0:Int)].map kv));change wSs _ _ _ _ (ah M p (.dct N2 ([IY n (0:Int)].map kv)));generalize ah M p (.dct N2 ([IY n (0:Int)].map kv))=M1 at g1 e1⊢;nofun;refine⟨_,ab (g1 _ _ et),?_⟩;refine ao (f:=rD) (ys:=T) (I:=λl ρ M'=>Ge M M'/\∃d keys',(∃o5,ρ=[Z (.ref dk),Z (.ref pt),Z (.int n),Z (.int P),Z (.ref d),o5])/\M d=Y/\M' d=Z (.dct N2 (keys'.map kv))/\Kn P n (chS P n S l) keys') rfl ⟨g1,p,[IY n 0],⟨_,rfl⟩,hp,e1,Kn.init GA⟩ (λ_ _ _ h=>ab (h.1 _ _ et)) ?_ ?_
 ·rintro l t r ρ M2 es ⟨g2,d,keys',⟨o5,rfl⟩,nd,G,j⟩;refine⟨_,rfl,λF hF=>?_⟩;have B:=hT t (by rw[es];simp)
  have GB:=F2.pw (In.n J ⟨_,j⟩);rw[<-j.len]at GB;have L:=fj (t6 hn B);nofun;refine⟨_,_,_,rfl,DF.ge ed g2,L,⟨_,rfl,?_⟩⟩;rw[jO]
  by_cases h1:t∈keys
  ·rw[if_pos (by simp[h1])]
   refine⟨_,_,_,rfl,.inl G,L,⟨_,rfl,?_⟩⟩;rw[jO]
   by_cases hm:t∈keys'
   ·rw[if_neg (by simp[hm])]
    refine hF _ _ ⟨g2,d,keys',⟨_,rfl⟩,nd,G,?_⟩;rw[fq (λh=>h.2 ((j.mem t).mp hm).2)];exact j
   ·rw[if_pos (by simp[hm])]
    have O:¬Sp P n (chS P n S l) (gf t):=λh=>hm ((j.mem t).mpr ⟨B,h⟩);have U:=j.step J B O;nofun;refine kD ∅ J ⟨hn,∅⟩ ∅ (λu hu=>((j.mem u).mp hu).1.len) B U.nd (.inl G) λf M3 k3 nf e3=>?_
    refine hF _ _ ⟨λa o e=>k3.kp a o (λz=>by rw[z,nd]at e;cases e) (g2 _ _ e),f,_,⟨_,rfl⟩,aP g2 nf,e3,?_⟩
    rw[kE ((yP fv B).mp h1) O];exact U
  ·rw[if_neg (by simp[h1])]
   refine hF _ _ ⟨g2,d,keys',⟨_,rfl⟩,nd,G,?_⟩;rw[fq (λh=>h1 ((yP fv B).mpr h.1))];exact j
 ·rintro ρ M2 ⟨g2,d,keys',⟨o5,rfl⟩,nd,G,j⟩;dsimp only;nofun;refine⟨_,_,rfl,.inl G,_,_,rfl,DF.ge ed g2,?_⟩;rw[h7,h7,j.len,fv.len];dsimp only;ac_nf;refine q _ _ ?_ g2;rw[beq_iff_eq];constructor
  ·intro h;have h:=Ou.inj h;exact ON (mN J (RV h)) (mN J (RV h.symm))
  ·intro h;rw[h]
theorem vG{n:Nat}(j:Vr P n v):v∈rws P n:=by
 have:∀(k:Nat),k<=n->v.take k∈rws P k:=by
  intro k
  induction k with
  |zero=>intro _;simp[rws]
  |succ k ih=>
   intro z;have q:k<v.length:=by rw[j.len];lia
   have hx:=j.inn _ (KO q);show _∈rwN P (rws P k);refine KD.mpr ⟨_,ih ∅,J8.mpr ⟨(v[k]).toNat,K2.mpr ∅,?_⟩⟩
   rw[Ln,z4 q,Nw hx.1];rfl
 have:=this n (J6 _)
 rwa[KI (by rw[j.len];exact J6 _)]at this
theorem pG{P:Nat}:∀{k:Nat} {v:List Int},v∈rws P k->Vr P k v
 |0,v,h=>by
  have:v=[]:=by simpa[rws]using h
  subst this;exact⟨rfl,by simp⟩
 |k+1,v,h=>by
  obtain⟨u,q,h⟩:=KD.mp (show v∈rwN P (rws P k)from h);obtain⟨x,hx,rfl⟩:=J8.mp h;have ih:=pG q;refine⟨by rw[q7,ih.len];rfl,λy j=>?_⟩
  rcases Ja.mp j with j|j
  ·exact ih.inn y j
  ·rw[JE.mp j];have:=K2.mp hx;lia
noncomputable def tbl(P:Nat)(x:List Int×List Int):List Int:=x.1.flatMap λa=>x.2.map λb=>a*b%P
variable{x:List Int×List Int}
theorem gD(h:x∈prs P L R):Vr P L x.1/\Vr P R x.2:=by obtain⟨l,j,h⟩:=KD.mp h;obtain⟨r,q,rfl⟩:=J8.mp h;exact⟨pG (KJ.mp j).1,pG (KJ.mp q).1⟩
theorem vH{P:Nat}{r:List Int}:∀{l:List Int} {i j:Nat},i<l.length->j<r.length->(tbl P (l,r))[i*r.length+j]?=Z (gf l i*gf r j%P)
 |a::l,0,j,_,q=>by
  unfold tbl;rw[Ka,Nat.zero_mul,O1,J1 (by rw[h7];exact q),Jj,aO q]
  rfl
 |a::l,i+1,j,hi,q=>by
  have ih:=vH (P:=P) (r:=r) (l:=l) (i:=i) (j:=j) (by rw[Jw]at hi;lia) q
  unfold tbl at ih⊢;rw[Ka,IX (by rw[h7,Kq];lia),h7,show(i+1)*r.length+j-r.length=i*r.length+j by rw[Kq];lia,ih]
  rfl
theorem ii{P:Nat}{r:List Int}:∀{l:List Int},(tbl P (l,r)).length=l.length*r.length
 |[]=>by simp[tbl]
 |a::l=>by have ih:=ii (P:=P) (r:=r) (l:=l);unfold tbl at ih⊢;rw[Ka,q7,ih,Jw,Kq,h7,RT]
theorem pH(q:0<P)(h1:x.1.length=L)(h2:x.2.length=R):Vr P (L*R) (tbl P x):=by
 refine⟨by rw[<-h1,<-h2];exact ii,λy j=>?_⟩
 obtain⟨a,_,j⟩:=KD.mp j;obtain⟨b,_,rfl⟩:=J8.mp j;exact⟨KL _ ∅,Kb _ ∅⟩
theorem vI(h1:x.1.length=L)(h2:x.2.length=R){j:Nat}(hi:i<L)(z:j<R):gf (tbl P x) (i*R+j)=gf x.1 i*gf x.2 j%P:=by
 have e:=vH (P:=P) (l:=x.1) (r:=x.2) (i:=i) (j:=j) ∅ ∅
 have q:=(J0.mp e).1;rw[aO q,h2]at e;exact JO.inj e
noncomputable def ul(L i:Nat):List Int:=IY i 0++1::IY (L-i-1) 0
theorem fu(h:i<L):(ul L i).length=L:=by unfold ul;simp;lia
theorem t7(j:P=2∨P=3)(h:i<L):Vr P L (ul L i):=by
 refine⟨fu h,λx hx=>?_⟩;unfold ul at hx
 rcases Ja.mp hx with hx|hx
 ·rw[K6 hx];lia
 ·rcases Jp.mp hx with rfl|hx
  ·lia
  ·rw[K6 hx];lia
theorem yQ:fo (ul L i)=N2:=by
 have e:nzl (ul L i)=[1]:=by
  unfold nzl ul;rw[JF,Jz (by decide),Oa.mpr,Oa.mpr]
  ·rfl
  ·intro a j;rw[K6 j];decide
  ·intro a j;rw[K6 j];decide
 unfold fo;rw[e];decide
theorem t8{x:Nat}(h:i<L)(hx:x<L):gf (ul L i) x=if x=i then 1 else 0:=by
 have e:=aO (v:=ul L i) (x:=x) (by rw[fu h];exact hx)
 unfold ul at e⊢
 by_cases h1:x<i
 ·rw[J1 (by simpa using h1),JR,if_pos h1]at e
  rw[if_neg ∅];exact(JO.inj e).symm
 ·rw[IX (by simpa using h1),Ly]at e
  by_cases h2:x=i
  ·rw[h2,Nu]at e;rw[if_pos h2,h2];exact(JO.inj e).symm
  ·rw[show x-i=(x-i-1)+1 by lia,LU,JR,if_pos ∅]at e
   rw[if_neg h2];exact(JO.inj e).symm
noncomputable def aw(P L R:Nat):List (List Int):=(prs P L R).map (tbl P)
theorem ik(j:0<P):∀t∈aw P L R,Vr P (L*R) t:=by intro t q;obtain⟨x,hx,rfl⟩:=J8.mp q;obtain⟨h1,h2⟩:=gD hx;exact pH j h1.len h2.len
theorem pI(B:P=2∨P=3)(J:1<=R)(f:Nat->Int):Sp P (L*R) (chF P (L*R) A (aw P L R)) f:=by
 refine Sp.units (λk F=>?_) f;have hi:k / R<L:=(Qz ∅).mpr F
 have z:k%R<R:=Nat.mod_lt _ ∅
 have hm:tbl P (ul L (k / R),ul R (k%R))∈aw P L R:=by refine J8.mpr ⟨_,KD.mpr ⟨ul L (k / R),KJ.mpr ⟨vG (t7 B hi),yQ⟩,J8.mpr ⟨ul R (k%R),KJ.mpr ⟨vG (t7 B z),yQ⟩,rfl⟩⟩,rfl⟩
 refine(fh hm).congr λx hx=>?_;have j:x / R<L:=(Qz ∅).mpr hx
 have q:x%R<R:=Nat.mod_lt _ ∅
 have ex:x=x / R*R+x%R:=by rw[NV];exact(T5 x R).symm
 have e:=vI (P:=P) (x:=(ul L (k / R),ul R (k%R))) (fu hi) (fu z) j q;rw[<-ex,t8 hi j,t8 z q]at e;rw[e];unfold dlk;have h1:(1:Int)%P=1:=Int.emod_eq_of_lt (by decide) ∅
 by_cases hxk:x=k
 ·subst hxk;rw[if_pos rfl,if_pos rfl,if_pos rfl,Int.one_mul,h1];simp
 ·rw[if_neg hxk]
  by_cases h2:x / R=k / R
  ·rw[if_neg (show ¬x%R=k%R fromλG=>hxk (by rw[ex,h2,G,NV];exact T5 k R))];simp
  ·rw[if_neg h2];simp
theorem lQ{k:Nat}(F2:1<=k)(fv:P=2∨P=3)(hL:L<=6)(hR:R<=6)(h1:Vr P L x.1)(h2:Vr P R x.2)(q:∀M',Ge M M'->Q (rD (tbl P x)) M'):phi tab k 4 [p2D x,.int P] M Q:=by
 have F:=h1.len;have G:=h2.len;refine al ∅ rfl rfl (ρ:=[Z _,Z _,Y,Y]) rfl ?_
 unfold d4 L2.Mi.K43.b4;nofun;nofun;refine ak (f:=D.int) (ys:=x.1) (I:=λl ρ M' acc=>(∃o0 j,ρ=[o0,j,Z (.int P),Z (rD x.2)])/\M'=M/\acc=(tbl P (l,x.2)).map .int) rfl ⟨⟨_,_,rfl⟩,rfl,rfl⟩ (λ_ _ _ _ _=>by first|rfl|trivial) ?_ ?_
 ·rintro l a r ρ M1 acc e ⟨⟨o0,j,rfl⟩,rfl,rfl⟩;refine⟨_,rfl,λN J=>?_⟩;have O:=ag e;have ha:=h1.inn a (by rw[e];simp)
  have hm:l.length*x.2.length<=6*6:=JK ∅ ∅
  ac_nf;refine ak (f:=D.int) (ys:=x.2) (I:=λl2 ρ M' acc=>(∃j,ρ=[Z (.int a),j,Z (.int P),Z (rD x.2)])/\M'=M1/\acc=(tbl P (l,x.2)++l2.map λb=>a*b%P).map .int) rfl ⟨⟨_,rfl⟩,rfl,by simp⟩ (λ_ _ _ _ _=>by first|rfl|trivial) ?_ ?_
  ·rintro l2 b r2 ρ M2 acc e2 ⟨⟨j,rfl⟩,rfl,rfl⟩;refine⟨_,rfl,λN2 z=>?_⟩;have B:=ag e2;ac_nf;refine⟨cL ∅,∅,by rw[h7,q7,ii,h7,r4];lia,z _ _ _ ⟨⟨_,rfl⟩,rfl,by simp⟩⟩
  ·rintro ρ M2 acc ⟨⟨j,rfl⟩,rfl,rfl⟩;exact J _ _ _ ⟨⟨_,_,rfl⟩,rfl,by simp[tbl,JV]⟩
 ·rintro ρ M1 acc ⟨⟨o0,j,rfl⟩,rfl,rfl⟩ p U;exact⟨_,_,rfl,ab aa,q _ (Ge.new U)⟩
theorem vJ{k:Nat}(hk:1<=k)(hP:P=2∨P=3)(hL:L<=6)(hR:R<=6)(h1:Vr P L x.1)(h2:Vr P R x.2)(q:∀M',Ge M M'->Q (rD (tbl P x)) M'):phi tab k 29 [p2D x,.int P] M Q:=by
 have U:=h1.len;have F2:=h2.len;refine al ∅ rfl rfl (ρ:=[Z _,Z _,Y,Y]) rfl ?_
 unfold d29 L2.Mi.K43.b29;nofun;refine⟨by rw[r4];lia,λpf j=>?_⟩
 have g1:=Ge.new (o:=.lst []) j;have J:=aa (M:=M) (a:=pf) (o:=.lst []);generalize ah M pf (.lst [])=M1 at g1 J⊢;nofun;refine⟨_,rfl,_,rfl,?_⟩;refine ao (f:=D.int) (ys:=x.1) (I:=λl ρ M'=>(∃B,ρ=[Z (p2D x),Z (.int P),Z (.ref pf),B])/\Ge M M'/\M' pf=Z (.lst ((tbl P (l,x.2)).map .int))) rfl ⟨⟨_,rfl⟩,g1,J⟩ (λ_ _ _ _=>by first|rfl|trivial) ?_ ?_
 ·rintro l a r ρ M2 e ⟨⟨B,rfl⟩,g2,z⟩;refine⟨_,rfl,λF fv=>?_⟩;have GA:=ag e;have ha:=h1.inn a (by rw[e];simp)
  have hm:l.length*x.2.length<=6*6:=JK ∅ ∅
  nofun;refine⟨⟨_,z⟩,_,rfl,_,rfl,?_⟩;refine ak (f:=D.int) (ys:=x.2) (I:=λl2 ρ M' acc=>(∃o0,ρ=[o0,Z (.int a),Z (.int P)])/\M'=M2/\acc=(l2.map λb=>a*b%P).map .int) rfl ⟨⟨_,rfl⟩,rfl,rfl⟩ (λ_ _ _ _ _=>by first|rfl|trivial) ?_ ?_
  ·rintro l2 b r2 ρ M3 acc e3 ⟨⟨o0,rfl⟩,rfl,rfl⟩;refine⟨_,rfl,λN2 G=>?_⟩;have O:=ag e3;ac_nf;refine⟨cL ∅,∅,by rw[h7,h7,r4];lia,G _ _ _ ⟨⟨_,rfl⟩,rfl,by simp⟩⟩
  ·rintro ρ M3 acc ⟨⟨o0,rfl⟩,rfl,rfl⟩ pe hpe;have gp:=Ge.new (o:=.lst ((x.2.map λb=>a*b%P).map .int)) hpe;refine⟨pf,pe,_,_,rfl,rfl,gp _ _ z,aa,by rw[h7,h7,h7,ii,r4];lia,?_⟩
   refine fv _ _ ⟨⟨_,rfl⟩,(g2.trans gp).upd j,?_⟩;rw[aa];simp[tbl,JV]
 ·rintro ρ M2 ⟨⟨B,rfl⟩,g2,z⟩;dsimp only;nofun;exact⟨_,_,rfl,ab z,q _ g2⟩
variable{m e:Nat}
theorem AC{k:Nat}(J:1<=k)(he:e<=m)(hm:m<=1000000)(q:Q (.int (bn m e:Nat)) M):phi tab k 10 [.int m,.int e] M Q:=by
 refine al ∅ rfl rfl (ρ:=[Z _,Z _,Y,Y]) rfl ?_
 unfold d10 L2.Mi.K43.b10;nofun;nofun;have ex:(if(m:Int)-e<e then(m:Int)-e else(e:Int))=((min e (m-e):Nat):Int):=by split<;>lia
 rw[ex];refine⟨∅,∅,?_⟩
 rw[Jd];refine ao (f:=λi=>D.int (i:Nat)) (ys:=J2 (min e (m-e))) (I:=λl ρ M'=>M'=M/\∃z,ρ=[Z (.int m),Z (.int e),Z (.int (cnt m l.length:Nat)),z]) av ⟨rfl,_,rfl⟩ (λ_ _ _ _=>by first|rfl|trivial) ?_ ?_
 ·rintro l i r ρ M1 es ⟨rfl,z,rfl⟩;refine⟨_,rfl,fun F G=>?_⟩;have j:=ag es;rw[Jb]at j;have hi:i=l.length:=by
   have B:(J2 (min e (m-e)))[l.length]?=Z i:=by rw[es];simp
   rw[Lr j]at B;exact(JO.inj B).symm
  nofun;refine⟨eP ∅,∅,by have B:(1000001:Int)<2^256:=(by decide);lia,G _ _ ⟨rfl,Z (.int (i:Nat)),?_⟩⟩
  rw[q7,JC];show _=[_,_,Z (D.int ((cnt m l.length*(m-l.length) / (l.length+1):Nat):Int)),_];rw[SD,Mr,T6 ∅,hi]
  rfl
 ·rintro ρ M1 ⟨rfl,z,rfl⟩;dsimp only;nofun;rw[Jb,Aw he];exact q
theorem y9{k:Nat}(J:1<=k)(he:e<=m)(hm:m<=1000000)(q:Q (.int (bn m e:Nat)) M):phi tab k 36 [.int m,.int e] M Q:=by
 refine al ∅ rfl rfl (ρ:=[Z _,Z _,Y,Y]) rfl ?_
 unfold d36 L2.Mi.K43.b36;nofun;nofun;refine⟨∅,∅,?_⟩
 rw[Jd];refine ao (f:=λi=>D.int (i:Nat)) (ys:=J2 e) (I:=λl ρ M'=>M'=M/\∃z,ρ=[Z (.int m),Z (.int e),Z (.int (cnt m l.length:Nat)),z]) av ⟨rfl,_,rfl⟩ (λ_ _ _ _=>by first|rfl|trivial) ?_ ?_
 ·rintro l i r ρ M1 es ⟨rfl,z,rfl⟩;refine⟨_,rfl,fun F G=>?_⟩;have j:=ag es;rw[Jb]at j;have hi:i=l.length:=by
   have B:(J2 e)[l.length]?=Z i:=by rw[es];simp
   rw[Lr j]at B;exact(JO.inj B).symm
  nofun;refine⟨eP ∅,∅,by have B:(1000001:Int)<2^256:=(by decide);lia,G _ _ ⟨rfl,Z (.int (i:Nat)),?_⟩⟩
  rw[q7,JC];show _=[_,_,Z (D.int ((cnt m l.length*(m-l.length) / (l.length+1):Nat):Int)),_];rw[SD,Mr,T6 ∅,hi]
  rfl
 ·rintro ρ M1 ⟨rfl,z,rfl⟩;dsimp only;nofun;rw[Jb,ph];exact q
theorem dO{k:Nat}{a b:List (List Nat)}:stp m e k (a++b)=stp m e k a++stp m e k b:=JV
variable{c:List Nat}
theorem im{k:Nat}:stp m e k [c]=exs m e k c:=by simp[stp]
theorem AD{k:Nat}(hk:1<=k)(he:e<=m)(hm:m<=1000000)(GD:e<=100)(hb:bn m e<=3000)(q:∀p M',Ge M M'->M p=Y->M' p=Z (.lst ((sts m e e).map ixD))->Q (.ref p) M'):phi tab k 11 [.int m,.int e] M Q:=by
 refine al ∅ rfl rfl (ρ:=[Z _,Z _,Y,Y]) rfl ?_
 unfold d11 L2.Mi.K43.b11;nofun;refine⟨by rw[r4];lia,by rw[r4];lia,λU B=>?_⟩
 have g0:=Ge.new (o:=.lst [ixD []]) B;have e0:=aa (M:=M) (a:=U) (o:=.lst [ixD []]);change wSs _ _ _ _ (ah M U (.lst [ixD []]));generalize ah M U (.lst [ixD []])=M0 at g0 e0⊢;nofun;refine⟨∅,∅,?_⟩
 rw[Jd];refine ao (f:=λi=>D.int (i:Nat)) (ys:=J2 e) (I:=λl ρ M'=>∃pr F2,ρ=[Z (.int m),Z (.int e),Z (.ref pr),F2]/\Ge M M'/\M pr=Y/\M' pr=Z (.lst ((sts m e l.length).map ixD))) av ⟨U,_,rfl,g0,B,e0⟩ (λ_ _ _ _=>trivial) ?_ ?_
 ·rintro l i r ρ M1 es ⟨pr,F2,rfl,g1,n1,G⟩;refine⟨_,rfl,fun F hF=>?_⟩;have J:=ag es;rw[Jb]at J;have hi:i=l.length:=by
   have L:(J2 e)[l.length]?=Z i:=by rw[es];simp
   rw[Lr J]at L;exact(JO.inj L).symm
  subst hi;have fv:=K0 (qP he (k:=l.length+1) ∅) hb
  nofun;refine⟨_,ab G,?_⟩;refine ak (f:=ixD) (ys:=sts m e l.length) (I:=λl2 ρ M' acc=>(∃o0 z,ρ=[o0,z,Z (.int m),Z (.int e),Z (.int (l.length:Nat))])/\M'=M1/\acc=(stp m e l.length l2).map ixD) rfl ⟨⟨_,_,rfl⟩,rfl,rfl⟩ (λ_ _ _ _ h=>by rw[h.2.1];exact ab G) ?_ ?_
  ·rintro l2 c r2 ρ M2 acc e2 ⟨⟨o0,z,rfl⟩,rfl,rfl⟩;refine⟨_,rfl,λN hN=>?_⟩;have hc:=(cP c).mp (show c∈sts m e l.length by rw[e2];simp)
   have hsz:(stp m e l.length l2).length+(exs m e l.length c).length<=3000:=by
    have L:sts m e (l.length+1)=stp m e l.length l2++(exs m e l.length c++stp m e l.length r2):=by show stp m e l.length (sts m e l.length)=_;rw[e2,dO,show c::r2=[c]++r2 from rfl,dO,im]
    rw[L,q7,q7]at fv;lia
   have fin:∀(j:Int),j=(m:Int)-e+(l.length:Nat)+1->bf (be 1) (bJ (wOp dS (aY 0) (wAr nh (aN (aY 1) bF)))) (λx=>True) N (bZ (fsx c:Nat) (j-(fsx c:Nat)).toNat) [Z (ixD c),z,Z (D.int m),Z (D.int e),Z (D.int (l.length:Nat))] M2 (Lq ixD (stp m e l.length l2)):=by
    intro j hj;have hj:(j-(fsx c:Nat)).toNat=m-e+l.length+1-fsx c:=∅
    rw[hj];refine ak (f:=λi:Nat=>D.int ((fsx c:Nat)+(i:Nat))) (ys:=J2 (m-e+l.length+1-fsx c)) (I:=λl3 ρ M' acc=>(∃z,ρ=[Z (ixD c),z,Z (.int m),Z (.int e),Z (.int (l.length:Nat))])/\M'=M2/\acc=(stp m e l.length l2++l3.map λi=>c++[fsx c+i]).map ixD) rfl ⟨⟨_,rfl⟩,rfl,by simp⟩ (λ_ _ _ _ _=>trivial) ?_ ?_
    ·rintro l3 i r3 ρ M3 acc e3 ⟨⟨z,rfl⟩,rfl,rfl⟩;refine⟨_,rfl,λN2 GA=>?_⟩;have GB:=ag e3;rw[Jb]at GB;have GE:(exs m e l.length c).length=m-e+l.length+1-fsx c:=by unfold exs;simp
     have GF:=hc.1;ac_nf;refine⟨by rw[r4];lia,.inr trivial,by rw[h7,r4];lia,by rw[h7,q7,h7,r4];lia,GA _ _ _ ⟨⟨_,rfl⟩,rfl,?_⟩⟩
     simp
    ·rintro ρ M3 acc ⟨⟨z,rfl⟩,rfl,rfl⟩;refine hN _ _ _ ⟨⟨_,_,rfl⟩,rfl,?_⟩;rw[dO,im];rfl
   have GC:fsx c<=m:=by
    rcases Kv c with rfl|⟨u,x,rfl⟩
    ·exact Ku _
    ·rw[Kw]at *
     rw[cc];have:=hc.2.2 u.length x (by simp)
     have L:u.length+1=l.length:=by simpa using hc.1
     lia
   ac_nf
   rcases Kv c with rfl|⟨u,x,rfl⟩
   ·refine⟨Ua,rfl,?_⟩;rw[if_neg (by decide)]
    exact⟨0,_,⟨rfl,rfl⟩,∅,fin _ rfl⟩
   ·rw[Kw]at *
    refine⟨N2,by simp[rL],?_⟩
    rw[if_pos rfl];refine⟨.int x,by rw[Jc];exact mU _ _,?_⟩
    ac_nf;rw[cc]at fin GC;exact⟨_,_,⟨rfl,rfl⟩,∅,fin _ rfl⟩
  ·rintro ρ M2 acc ⟨⟨o0,z,rfl⟩,rfl,rfl⟩ pn O;refine hF _ _ ⟨pn,_,rfl,g1.trans (Ge.new O),aP g1 O,?_⟩;rw[aa,q7];rfl
 ·rintro ρ M1 ⟨pr,F2,rfl,g1,n1,G⟩;dsimp only;nofun;rw[Jb]at G;exact q pr M1 g1 n1 G
theorem Cy:ixD c=rD (c.map λi:Nat=>(i:Int)):=by show D.tup _=D.tup _;rw[Kf];rfl
theorem Cz(q:Q (.bl (!c.isEmpty)) M):wNe (ixD c) (.tup []) M Q:=by
 refine⟨.tuple ((c.map λi:Nat=>(i:Int)).map .int),.tuple [],?_,?_,?_⟩
 ·rw[Cy];simp only[rb];rw[eZ];rfl
 ·simp[rb,aF]
 ·cases c<;>simpa[Km,Lk]using q
theorem DR{K:D->Mem->Prop}(h:K (.int (fsx c:Nat)) M):if(!c.isEmpty)=N2 then ∃x,atI (c.map λi:Nat=>D.int (i:Nat)) (-1)=Z x/\dS x (.int 1) M (λx j=>K x j)else K (.int 0) M:=by
 rcases Kv c with rfl|⟨u,x,rfl⟩
 ·exact h
 ·rw[Kw]at *
  rw[cc]at h;rw[if_pos (by simp)]
  exact⟨.int x,by rw[Jc];exact mU _ _,h⟩
theorem ya{k:Nat}(hk:1<=k)(he:e<=m)(hm:m<=1000000)(GE:e<=100)(hb:bn m e<=3000)(q:∀p M',Ge M M'->M p=Y->M' p=Z (.lst ((sts m e e).map ixD))->Q (.ref p) M'):phi tab k 35 [.int m,.int e] M Q:=by
 refine al ∅ rfl rfl (ρ:=[Z _,Z _,Y,Y,Y,Y,Y]) rfl ?_
 unfold d35 L2.Mi.K43.b35;nofun;refine⟨by rw[r4];lia,by rw[r4];lia,λp0 L=>?_⟩
 have g0:=Ge.new (o:=.lst [ixD []]) L;have e0:=aa (M:=M) (a:=p0) (o:=.lst [ixD []]);change wSs _ _ _ _ (ah M p0 (.lst [ixD []]));generalize ah M p0 (.lst [ixD []])=M0 at g0 e0⊢;nofun;refine⟨∅,∅,?_⟩
 rw[Jd];refine ao (f:=λi=>D.int (i:Nat)) (ys:=J2 e) (I:=λl ρ M'=>∃pr o3 o4 B G,ρ=[Z (.int m),Z (.int e),Z (.ref pr),o3,o4,B,G]/\Ge M M'/\M pr=Y/\M' pr=Z (.lst ((sts m e l.length).map ixD))) av ⟨p0,_,_,_,_,rfl,g0,L,e0⟩ (λ_ _ _ _=>trivial) ?_ ?_
 ·rintro l i r ρ O es ⟨pr,o3,o4,B,G,rfl,g1,n1,J⟩;refine⟨_,rfl,fun F hF=>?_⟩;have U:=ag es;rw[Jb]at U;have hi:i=l.length:=by
   have F2:(J2 e)[l.length]?=Z i:=by rw[es];simp
   rw[Lr U]at F2;exact(JO.inj F2).symm
  subst hi;have GA:=K0 (qP he (k:=l.length+1) ∅) hb
  nofun;refine⟨by rw[r4];lia,λpl j=>?_⟩
  have g2:=Ge.new (o:=.lst []) j;have e2:=aa (M:=O) (a:=pl) (o:=.lst []);generalize ah O pl (.lst [])=M2 at g2 e2⊢;have fv:=aP g1 j;have GF:pr≠pl:=λz=>by rw[z,j]at J;cases J
  nofun;refine⟨_,ab (g2 _ _ J),?_⟩;refine ao (f:=ixD) (ys:=sts m e l.length) (I:=λl2 ρ M'=>(∃B G,ρ=[Z (.int m),Z (.int e),Z (.ref pr),Z (.int (l.length:Nat)),Z (.ref pl),B,G])/\Ge O M'/\M' pl=Z (.lst ((stp m e l.length l2).map ixD))) rfl ⟨⟨_,_,rfl⟩,g2,e2⟩ (λ_ _ _ h=>ab (h.2.1 _ _ J)) ?_ ?_
  ·rintro l2 c r2 ρ M3 e' ⟨⟨B,G,rfl⟩,g3,e3⟩;refine⟨_,rfl,λF2 GB=>?_⟩;have hc:=(cP c).mp (show c∈sts m e l.length by rw[e'];simp)
   have hsz:(stp m e l.length l2).length+(exs m e l.length c).length<=3000:=by
    have F2:sts m e (l.length+1)=stp m e l.length l2++(exs m e l.length c++stp m e l.length r2):=by show stp m e l.length (sts m e l.length)=_;rw[e',dO,show c::r2=[c]++r2 from rfl,dO,im]
    rw[F2,q7,q7]at GA;lia
   have GG:(exs m e l.length c).length=m-e+l.length+1-fsx c:=by unfold exs;simp
   have GH:=hc.1;have GI:fsx c<=m:=by
    rcases Kv c with rfl|⟨u,x,rfl⟩
    ·exact Ku _
    ·rw[Kw]at *
     rw[cc];have:=hc.2.2 u.length x (by simp)
     have F2:u.length+1=l.length:=by simpa using hc.1
     lia
   nofun;refine⟨Ku _,Cz ⟨_,rfl,DR ?_⟩⟩;nofun;refine⟨⟨_,e3⟩,_,_,⟨rfl,rfl⟩,∅,?_⟩
   rw[show((m:Int)-e+(l.length:Nat)+1-(fsx c:Nat)).toNat=m-e+l.length+1-fsx c by lia]
   refine ak (f:=λi:Nat=>D.int ((fsx c:Nat)+(i:Nat))) (ys:=J2 (m-e+l.length+1-fsx c)) (I:=λl3 ρ M' acc=>(∃o0,ρ=[o0,Z (ixD c)])/\M'=M3/\acc=(l3.map λi=>c++[fsx c+i]).map ixD) rfl ⟨⟨_,rfl⟩,rfl,rfl⟩ (λ_ _ _ _ _=>trivial) ?_ ?_
   ·rintro l3 i r3 ρ M4 acc e4 ⟨⟨o0,rfl⟩,rfl,rfl⟩;refine⟨_,rfl,λN2 GC=>?_⟩;have GD:=ag e4;rw[Jb]at GD;ac_nf;refine⟨by rw[r4];lia,.inr trivial,by rw[h7,r4];lia,by rw[h7,h7,r4];lia,GC _ _ _ ⟨⟨_,rfl⟩,rfl,?_⟩⟩
    simp
   ·rintro ρ M4 acc ⟨⟨o0,rfl⟩,rfl,rfl⟩ pe hpe;have gp:=Ge.new (o:=.lst (((J2 (m-e+l.length+1-fsx c)).map λi=>c++[fsx c+i]).map ixD)) hpe;refine⟨pl,pe,_,_,rfl,rfl,gp _ _ e3,aa,by rw[h7,h7,h7,Jb,r4];lia,?_⟩
    refine GB _ _ ⟨⟨_,_,rfl⟩,(g3.trans gp).upd j,?_⟩;rw[aa,<-Jc,dO,im];rfl
  ·rintro ρ M3 ⟨⟨B,G,rfl⟩,g3,e3⟩;dsimp only;nofun;refine hF _ _ ⟨pl,_,_,_,_,rfl,g1.trans g3,fv,?_⟩;rw[e3,q7];rfl
 ·rintro ρ O ⟨pr,o3,o4,B,G,rfl,g1,n1,J⟩;dsimp only;nofun;rw[Jb]at J;exact q pr O g1 n1 J
theorem lU(T:List (List Int)):cD (T.map rD)=T.zipIdx.map λp=>.tup [.int (p.2:Nat),rD p.1]:=by
 unfold cD;apply Lo;intro i;rw[Mw,Jj,Jj,Lh]
 cases T[i]?<;>simp
theorem qU{P n:Nat}{S:List (Nat->Int)}{l r:List (List Int×Nat)}{x:List Int×Nat}(e:T.zipIdx=l++x::r):x.2=l.length/\T[l.length]?=Z x.1/\l.map (·.1)++[x.1]=(l++[x]).map (·.1):=by
 have j:T.zipIdx[l.length]?=Z x:=by rw[e];simp
 rw[Lh]at j;obtain⟨z,q,j⟩:=Mb.mp j;refine⟨by rw[<-j];simp,by rw[q,<-j],by simp⟩
def Ip(P n:Nat)(T:List (List Int))(ix:List Nat):Prop:=∀(k i:Nat),ix[k]?=Z i->¬Sp P n ((ix.take k).map λi=>gf (tat T i)) (gf (tat T i))
theorem Ip.snoc{n:Nat}(h:Ip P n T ix)(q:¬Sp P n (ix.map λi=>gf (tat T i)) (gf (tat T i))):Ip P n T (ix++[i]):=by
 intro k j e
 by_cases z:k<ix.length
 ·rw[J1 z]at e;rw[OD ∅]
  exact h k j e
 ·rw[IX ∅]at e
  have B:k-ix.length=0:=by have:=(J0.mp e).1;simp at this;lia
  rw[B]at e;have:i=j:=by simpa using e
  subst this;rw[show k=ix.length by lia,QP]
  exact q
theorem t9{k:Nat}(hk:3<=k){n:Nat}(hB:Bd P n){space:List (Nat×List Int)}(hS:Bs P n S space)(hT:∀t∈T,Vr P n t)(GN:T.length<=1000000){ps pt:Ub}(es:M ps=Z (.lst (space.map eD)))(et:M pt=Z (.lst (T.map rD)))(q:∀pc pb (ix:List Nat) (base:List (Nat×List Int)) M',chS P n S T=ix.map (λi=>gf (tat T i))->(∀i∈ix,i<T.length)->Ip P n T ix->Bs P n (chS P n S T) base->M' pc=Z (.lst (ix.map λi:Nat=>D.int ((i:Nat):Int)))->M' pb=Z (.lst (base.map eD))->Ge M M'->Q (.tup [.ref pc,.ref pb]) M'):phi tab k 12 [.ref ps,.ref pt,.int P] M Q:=by
 have hP:=hB.p;have GO:=hB.n;have GP:0<P:=∅
 refine al ∅ rfl rfl (ρ:=[Z _,Z _,Z _,Y,Y,Y,Y]) rfl ?_
 unfold d12 L2.Mi.K43.b12;nofun;refine⟨by rw[r4];lia,λpc GC=>⟨by rw[r4];lia,λpb U=>?_⟩⟩
 have g1:=Ge.new (o:=.lst []) GC;have e1:=aa (M:=M) (a:=pc) (o:=.lst []);generalize ah M pc (.lst [])=M1 at g1 e1 U⊢;have L:pb≠pc:=λz=>by rw[z,e1]at U;cases U
 have g2:=Ge.new (o:=.lst []) U;have f1:=aa (M:=M1) (a:=pb) (o:=.lst []);have e1:=g2 _ _ e1;have GM:=aP g1 U;generalize ah M1 pb (.lst [])=M2 at g2 e1 f1⊢;have g2:=g1.trans g2;nofun;refine⟨_,ab (g2 _ _ et),?_⟩;rw[lU];refine ao (f:=λp:List Int×Nat=>.tup [.int (p.2:Nat),rD p.1]) (ys:=T.zipIdx) (I:=λl ρ M'=>Ge M M'/\∃(pb:Ub) (ix:List Nat) (base:List (Nat×List Int)),(∃o5 o6,ρ=[Z (.ref ps),Z (.ref pt),Z (.int P),Z (.ref pc),Z (.ref pb),o5,o6])/\pb≠pc/\M' pc=Z (.lst (ix.map λi:Nat=>D.int ((i:Nat):Int)))/\M' pb=Z (.lst (base.map eD))/\chS P n S (l.map (·.1))=ix.map (λi=>gf (tat T i))/\(∀i∈ix,i<T.length)/\Ip P n T ix/\Bs P n (chS P n S (l.map (·.1))) base/\Fs base/\ix.length<=l.length) rfl ⟨g2,pb,[],[],⟨_,_,rfl⟩,L,e1,f1,rfl,by simp,(λk i h=>by simp at h),Bs.init,(λe he=>by cases he),J6 _⟩ (λ_ _ _ h=>ab (h.1 _ _ et)) ?_ ?_
 ·rintro l x r ρ M3 es3 ⟨g3,pb,ix,base,⟨o5,o6,rfl⟩,L,e3,f3,G,F2,fv,hb,hf,GG⟩;refine⟨_,rfl,λF hF=>?_⟩;have GH:=ag es3;rw[Mk]at GH;obtain⟨GD,GE,B⟩:=qU (P:=P) (n:=n) (S:=S) es3;have GB:=hT _ (Jh GE);have GA:tat T l.length=x.1:=by unfold tat;rw[Jo,GE];rfl
  have GQ:base.length<=12:=by have:=hb.le;rw[hb.len];lia
  nofun;refine pF ∅ hP ∅ hS GB (g3 _ _ es) λc1 M4 O g4=>?_
  refine⟨_,rfl,?_⟩
  cases c1 with
  |false=>
   rw[if_neg (by decide)]
   refine hF _ _ ⟨g3.trans g4,pb,ix,base,⟨_,_,rfl⟩,L,g4 _ _ e3,g4 _ _ f3,?_,F2,fv,?_,hf,by rw[q7];lia⟩
   ·rw[<-B,fq (λh=>by have:=O.mpr h.1;cases this)];exact G
   ·rw[<-B,fq (λh=>by have:=O.mpr h.1;cases this)];exact hb
  |true=>
   have O:=O.mp rfl;rw[if_pos rfl];refine pF ∅ hP ∅ hb GB (g4 _ _ f3) λc2 M5 j g5=>?_
   have J:=g4.trans g5;refine⟨_,rfl,?_⟩
   cases c2 with
   |true=>
    have j:=j.mp rfl;rw[if_neg (by decide)]
    refine hF _ _ ⟨g3.trans J,pb,ix,base,⟨_,_,rfl⟩,L,J _ _ e3,J _ _ f3,?_,F2,fv,?_,hf,by rw[q7];lia⟩
    ·rw[<-B,fq (λh=>h.2 j)];exact G
    ·rw[<-B,fq (λh=>h.2 j)];exact hb
   |false=>
    have j:¬Sp P n (chS P n S (l.map (·.1))) (gf x.1):=λh=>by have:=j.mpr h;cases this
    rw[if_pos (by decide)]
    nofun;refine⟨⟨_,J _ _ e3⟩,pc,_,_,rfl,rfl,J _ _ e3,by rw[h7,r4];lia,?_⟩
    have g6:=(g3.trans J).upd (o:=.lst ((ix.map λi:Nat=>D.int ((i:Nat):Int))++[.int (x.2:Nat)])) GC;have e6:=aa (M:=M5) (a:=pc) (o:=.lst ((ix.map λi:Nat=>D.int ((i:Nat):Int))++[.int (x.2:Nat)]));have f6:=(au (M:=M5) (o:=.lst ((ix.map λi:Nat=>D.int ((i:Nat):Int))++[.int (x.2:Nat)])) L).trans (J _ _ f3);generalize ah M5 pc (.lst ((ix.map λi:Nat=>D.int ((i:Nat):Int))++[.int (x.2:Nat)]))=M6 at g6 e6 f6⊢;nofun;refine⟨by rw[r4];lia,λp7 GI=>?_⟩
    have g7:=Ge.new (o:=.lst [rD x.1]) GI;have e7:=aa (M:=M6) (a:=p7) (o:=.lst [rD x.1]);generalize ah M6 p7 (.lst [rD x.1])=M7 at g7 e7⊢;refine fV ∅ hP ∅ hb hf ∅ (ts:=[x.1]) (by simp) (by simpa using GB) (g7 _ _ f6) e7 λc base' M8 GF GJ nc e8 g8=>?_
    have GK:c≠pc:=λz=>by rw[z,g7 _ _ e6]at nc;cases nc
    have e6:=g8 _ _ (g7 _ _ e6);have GL:chF P n (chS P n S (l.map (·.1))) [x.1]=chS P n S ((l++[x]).map (·.1)):=by rw[bH j,fg,<-B,kE O j]
    rw[GL]at GF;refine hF _ _ ⟨g6.trans (g7.trans g8),c,ix++[x.2],base',⟨_,_,rfl⟩,GK,by rw[e6,Jc];rfl,e8,?_,?_,fv.snoc (by rw[<-G,GD,GA];exact j),GF,GJ,by rw[q7,q7];simp;lia⟩
    ·rw[<-B,kE O j,G,Jc,Jr,Kx,GD,GA]
    ·intro i hi
     rcases Ja.mp hi with hi|hi
     ·exact F2 i hi
     ·rw[JE.mp hi];lia
 ·rintro ρ M3 ⟨g3,pb,ix,base,⟨o5,o6,rfl⟩,L,e3,f3,G,F2,fv,hb,hf,GG⟩;dsimp only;nofun;have hm:T.zipIdx.map (·.1)=T:=by simp
  rw[hm]at G hb;exact⟨by rw[r4];lia,q _ _ _ _ _ G F2 fv hb e3 f3 g3⟩
theorem CA(h:i<L):(IY L (0:Int)).set i 1=ul L i:=by
 unfold ul;rw[List.set_eq_take_append_cons_drop,if_pos (by simpa using h)]
 simp;lia
theorem vK{n:Nat}(F2:1<=n)(fv:L<=100)(hi:i<L)(q:∀p M',Ge M M'->M p=Y->M' p=Z (.lst ((ul L i).map .int))->Q (.ref p) M'):phi tab n 0 [.int L,.int i] M Q:=by
 refine al ∅ rfl rfl (ρ:=[Z _,Z _,Y]) rfl ?_
 unfold d0 L2.Mi.K43.b0;nofun;refine⟨by rw[r4];lia,λG B=>?_⟩
 refine⟨_,aa,∅,∅,by rw[r4];simp;lia,λF z=>?_⟩
 rw[Jd,fQ];have J:=Ge.new (o:=.lst [.int 0]) B;have g1:=J.trans (Ge.new (o:=.lst ((IY L (0:Int)).map D.int)) z);have O:=aa (M:=ah M G (.lst [.int 0])) (a:=F) (o:=.lst ((IY L (0:Int)).map D.int));have U:=aP J z;generalize ah (ah M G (.lst [.int 0])) F _=M1 at g1 O⊢;nofun;refine bC O (j:=i) (by rw[h7,Ly];exact yO hi) ?_
 nofun;refine q F _ (g1.upd U) U ?_;rw[aa,<-CA hi,List.map_set]
noncomputable def mkd(cs:List (List Int))(m i:Nat):List Int:=tat cs i++ul m i
variable{cs:List (List Int)}
theorem CB{n:Nat}(j:P=2∨P=3)(q:∀t∈cs,Vr P n t)(hi:i<cs.length)(hm:i<m):Vr P (n+m) (mkd cs m i):=by
 have h1:=eC q hi;have h2:=t7 (P:=P) j hm;refine⟨by unfold mkd;rw[q7,h1.len,h2.len],λx hx=>?_⟩
 rcases Ja.mp hx with hx|hx
 ·exact h1.inn x hx
 ·exact h2.inn x hx
theorem qV{a b:List Int}{x:Nat}(h:x<a.length):gf (a++b) x=gf a x:=by
 have e:=aO (v:=a++b) (x:=x) (by rw[q7];lia)
 rw[J1 h,aO h]at e;exact(JO.inj e).symm
theorem qW{a b:List Int}{x:Nat}(h:x<b.length):gf (a++b) (a.length+x)=gf b x:=by
 have e:=aO (v:=a++b) (x:=a.length+x) (by rw[q7];lia)
 rw[IX ∅,show a.length+x-a.length=x by lia,aO h]at e
 exact(JO.inj e).symm
theorem AE{a:List Int}{n x:Nat}(h:n+x<a.length):gf (a.drop n) x=gf a (n+x):=by
 have e:=aO (v:=a.drop n) (x:=x) (by rw[Lg];lia)
 rw[N3,aO h]at e;exact(JO.inj e).symm
structure RS(qs:List Ub)(rows:List (List Int))(M:Mem):Prop where
 len:qs.length=rows.length
 at':∀(k:Nat) q v,qs[k]?=Z q->rows[k]?=Z v->M q=Z (.lst (v.map .int))
variable{rows:List (List Int)}
theorem RS.ge(h:RS qs rows M)(g:Ge M M'):RS qs rows M':=⟨h.len,λk q v a b=>g _ _ (h.at' k q v a b)⟩
theorem RS.snoc(h:RS qs rows M){q:Ub}(e:M q=Z (.lst (v.map .int))):RS (qs++[q]) (rows++[v]) M:=by
 refine⟨by rw[q7,q7,h.len];rfl,λk q' v' a b=>?_⟩
 by_cases hk:k<qs.length
 ·rw[J1 hk]at a;rw[J1 (by rw[<-h.len];exact hk)]at b
  exact h.at' k q' v' a b
 ·rw[IX ∅]at a
  rw[IX (by rw[<-h.len];lia)]at b
  have j:k-qs.length=0:=by have:=(J0.mp a).1;simp at this;lia
  rw[j]at a;rw[<-h.len,j]at b
  cases a;cases b;exact e
theorem yb{ds:List D}{n:Nat}(h:n<=ds.length)(q:Q (.tup (ds.drop n)) M):cC (.tup ds) (Z (n:Int)) Y M Q:=by
 show Q (.tup (dW ds _ _)) M;unfold dW;rw[HT.sIx_none,HT.sIx_nat,Ms h,KI (by simp)]
 exact q
noncomputable def shr(P n:Nat)(base:List (Nat×List Int))(m:Nat)(t:List Int):List Int:=((wo P base (t++IY m 0)).drop n).map λx=>-x%P
theorem vL{k:Nat}(hk:3<=k){n:Nat}(hB:Bd P n){Ts:List (List Int)}(hT:∀t∈Ts,Vr P n t)(GI:1<=Ts.length/\Ts.length<=10)(hc:∀t∈cs,Vr P n t)(GJ:cs.length<=12){pt pc:Ub}(et:M pt=Z (.lst (Ts.map rD)))(ec:M pc=Z (.lst (cs.map rD)))(q:∀po qs base M',Bs P (n+cs.length) (chF P (n+cs.length) [] ((J2 cs.length).map (mkd cs cs.length))) base->Fs base->RS qs (Ts.map (shr P n base cs.length)) M'->M' po=Z (.lst (qs.map .ref))->Ge M M'->Q (.ref po) M'):phi tab k 13 [.ref pt,.ref pc,.int P] M Q:=by
 have hP:=hB.p;have GK:=hB.n;have z:0<P:=∅
 refine al ∅ rfl rfl (ρ:=[Z _,Z _,Z _,Y,Y,Y,Y]) rfl ?_
 unfold d13 L2.Mi.K43.b13;nofun;refine⟨_,_,rfl,ba (ab ec),?_⟩;refine aK et (d:=rD (tat Ts 0)) (bx (k:=0) (by rw[Jj,eB ∅];rfl)) ?_
 have fv:=(eC hT (show 0<Ts.length by lia)).len
 refine⟨_,_,rfl,ba rfl,?_⟩;rw[h7,h7,fv];refine⟨by rw[r4];lia,?_⟩
 nofun;refine⟨_,ab ec,?_⟩;rw[lU];refine ak (f:=λp:List Int×Nat=>.tup [.int (p.2:Nat),rD p.1]) (ys:=cs.zipIdx) (I:=λl ρ M' acc=>(∃o0 o1,ρ=[o0,o1,Z (.int cs.length)])/\Ge M M'/\acc=((J2 l.length).map (mkd cs cs.length)).map rD) rfl ⟨⟨_,_,rfl⟩,Ge.refl,rfl⟩ (λ_ _ _ _ h=>ab (h.2.1 _ _ ec)) ?_ ?_
 ·rintro l x r ρ M1 acc e ⟨⟨o0,o1,rfl⟩,g1,rfl⟩;refine⟨_,rfl,λN hN=>?_⟩;have j:=ag e;rw[Mk]at j;obtain⟨GA,B,_⟩:=qU (P:=P) (n:=n) (S:=[]) e;have GB:=(hc _ (Jh B)).len;have F:tat cs l.length=x.1:=by unfold tat;rw[Jo,B];rfl
  ac_nf;rw[GA];refine vK ∅ ∅ j λp2 M2 g2 n2 L=>⟨_,_,rfl,ab L,?_⟩
  ac_nf;refine⟨.inr trivial,by rw[h7,h7,GB,fu j,r4];lia,by rw[h7,h7,Jb,r4];lia,hN _ _ _ ⟨⟨_,_,rfl⟩,g1.trans g2,?_⟩⟩
  rw[q7,JC,Nb,Jc,Jc];show _=_++[rD (mkd cs cs.length l.length)];unfold mkd;rw[F,<-Jc]
 ·rintro ρ M1 acc ⟨⟨o0,o1,rfl⟩,g1,rfl⟩ pm hpm;rw[Mk];have g2:=g1.trans (Ge.new (o:=.lst (((J2 cs.length).map (mkd cs cs.length)).map rD)) hpm);have L:=aa (M:=M1) (a:=pm) (o:=.lst (((J2 cs.length).map (mkd cs cs.length)).map rD));generalize ah M1 pm _=M2 at g2 L⊢;nofun;refine⟨by rw[r4];lia,λp3 GC=>?_⟩
  have g3:=Ge.new (o:=.lst []) GC;have e3:=aa (M:=M2) (a:=p3) (o:=.lst []);generalize ah M2 p3 (.lst [])=M3 at g3 e3⊢;refine fV ∅ hP (n:=n+cs.length) ∅ Bs.init (λe he=>by cases he) (by simp) (ts:=(J2 cs.length).map (mkd cs cs.length)) (by simp;lia) (λt ht=>?_) e3 (g3 _ _ L) λpb base M4 O hf nb e4 g4=>?_
  ·obtain⟨i,hi,rfl⟩:=J8.mp ht;have hi:=K2.mp hi;exact CB hP hc hi hi
  have gA:=g2.trans (g3.trans g4);have G:=gA _ _ et;nofun;refine⟨_,ab G,?_⟩;refine ak (f:=rD) (ys:=Ts) (I:=λl ρ M' acc=>(∃o0,ρ=[o0,Z (.int cs.length),Z (.ref pb),Z (.int P),Z (.int n)])/\Ge M4 M'/\∃qs,acc=qs.map .ref/\RS qs (l.map (shr P n base cs.length)) M') rfl ⟨⟨_,rfl⟩,Ge.refl,[],rfl,rfl,λk q v h=>by simp at h⟩ (λ_ _ _ _ h=>ab (h.2.1 _ _ G)) ?_ ?_
  ·rintro l t r ρ M5 acc e5 ⟨⟨o0,rfl⟩,U,qs,rfl,F2⟩;refine⟨_,rfl,λN hN=>?_⟩;have j:=ag e5;have J:=hT t (by rw[e5];simp)
   have GD:=J.len;have h0:Vr P (n+cs.length) (t++IY cs.length 0):=⟨by simp[GD],λx hx=>by
    rcases Ja.mp hx with hx|hx
    ·exact J.inn x hx
    ·rw[K6 hx];lia⟩
   have hw:=dB z O.vr h0;have GE:=F2.len;rw[h7]at GE;ac_nf;refine⟨by rw[r4];lia,∅,∅,by rw[r4];simp;lia,.inr trivial,?_⟩
   rw[Jd,fQ,<-Jc];refine⟨by rw[h7,h7,Ly,r4];lia,?_⟩
   refine fU ∅ ⟨z,∅⟩ (n:=n+cs.length) ∅ O.vr (λe he=>(O.pl e he).1) h0 (U _ _ e4) λM6 g6=>?_
   have GF:=hw.len;refine yb (by rw[h7,GF];lia) ?_
   rw[<-List.map_drop];refine⟨_,rfl,?_⟩;refine ak (f:=D.int) (ys:=(wo P base (t++IY cs.length 0)).drop n) (I:=λl2 ρ M' acc=>(∃o0,ρ=[o0,Z (.int P)])/\M'=M6/\acc=(l2.map λx:Int=>-x%(P:Int)).map .int) rfl ⟨⟨_,rfl⟩,rfl,rfl⟩ (λ_ _ _ _ _=>by first|rfl|trivial) ?_ ?_
   ·rintro l2 x r2 ρ M7 acc e7 ⟨⟨o0,rfl⟩,rfl,rfl⟩;refine⟨_,rfl,λN2 GG=>?_⟩;have GH:=ag e7;rw[Lg]at GH;ac_nf;refine⟨∅,by rw[h7,h7,r4];lia,GG _ _ _ ⟨⟨_,rfl⟩,rfl,by simp⟩⟩
   ·rintro ρ M7 acc ⟨⟨o0,rfl⟩,rfl,rfl⟩ p8 hp8;have g8:=Ge.new (o:=.lst ((((wo P base (t++IY cs.length 0)).drop n).map λx:Int=>-x%(P:Int)).map .int)) hp8;refine⟨by rw[h7,r4];lia,hN _ _ _ ⟨⟨_,rfl⟩,U.trans (g6.trans g8),qs++[p8],by simp,?_⟩⟩
    rw[Jc,Jr,Kx];exact(F2.ge (g6.trans g8)).snoc aa
  ·rintro ρ M5 acc ⟨⟨o0,rfl⟩,U,qs,rfl,F2⟩ po hpo;exact q po qs base _ O hf (F2.ge (Ge.new hpo)) aa (gA.trans (U.trans (Ge.new hpo)))
theorem gE{cs:List (List Int)}:∀{k:Nat},k<=cs.length->(J2 k).map (λi=>gf (tat cs i))=(cs.take k).map gf
 |0,_=>by simp
 |k+1,h=>by rw[Nb,Jc,gE ∅,Ln,eB ∅,Jc];rfl
theorem CC{n:Nat}(hP:P=2∨P=3)(hc:∀t∈cs,Vr P n t)(hi:∀k,k<cs.length->¬Sp P n ((cs.take k).map gf) (gf (tat cs k)))(L:Bs P (n+cs.length) (chF P (n+cs.length) [] ((J2 cs.length).map (mkd cs cs.length))) base)(hf:Fs base){t:List Int}(G:Vr P n t)(hs:Sp P n (cs.map gf) (gf t)):
 (shr P n base cs.length t).length=cs.length/\(∀x∈shr P n base cs.length t,0<=x/\x<P)/\∀x,x<n->(P:Int) ∣ gf t x-cm (λi=>gf (tat cs i)) (λi=>gf (shr P n base cs.length t) i) cs.length x:=by
 have O:0<P:=∅
 have h0:Vr P (n+cs.length) (t++IY cs.length 0):=⟨by simp[G.len],λx hx=>by
  rcases Ja.mp hx with hx|hx
  ·exact G.inn x hx
  ·rw[K6 hx];lia⟩
 have hw:=(dB O L.vr h0).len;have hl:(shr P n base cs.length t).length=cs.length:=by unfold shr;rw[h7,Lg,hw];lia
 refine⟨hl,λx hx=>?_,?_⟩
 ·obtain⟨y,_,rfl⟩:=J8.mp hx;exact⟨KL _ ∅,Kb _ ∅⟩
 have h1:∀i x,i<cs.length->x<n->gf (mkd cs cs.length i) x=gf (tat cs i) x:=λi x hi hx=>qV (by rw[(eC hc hi).len];exact hx)
 have h2:∀i j,i<cs.length->j<cs.length->gf (mkd cs cs.length i) (n+j)=if j=i then 1 else 0:=λi j hi J=>by
  have e:=qW (a:=tat cs i) (b:=ul cs.length i) (x:=j) (by rw[fu hi];exact J)
  rw[(eC hc hi).len]at e;rw[<-t8 hi J];exact e
 have q:∀k,k<cs.length->¬Sp P n ((J2 k).map λi=>gf (tat cs i)) (gf (tat cs k)):=λk hk=>by rw[gE ∅];exact hi k hk
 have B:∀k,k<=cs.length->chF P (n+cs.length) [] ((J2 k).map (mkd cs cs.length))=(J2 k).map λi=>gf (mkd cs cs.length i):=by
  intro k
  induction k with
  |zero=>intro _;rfl
  |succ k ih=>
   intro hk;rw[Nb,Jc,Jr,Kx,cO,ih ∅,Jc]
   ·rfl
   ·rw[ih ∅]
    intro z;apply q k ∅
    obtain⟨c,U⟩:=sp_cm.mp (z.less (show n<=n+cs.length by lia))
    refine sp_cm.mpr ⟨c,λx hx=>?_⟩;have:=U x hx
    rwa[h1 k x ∅ hx,eA (g':=λi=>gf (tat cs i)) (c':=c) λi F2=>by rw[h1 i x ∅ hx]]at this
 rw[B cs.length (J6 _)]at L;have fv:Sp P n ((J2 cs.length).map λi=>gf (tat cs i)) (gf t):=by rw[gE (J6 _),Q2];exact hs
 intro x hx;have:=DP (g:=λi=>gf (tat cs i)) (mk:=λi=>gf (mkd cs cs.length i)) hP q h1 h2 L hf (t:=t) h0 (λx hx=>qV (by rw[G.len];exact hx)) (λj J=>by
  have e:=qW (a:=t) (b:=IY cs.length 0) (x:=j) (by simpa using J)
  rw[G.len,dM]at e;exact e) fv x hx
 rwa[eA (g':=λi=>gf (tat cs i)) (c':=λi=>gf (shr P n base cs.length t) i) λi F2=>by congr 1;unfold shr;rw[oU (F:=λx=>-x%(P:Int)) (by rw[Lg,hw];lia),AE (by rw[hw];lia)]]at this
variable{xs:List (List Int×List Int)}
theorem kF{k f:Nat}(hx:∀x∈xs,Vr P L x.1/\Vr P R x.2)(F:xs.length<=1000000)(hf:∀(x:List Int×List Int) (M:Mem) (Q:QD),Vr P L x.1->Vr P R x.2->(∀M',Ge M M'->Q (rD (tbl P x)) M')->phi tab k f [p2D x,.int P] M Q){chk:Mem->Prop}(z:∀M',Ge M M'->chk M')(q:∀ρ M',Ge M M'->N ρ M' ((xs.map (tbl P)).map rD)):
 bf (be 0) (bJ (wAr (phi tab k f) (aN (aY 0) (aN (aY 1) bF)))) chk N (xs.map p2D) [Y,Z (.int P)] M []:=by
 refine ak (f:=p2D) (ys:=xs) (I:=λl ρ M' acc=>(∃o0,ρ=[o0,Z (.int P)])/\Ge M M'/\acc=(l.map (tbl P)).map rD) rfl ⟨⟨_,rfl⟩,Ge.refl,rfl⟩ (λ_ _ _ _ h=>z _ h.2.1) ?_ ?_
 ·rintro l x r ρ M1 acc e ⟨⟨o0,rfl⟩,g1,rfl⟩;refine⟨_,rfl,λN' j=>?_⟩;have B:=ag e;obtain⟨h1,h2⟩:=hx x (by rw[e];simp)
  ac_nf;refine hf x _ _ h1 h2 λM2 g2=>⟨by rw[h7,h7,r4];lia,j _ _ _ ⟨⟨_,rfl⟩,g1.trans g2,by simp⟩⟩
 ·rintro ρ M1 acc ⟨⟨o0,rfl⟩,g1,rfl⟩;exact q _ _ g1
theorem jP(z:P=2∨P=3)(j:L<=6)(q:R<=6):(prs P L R).length<=1000000:=K0 (AA ∅ j q) (by decide)
theorem vM{k:Nat}(hk:4<=k)(F2:Bd P (L*R))(z:L<=6)(B:R<=6)(hm:many<=10)(fv:∀t∈ts,TI' L R many t){p:Ub}(hp:M p=Z (.lst (ts.map tmD)))(q:∀pp pt po own M',Bs P (L*R) (chF P (L*R) [] (tbs P (L*R) R many ts)) own->Fs own->M' pp=Z (.lst ((prs P L R).map p2D))->M' pt=Z (.lst ((aw P L R).map rD))->M' po=Z (.lst (own.map eD))->Ge M M'->Q (.tup [.ref pp,.ref pt,.ref po]) M'):phi tab k 15 [.tup [.int L,.int R,.int many,.ref p],.int P] M Q:=by
 have F:=F2.p;have GA:=F2.n;refine al ∅ rfl rfl (ρ:=[Z _,Z _,Y]) rfl ?_
 unfold d15 L2.Mi.K43.b15;nofun;refine⟨_,rfl,_,rfl,?_⟩;refine xY ∅ ∅ z B λpp M1 g1 n1 G=>?_
 nofun;refine⟨_,ab G,?_⟩;refine kF (L:=L) (R:=R) (λx hx=>gD hx) (jP F z B) (λx M Q h1 h2 q=>lQ ∅ F z B h1 h2 q) (λM' g=>ab (g _ _ G)) λρ M2 g2 pt hpt=>?_
 have g3:=g2.trans (Ge.new (o:=.lst (((prs P L R).map (tbl P)).map rD)) hpt);have e3:=aa (M:=M2) (a:=pt) (o:=.lst (((prs P L R).map (tbl P)).map rD));have hb:=cq (P:=P) ∅ fv
 generalize ah M2 pt (.lst (((prs P L R).map (tbl P)).map rD))=M3 at g3 e3⊢;have J:=g3 _ _ G;have g3:=g1.trans g3;refine⟨by rw[r4];lia,λpe O=>?_⟩
 have U:=Ge.new (o:=.lst []) O;have e4:=aa (M:=M3) (a:=pe) (o:=.lst []);generalize ah M3 pe (.lst [])=M4 at U e4⊢;refine lM ∅ ⟨∅,∅⟩ z B hm fv (U _ _ (g3 _ _ hp)) λp5 M5 g5 n5 e5=>?_
 refine fV ∅ F ∅ Bs.init (λe he=>by cases he) (by simp) (by rw[hb.1];lia) hb.2 (g5 _ _ e4) e5 λpo own M6 ho hf no e6 g6=>?_
 have j:=U.trans (g5.trans g6);exact⟨by rw[r4];lia,q _ _ _ _ _ ho hf (j _ _ J) (j _ _ e3) e6 (g3.trans j)⟩
theorem qX{n:Nat}(q:0<P)(z:∀e∈base,Vr P (n+m) e.2){t:List Int}(j:Vr P n t):(shr P n base m t).length=m:=by
 have h0:Vr P (n+m) (t++IY m 0):=⟨by simp[j.len],λx hx=>by
  rcases Ja.mp hx with hx|hx
  ·exact j.inn x hx
  ·rw[K6 hx];lia⟩
 unfold shr;rw[h7,Lg,(dB q z h0).len];lia
theorem AF(hm:i<m)(B:∀v∈rows,v.length=m)(O:rows.length<=1000)(h:RS qs rows M){chk:Mem->Prop}(L:chk M)(q:∀ρ,N ρ M ((rows.map λrow=>gf row i).map .int)):
 bf (be 0) (bJ (wOp wIx (aY 0) (aY 1))) chk N (qs.map .ref) [Y,Z (.int (i:Nat))] M []:=by
 refine ak (f:=D.ref) (ys:=qs) (I:=λl ρ M' acc=>(∃o0,ρ=[o0,Z (.int (i:Nat))])/\M'=M/\acc=((rows.take l.length).map λrow=>gf row i).map .int) rfl ⟨⟨_,rfl⟩,rfl,rfl⟩ (λ_ _ _ _ h=>by rw[h.2.1];exact L) ?_ ?_
 ·rintro l x r ρ M1 acc e ⟨⟨o0,rfl⟩,rfl,rfl⟩;refine⟨_,rfl,λN' F=>?_⟩;have G:=ag e;have hx:qs[l.length]?=Z x:=by rw[e];simp
  have j:l.length<rows.length:=by rw[<-h.len];exact G
  have J:rows[l.length]?=Z rows[l.length]:=z4 j;have ex:=h.at' _ _ _ hx J;have z:=B _ (KO j);ac_nf;refine aK ex (d:=.int (gf rows[l.length] i)) (bx (by rw[Jj,aO (by rw[z];exact hm)];rfl)) ⟨by rw[h7,h7,JG,r4];lia,F _ _ _ ⟨⟨_,rfl⟩,rfl,?_⟩⟩
  rw[q7,JC,Ln,J,Jc,Jc];rfl
 ·rintro ρ M1 acc ⟨⟨o0,rfl⟩,rfl,rfl⟩;rw[KI (by rw[h.len];exact J6 _)]
  exact q _
noncomputable def pat(xs:List (List Int×List Int))(i:Nat):List Int×List Int:=xs.getD i ([],[])
theorem cG(h:i<xs.length):xs[i]?=Z (pat xs i):=by unfold pat;rw[Jo,z4 h];rfl
noncomputable def mkP(xs:List (List Int×List Int))(rows:List (List Int))(i:Nat):Pr:=((pat xs i).1,(pat xs i).2,rows.map λrow=>gf row i)
noncomputable def kG(xs:List (List Int×List Int))(rows:List (List Int)):List Pr:=(J2 xs.length).map (mkP xs rows)
theorem yc(xs:List (List Int×List Int)):cD (xs.map p2D)=xs.zipIdx.map λp=>.tup [.int (p.2:Nat),p2D p.1]:=by
 unfold cD;apply Lo;intro i;rw[Mw,Jj,Jj,Lh]
 cases xs[i]?<;>simp
theorem pJ{k:Nat}(hk:5<=k)(hB:Bd P (L*R))(hL:L<=6)(hR:R<=6)(hm:1<=many/\many<=10)(ht:∀t∈ts,TI' L R many t)(hx:∀x∈xs,Vr P L x.1/\Vr P R x.2)(GA:xs.length<=12){p pp:Ub}(hp:M p=Z (.lst (ts.map tmD)))(U:M pp=Z (.lst (xs.map p2D)))(q:∀pr base M',Bs P (L*R+xs.length) (chF P (L*R+xs.length) [] ((J2 xs.length).map (mkd (xs.map (tbl P)) xs.length))) base->Fs base->M' pr=Z (.lst ((kG xs ((tbs P (L*R) R many ts).map (shr P (L*R) base xs.length))).map prD))->Ge M M'->Q (.tup [.int L,.int R,.int many,.ref pr]) M'):phi tab k 14 [.tup [.int L,.int R,.int many,.ref p],.ref pp,.int P] M Q:=by
 have hP:=hB.p;have GH:=hB.n;have B:0<P:=∅
 refine al ∅ rfl rfl (ρ:=[Z _,Z _,Z _,Y,Y,Y,Y,Y]) rfl ?_
 unfold d14 L2.Mi.K43.b14;nofun;nofun;refine lM ∅ ⟨∅,∅⟩ hL hR hm.2 ht hp λp1 M1 g1 n1 e1=>?_
 have j:=g1 _ _ U;refine⟨_,ab j,?_⟩;refine kF (L:=L) (R:=R) hx ∅ (λx M Q h1 h2 q=>lQ ∅ hP hL hR h1 h2 q) (λM' g=>ab (g _ _ j)) λρ M2 g2 pt hpt=>?_
 have g3:=g2.trans (Ge.new (o:=.lst ((xs.map (tbl P)).map rD)) hpt);have e3:=aa (M:=M2) (a:=pt) (o:=.lst ((xs.map (tbl P)).map rD));generalize ah M2 pt (.lst ((xs.map (tbl P)).map rD))=M3 at g3 e3⊢;have F2:=cq (P:=P) B ht;have fv:(xs.map (tbl P)).length=xs.length:=by simp
 refine vL ∅ hB F2.2 (by rw[F2.1];exact hm) (λt h=>?_) (by rw[fv];exact GA) (g3 _ _ e1) e3 λpo qs base M4 F GB G e4 g4=>?_
 ·obtain⟨x,h',rfl⟩:=J8.mp h;exact pH B (hx x h').1.len (hx x h').2.len
 rw[fv]at F G;have gA:=g1.trans (g3.trans g4);have GC:=G.len;rw[h7,F2.1]at GC;have z:=gA _ _ U;nofun;refine⟨_,ab z,?_⟩;rw[yc];refine ak (f:=λp:(List Int×List Int)×Nat=>.tup [.int (p.2:Nat),p2D p.1]) (ys:=xs.zipIdx) (I:=λl ρ M' acc=>(∃o0 o1 o2,ρ=[o0,o1,o2,Z (.ref po)])/\Ge M4 M'/\acc=((J2 l.length).map (mkP xs ((tbs P (L*R) R many ts).map (shr P (L*R) base xs.length)))).map prD) rfl ⟨⟨_,_,_,rfl⟩,Ge.refl,rfl⟩ (λ_ _ _ _ h=>ab (h.2.1 _ _ z)) ?_ ?_
 ·rintro l x r ρ M5 acc e5 ⟨⟨o0,o1,o2,rfl⟩,O,rfl⟩;refine⟨_,rfl,λN hN=>?_⟩;have J:=ag e5;rw[Mk]at J;have ex:xs.zipIdx[l.length]?=Z x:=by rw[e5];simp
  rw[Lh,cG J]at ex;have ex:=JO.inj ex;have GD:x.2=l.length:=by rw[<-ex];simp
  have GE:pat xs l.length=x.1:=by rw[<-ex]
  ac_nf;refine⟨_,ab (O _ _ e4),?_⟩;rw[GD];refine AF (m:=xs.length) J (λv hv=>?_) (by rw[h7,F2.1];lia) (G.ge O) (ab (O _ _ e4)) λρ p6 hp6=>⟨_,_,rfl,ab aa,?_⟩
  ·obtain⟨t,GF,rfl⟩:=J8.mp hv;exact qX B F.vr (F2.2 t GF)
  refine⟨by rw[r4];lia,by rw[h7,h7,Jb,r4];lia,hN _ _ _ ⟨⟨_,_,_,rfl⟩,O.trans (Ge.new hp6),?_⟩⟩
  rw[q7,JC,Nb,Jc,Jc,Jr,Kx,Jr,Kx];unfold mkP prD;rw[GE]
 ·rintro ρ M5 acc ⟨⟨o0,o1,o2,rfl⟩,O,rfl⟩ pr GG;rw[Mk];exact⟨by rw[r4];lia,q pr base _ F GB aa (gA.trans (O.trans (Ge.new GG)))⟩
noncomputable def Sx(P n:Nat)(A:List (Nat->Int))(T:List (List Int))(ix:List Nat):List (Nat->Int):=chF P n A (ix.map (tat T))
def Cx'(P n:Nat)(A:List (Nat->Int))(T:List (List Int))(ix:List Nat):Prop:=(chS P n (Sx P n A T ix) T).length=(Sx P n A T ix).length
def Pre(P n:Nat)(A:List (Nat->Int))(T:List (List Int))(e:Nat):Prop:=∀e',e'<e->bn T.length e'<=3000/\∀ix∈sts T.length e' e',¬Cx' P n A T ix
theorem AG{n:Nat}:∀{T:List (List Int)},(∀t∈T,Sp P n S (gf t))->chS P n S T=chF P n [] T:=by
 intro T h;have:∀(T:List (List Int)) (A:List (Nat->Int)),(∀t∈T,Sp P n S (gf t))->T.foldl (λA t=>@ite _ (Sp P n S (gf t)/\¬Sp P n A (gf t)) (LV _) (A++[gf t]) A) A=chF P n A T:=by
  intro T
  induction T with
  |nil=>intro A _;rfl
  |cons t T ih=>
   intro A h;have h1:=h t Je;rw[L5]
   by_cases e:Sp P n A (gf t)
   ·rw[if_neg (λz=>z.2 e),cN e];exact ih _ λx hx=>h x (J3 _ hx)
   ·rw[if_pos ⟨h1,e⟩,bH e];exact ih _ λx hx=>h x (J3 _ hx)
 exact this T [] h
theorem yd{n:Nat}(q:P=2∨P=3)(z:∀t∈T,Vr P n t):In P n (chS P n S T)/\∀b∈chS P n S T,Sp P n S b:=by
 have:∀(T:List (List Int)) (A:List (Nat->Int)),(∀t∈T,Vr P n t)->In P n A->(∀b∈A,Sp P n S b)->In P n (T.foldl (λA t=>@ite _ (Sp P n S (gf t)/\¬Sp P n A (gf t)) (LV _) (A++[gf t]) A) A)/\∀b∈(T.foldl (λA t=>@ite _ (Sp P n S (gf t)/\¬Sp P n A (gf t)) (LV _) (A++[gf t]) A) A),Sp P n S b:=by
  intro T
  induction T with
  |nil=>intro A _ h1 h2;exact⟨h1,h2⟩
  |cons t T ih=>
   intro A h h1 h2;rw[L5]
   by_cases e:Sp P n S (gf t)/\¬Sp P n A (gf t)
   ·rw[if_pos e];refine ih _ (λx hx=>h x (J3 _ hx)) (h1.step q (h t Je) e.2) λb j=>?_
    rcases Ja.mp j with j|j
    ·exact h2 b j
    ·rw[JE.mp j];exact e.1
   ·rw[if_neg e];exact ih _ (λx hx=>h x (J3 _ hx)) h1 h2
 exact this T [] z (In.init q) (by simp)
theorem U6{p:Int}{n:Nat}{S:List (Nat->Int)}:∀{bs:List (Nat->Int)} {f:Nat->Int},(∀b∈bs,Sp p n S b)->Sp p n bs f->Sp p n S f
 |[],f,_,h=>TY h
 |b::bs,f,j,⟨c,h⟩=>by have ih:=U6 (λx hx=>j x (J3 _ hx)) h;exact(ih.comb (k:=c) (j b Je)).congr λx _=>by rw[show f x-c*b x+c*b x-f x=0 by lia];exact LH _
theorem vN(j:P=2∨P=3)(B:1<=R)(J:In P (L*R) A):∃ix,ix∈sts (aw P L R).length ix.length ix.length/\Cx' P (L*R) A (aw P L R) ix/\ix.length<=L*R/\ix.length<=(aw P L R).length:=by
 have F:=ik (P:=P) (L:=L) (R:=R) ∅
 obtain⟨ix,h1,h2,G,O⟩:=vw (P:=P) (n:=L*R) (A:=A) (aw P L R) _ (J6 _);rw[Q2]at G O;have hIn:=J.ch j F;have hle:=In.n j hIn;have z:ix.Nodup:=JI.mpr (h1.imp λh=>JU h);refine⟨ix,qN rfl h1 h2,?_,∅,?_⟩
 ·have U:Sx P (L*R) A (aw P L R) ix=chF P (L*R) A (aw P L R):=G;unfold Cx';rw[U,AG λt F2=>fh F2];have q:=(In.init (P:=P) (n:=L*R) j).ch j F;exact ON (In.le j q hIn λv _ _=>pI j B _) (In.le j hIn q λv _ _=>pI j B _)
 ·have:=i9 (l₂:=J2 (aw P L R).length) z λx hx=>K2.mpr (h2 x hx);simpa using this
theorem Pre.le(j:P=2∨P=3)(q:1<=R)(z:In P (L*R) A)(h:Pre P (L*R) A (aw P L R) e):e<=L*R/\e<=(aw P L R).length:=by
 obtain⟨ix,h1,h2,B,F⟩:=vN j q z;have:e<=ix.length:=by
  rcases OX ix.length e with k|k
  ·exact absurd h2 ((h _ k).2 ix h1)
  ·exact k
 lia
theorem vO{n:Nat}(he:e<=T.length)(h:Pre P n A T e)(hm:ix∈sts T.length e e)(j:Cx' P n A T ix):(Sx P n A T ix).length=A.length+e:=by
 obtain⟨h1,h2,z⟩:=pj he hm;have hle:=Av (P:=P) (n:=n) (ts:=ix.map (tat T)) (A:=A);rw[h7,h1]at hle
 rcases OX (Sx P n A T ix).length (A.length+e)with k|k
 ·exfalso
  obtain⟨i,hi,q⟩:=p9 (P:=P) (n:=n) (ts:=ix.map (tat T)) (A:=A) (by rw[h7,h1];exact k)
  rw[h7,h1]at hi;have B:(ix.map (tat T)).eraseIdx i=(ix.eraseIdx i).map (tat T):=by rw[Oc,Oc,Jc,Rr,List.map_drop]
  rw[B]at q;have F:(ix.eraseIdx i).length=e-1:=by rw[List.length_eraseIdx_of_lt ∅,h1]
  refine(h (e-1) ∅).2 (ix.eraseIdx i) (qN F (h2.sublist (QA _ _)) λx hx=>z x ((QA _ _).subset hx)) ?_
  unfold Cx' Sx at j⊢;rw[q];exact j
 ·exact ON hle k
structure Out(P n:Nat)(A:List (Nat->Int))(T:List (List Int))(e:Nat)(b:Bool):Prop where
 pre:Pre P n A T e
 op:b=Ua->3000<bn T.length e
 ls:b=N2->bn T.length e<=3000/\∃ix∈sts T.length e e,Cx' P n A T ix
theorem Out.uniq{n e':Nat}{b b':Bool}(h:Out P n A T e b)(g:Out P n A T e' b'):e=e'/\b=b':=by
 have lt:∀{e e':Nat} {b b':Bool},Out P n A T e b->Out P n A T e' b'->¬e<e':=by
  intro e e' b b' h g k;obtain⟨q,p2⟩:=g.pre e k
  cases b with
  |false=>have:=h.op rfl;lia
  |true=>obtain⟨_,ix,hm,j⟩:=h.ls rfl;exact p2 ix hm j
 have he:e=e':=by have:=lt h g;have:=lt g h;lia
 subst he;refine⟨rfl,?_⟩
 cases b<;>cases b'
 ·rfl
 ·have:=h.op rfl;have:=(g.ls rfl).1;lia
 ·have:=g.op rfl;have:=(h.ls rfl).1;lia
 ·rfl
theorem CD(hP:0<P):∀{ts:List Tm},(∀t∈ts,TI' L R many t)->(ts.map (·.1)).Nodup->∀(k i j:Nat),k<many->i<L->j<R->gf (tat (tbs P (L*R) R many ts) k) (i*R+j)=cf ts ((k:Int),(i:Int),(j:Int))%P:=by
 intro ts
 induction h:ts.length generalizing ts with
 |zero=>intro _ _ k i j U hi hj;have:ts=[]:=JL.mp h;subst this;unfold tbs tat;rw[R0,Jo,JR,if_pos U,MQ,dM,cF];simp
 |succ N ih=>
  intro ht F2 k i j U hi hj
  rcases Kv ts with rfl|⟨us,t,rfl⟩
  ·simp at h
  rw[Kw]at *
  have hl:us.length=N:=by simpa using h
  have O:∀t∈us,TI' L R many t:=λx hx=>ht x (by simp[hx])
  rw[Jc,Mx]at F2;have ih:=ih hl O F2.1 k i j U hi hj;obtain⟨b1,b2⟩:=cq (P:=P) hP O;obtain⟨fv,GA,GB⟩:=ht t (by simp)
  have q:i*R+j<L*R:=by
   have:=LM R (show i+1<=L by lia)
   rw[Kq]at this;lia
  obtain⟨k',ek⟩:=JS fv.1;obtain⟨i',ei⟩:=JS GA.1;obtain⟨j',ej⟩:=JS GB.1;have hz:(t.1.2.1*R+t.1.2.2).toNat=i'*R+j':=by rw[ei,ej];lia
  rw[j3,cy,aQ,cF,OY];generalize tbs P (L*R) R many us=TT at *
  have B:k'<TT.length:=∅
  have GC:=b2 _ (KO B);have GF:i'*R+j'<L*R:=by
   have:=LM R (show i'+1<=L by lia)
   rw[Kq]at this;lia
  unfold tst tat;rw[hz,ek,Jd,Jo]
  by_cases e1:k'=k
  ·subst e1;rw[L6 B,MQ,z4 B,MQ];unfold tat at ih;rw[Jo,z4 B,MQ]at ih;have F:=GC.len
   by_cases e2:i'*R+j'=i*R+j
   ·have GD:i'=i/\j'=j:=by
     have a1:(i'*R+j') / R=i':=by rw[NV,T7 ∅,SE ∅];rfl
     have a2:(i*R+j) / R=i:=by rw[NV,T7 ∅,SE ∅];rfl
     have:i'=i:=by rw[<-a1,<-a2,e2]
     subst this;exact⟨rfl,∅⟩
    obtain⟨rfl,rfl⟩:=GD;have ekey:t.1=((k':Int),(i':Int),(j':Int)):=Tf ek (Tf ei ej);have GE:cf us ((k':Int),(i':Int),(j':Int))=0:=fb λu O eu=>F2.2.2 u.1 (JA O) t.1 (by simp) (eu.trans ekey.symm)
    rw[if_pos ekey,GE,Sa];have:=aO (v:=(TT[k']).set (i'*R+j') (t.2%P)) (x:=i'*R+j') (by rw[N5,F];exact q)
    rw[L6 (by rw[F];exact q)]at this
    exact(JO.inj this).symm
   ·have G:t.1≠((k':Int),(i:Int),(j:Int)):=fun z=>by
     have J:t.1.2.1=(i:Int):=by rw[z]
     have z2:t.1.2.2=(j:Int):=by rw[z]
     rw[ei]at J;rw[ej]at z2;exact e2 (by rw[Ou.inj J,Ou.inj z2])
    rw[if_neg G,OY,<-ih];have a:=aO (v:=(TT[k']).set (i'*R+j') (t.2%P)) (x:=i*R+j) (by rw[N5,F];exact q)
    rw[LI e2,aO (by rw[F];exact q)]at a
    exact(JO.inj a).symm
  ·have G:t.1≠((k:Int),(i:Int),(j:Int)):=fun z=>by
    have J:t.1.1=(k:Int):=by rw[z]
    rw[ek]at J;exact e1 (Ou.inj J)
   rw[LI e1,if_neg G,OY,<-ih];unfold tat;rw[Jo]
noncomputable abbrev sD(b:Bool):D:=.str (JN (if b then "least" else "open"))
theorem CF{k:Nat}(hk:5<=k)(hB:Bd P (L*R))(hL:1<=L/\L<=6)(J:1<=R/\R<=6)(hm:many<=10)(ht:∀t∈ts,TI' L R many t){p:Ub}(hp:M p=Z (.lst (ts.map tmD)))(q:∀e b M',Out P (L*R) (chF P (L*R) [] (tbs P (L*R) R many ts)) (aw P L R) e b->(∀a o,M a=Z o->M' a=Z o)->Q (.tup [sD b,.int (((chF P (L*R) [] (tbs P (L*R) R many ts)).length+e:Nat):Int)]) M'):phi tab k 39 [.tup [.int L,.int R,.int many,.ref p],.int P] M Q:=by
 have O:=hB.p;have GQ:=hB.n;have GC:0<P:=∅
 have GR:1*1<=L*R:=JK hL.1 J.1;have hb:=cq (P:=P) GC ht;have hT:=ik (P:=P) (L:=L) (R:=R) GC;have GD:(aw P L R).length<=1000000:=by unfold aw;rw[h7];exact jP O hL.2 J.2
 have hA:=(In.init (P:=P) (n:=L*R) O).ch O hb.2;generalize GI:chF P (L*R) [] (tbs P (L*R) R many ts)=A at q hA;refine al ∅ rfl rfl (ρ:=[Z _,Z _,Y,Y,Y,Y,Y,Y]) rfl ?_
 unfold d39 L2.Mi.K43.b39;nofun;refine⟨_,rfl,_,rfl,?_⟩;ac_nf;refine⟨cL ∅,?_⟩
 rw[<-Mr];nofun;refine⟨_,rfl,_,rfl,?_⟩;refine vB ∅ ∅ hL.2 J.2 λpp M1 g1 n1 e1=>?_
 refine⟨_,ab e1,?_⟩;refine kF (L:=L) (R:=R) (λx hx=>gD hx) (jP O hL.2 J.2) (λx M Q h1 h2 q=>vJ ∅ O hL.2 J.2 h1 h2 q) (λM' g=>ab (g _ _ e1)) λρ M2 g2 pt hpt=>?_
 have g3:=g1.trans (g2.trans (Ge.new (o:=.lst (((prs P L R).map (tbl P)).map rD)) hpt));have G:=aa (M:=M2) (a:=pt) (o:=.lst (((prs P L R).map (tbl P)).map rD));generalize ah M2 pt (.lst (((prs P L R).map (tbl P)).map rD))=M3 at g3 G⊢;replace G:M3 pt=Z (.lst ((aw P L R).map rD)):=G;clear g1 n1 e1 g2 hpt;nofun;refine t5 ∅ ⟨∅,∅⟩ hL.2 J.2 hm ht (g3 _ _ hp) λp4 M4 g4 n4 e4=>?_
 refine y8 ∅ hB ∅ hb.2 e4 λd0 keys M5 hK e5 n5 g5=>?_
 rw[GI]at hK;have F2:=g4.trans g5;have G:=F2 _ _ G;have g5:=g3.trans F2;have GE:M d0=Y:=aP (g3.trans g4) n5;have fv:pt≠d0:=λz=>by rw[z,e5]at G;cases G
 clear g3 g4 F2 n4 e4 n5;nofun;refine vE ∅ O hK.len e5 ?_
 nofun;refine⟨∅,∅,?_⟩
 rw[show((((L*R:Nat):Int)+1).toNat)=L*R+1 by lia]
 refine ao (f:=λi=>D.int (i:Nat)) (ys:=J2 (L*R+1)) (I:=λl ρ M'=>(∃o6 o7,ρ=[Z (.tup [.int L,.int R,.int many,.ref p]),Z (.int P),Z (.int (L*R:Nat)),Z (.ref pt),Z (.ref d0),Z (.int (A.length:Nat)),o6,o7])/\Kd d0 (keys.map kv) M5 M'/\Pre P (L*R) A (aw P L R) l.length) av ⟨⟨_,_,rfl⟩,Kd.refl (.inl e5),λe' h=>absurd h (by simp)⟩ (λ_ _ _ _=>by first|rfl|trivial) ?_ ?_
 ·rintro l i r ρ M6 es ⟨⟨o6,o7,rfl⟩,k6,j⟩;refine⟨_,rfl,fun F hF=>?_⟩;have GF:=ag es;rw[Jb]at GF;have hi:i=l.length:=by
   have h9:(J2 (L*R+1))[l.length]?=Z i:=by rw[es];simp
   rw[Lr GF]at h9;exact(JO.inj h9).symm
  subst hi;obtain⟨GP,B⟩:=j.le O J.1 hA;have e6:=k6.kp _ _ fv G;nofun;refine⟨_,_,rfl,ba (ab e6),?_⟩;rw[h7];refine y9 ∅ B GD ?_
  ac_nf
  by_cases GJ:3000<bn (aw P L R).length l.length
  ·rw[if_pos ∅]
   nofun;refine⟨by rw[r4];lia,?_⟩
   rw[<-OO];exact q l.length Ua _ ⟨j,λ_=>GJ,λh=>by cases h⟩ λa o e=>k6.kp _ _ (λz=>by rw[z,GE]at e;cases e) (g5 _ _ e)
  ·rw[if_neg ∅]
   nofun;refine⟨_,_,rfl,ba (ab e6),?_⟩;rw[h7];refine ya ∅ B GD ∅ ∅ λps M7 g7 n7 e7=>?_
   have GK:ps≠d0:=DF.ne k6.df n7;have k7:=k6.ge g7;refine⟨_,ab e7,?_⟩;refine ao (f:=ixD) (ys:=sts (aw P L R).length l.length l.length) (I:=λl2 ρ M'=>(∃o7,ρ=[Z (.tup [.int L,.int R,.int many,.ref p]),Z (.int P),Z (.int (L*R:Nat)),Z (.ref pt),Z (.ref d0),Z (.int (A.length:Nat)),Z (.int (l.length:Nat)),o7])/\Kd d0 (keys.map kv) M7 M'/\∀ix∈l2,¬Cx' P (L*R) A (aw P L R) ix) rfl ⟨⟨_,rfl⟩,Kd.refl k7.df,by simp⟩ (λ_ _ _ h=>ab (h.2.1.kp _ _ GK e7)) ?_ ?_
   ·rintro l2 ix r2 ρ M8 es2 ⟨⟨o7,rfl⟩,k8,GA⟩;refine⟨_,rfl,λF2 GL=>?_⟩;have U:ix∈sts (aw P L R).length l.length l.length:=by rw[es2];simp
    obtain⟨_,_,GM⟩:=pj B U;have GB:=k7.trans k8;nofun;refine vF ∅ hB ∅ hK hT GM GB.df (GB.kp _ _ fv G) λd keys' M9 GN e9 k9=>?_
    have GG:=GB.trans k9;refine AB ∅ hB ∅ GN hT e9 (GG.kp _ _ fv G) λc GS hc GH=>⟨_,rfl,?_⟩
    cases c with
    |true=>
     rw[if_pos rfl];nofun;refine⟨by rw[r4];lia,?_⟩
     rw[<-OO];exact q l.length N2 _ ⟨j,(λh=>by cases h),λ_=>⟨∅,ix,U,hc.mp rfl⟩⟩ λa o e=>GH _ _ (GG.kp _ _ (λz=>by rw[z,GE]at e;cases e) (g5 _ _ e))
    |false=>
     rw[if_neg (by decide)]
     refine GL _ _ ⟨⟨_,rfl⟩,(k8.trans k9).ge GH,λix' h'=>?_⟩
     rcases Ja.mp h' with h'|h'
     ·exact GA ix' h'
     ·rw[JE.mp h'];intro z;have:=hc.mpr z
      cases this
   ·rintro ρ M8 ⟨⟨o7,rfl⟩,k8,GA⟩;refine hF _ _ ⟨⟨_,_,rfl⟩,k7.trans k8,λe' GO=>?_⟩;rw[q7,JC]at GO
    by_cases z:e'=l.length
    ·rw[z];exact⟨∅,GA⟩
    ·exact j e' ∅
 ·rintro ρ M6 ⟨⟨o6,o7,rfl⟩,k6,j⟩;rw[Jb]at j;have:=(j.le O J.1 hA).1;lia
theorem CG{a b:List Pr}{k i j:Int}:Tn (a++b) k i j=Tn a k i j+Tn b k i j:=by simp[Tn]
theorem pK{F:Nat->Pr}{k i j:Int}:∀m,Tn ((J2 m).map F) k i j=cm (λx _=>gz (F x).1 i*gz (F x).2.1 j) (λx=>gz (F x).2.2 k) m 0
 |0=>by simp[Tn,cm]
 |m+1=>by rw[Nb,Jc,CG,pK m];show _+Tn [F m] k i j=_+gz (F m).2.2 k*(gz (F m).1 i*gz (F m).2.1 j);rw[qI];simp only[Tn,Kx,List.sum_nil,OY];rw[Int.mul_comm (gz (F m).2.2 k)]
theorem vP{p:Int}{g g':Nat->Nat->Int}{c:Nat->Int}{x x':Nat}:∀{m:Nat},(∀i,i<m->p ∣ g i x-g' i x')->p ∣ cm g c m x-cm g' c m x'
 |0,_=>by simp[cm]
 |m+1,h=>by
  have ih:=vP (m:=m) (c:=c) λi hi=>h i ∅
  have a:p ∣ c m*(g m x-g' m x'):=KP (h m ∅)
  have:=MW ih a
  rwa[Int.mul_sub,show cm g c m x-cm g' c m x'+(c m*g m x-c m*g' m x')=cm g c (m+1) x-cm g' c (m+1) x' by show _=cm g c m x+c m*g m x-(cm g' c m x'+c m*g' m x');lia]at this
theorem CH{f:List Int->Int}{k:Nat}(h:k<rows.length):gz (rows.map f) (k:Nat)=f (tat rows k):=by
 have e:=aO (v:=rows.map f) (x:=k) (by rw[h7];exact h)
 rw[Jj,eB h]at e;exact(JO.inj e).symm
theorem io{α:Type}{f:α->List Int}{l:List α}{a:α}(h:l[i]?=Z a):tat (l.map f) i=f a:=by unfold tat;rw[Jo,Jj,h];rfl
theorem q9(hP:P=2∨P=3)(F2:∀t∈ts,TI' L R many t)(GE:(ts.map (·.1)).Nodup){ixs:List Nat}(GF:∀i∈ixs,i<(aw P L R).length)(hW:chS P (L*R) S (aw P L R)=ixs.map λi=>gf (tat (aw P L R) i))(GG:Ip P (L*R) (aw P L R) ixs)(hlen:(chS P (L*R) S (aw P L R)).length=S.length)(hS:In P (L*R) S)(GH:∀t∈tbs P (L*R) R many ts,Sp P (L*R) S (gf t))(G:Bs P (L*R+(ixs.map (pat (prs P L R))).length) (chF P (L*R+(ixs.map (pat (prs P L R))).length) [] ((J2 (ixs.map (pat (prs P L R))).length).map (mkd ((ixs.map (pat (prs P L R))).map (tbl P)) (ixs.map (pat (prs P L R))).length))) base)(GI:Fs base)(k i j:Int):
 (P:Int) ∣ Tn (kG (ixs.map (pat (prs P L R))) ((tbs P (L*R) R many ts).map (shr P (L*R) base (ixs.map (pat (prs P L R))).length))) k i j-cf ts (k,i,j):=by
 have F:0<P:=∅
 have hv:=ik (P:=P) (L:=L) (R:=R) F;obtain⟨GJ,fv⟩:=cq (P:=P) F F2;have GA:∀x∈ixs,x<(prs P L R).length:=λx hx=>by have:=GF x hx;unfold aw at this;simpa using this
 have q:∀x∈ixs.map (pat (prs P L R)),Vr P L x.1/\Vr P R x.2:=λx hx=>by obtain⟨i,hi,rfl⟩:=J8.mp hx;exact gD (Jh (cG (GA i hi)))
 have J:(ixs.map (pat (prs P L R))).map (tbl P)=ixs.map (tat (aw P L R)):=by rw[Kf];refine Kz λi hi=>?_;exact(io (f:=tbl P) (cG (GA i hi))).symm
 generalize GK:ixs.map (pat (prs P L R))=xs at G J q⊢;have GL:xs.length=ixs.length:=by rw[<-GK,h7]
 have O:(xs.map (tbl P)).length=xs.length:=by simp
 have GM:∀t∈xs.map (tbl P),Vr P (L*R) t:=λt F2=>by obtain⟨x,hx,rfl⟩:=J8.mp F2;exact pH F (q x hx).1.len (q x hx).2.len
 have GN:∀k,k<(xs.map (tbl P)).length->¬Sp P (L*R) (((xs.map (tbl P)).take k).map gf) (gf (tat (xs.map (tbl P)) k)):=by intro k U;rw[O,GL]at U;have e:=z4 U;have:=GG k _ e;rw[J,<-Rr,Kf,io e];exact this
 rw[<-O]at G;have hz:∀t∈tbs P (L*R) R many ts,Sp P (L*R) ((xs.map (tbl P)).map gf) (gf t):=by intro t h;have h1:=GH t h;obtain⟨hI,GB⟩:=yd hP (S:=S) hv;have h2:=In.all hP hI hS (λv _ hs=>U6 GB hs) hlen (fv t h) h1;rw[hW]at h2;rw[J,Kf];exact h2
 by_cases hr:(0<=k/\k<many)/\(0<=i/\i<L)/\(0<=j/\j<R)
 ·obtain⟨⟨k0,k1⟩,⟨i0,i1⟩,⟨j0,j1⟩⟩:=hr;obtain⟨k,rfl⟩:=JS k0;obtain⟨i,rfl⟩:=JS i0;obtain⟨j,rfl⟩:=JS j0;have U:k<(tbs P (L*R) R many ts).length:=by lia
  have GO:i*R+j<L*R:=by
   have:=LM R (show i+1<=L by lia)
   rw[Kq]at this;lia
  have GC:=Jh (eB U);obtain⟨_,_,h3⟩:=CC hP GM GN G GI (fv _ GC) (hz _ GC);have h3:=h3 (i*R+j) GO;rw[CD F F2 GE k i j ∅ ∅ ∅,O]at h3
  unfold kG;rw[pK];have GD:∀x,gz (mkP xs ((tbs P (L*R) R many ts).map (shr P (L*R) base xs.length)) x).2.2 (k:Nat)=gf (shr P (L*R) base xs.length (tat (tbs P (L*R) R many ts) k)) x:=λx=>by show gz (Lq (λrow=>gf row x) _) _=_;rw[CH (by rw[h7];exact U),io (eB U)]
  rw[show(λx=>gz (mkP xs ((tbs P (L*R) R many ts).map (shr P (L*R) base xs.length)) x).2.2 (k:Nat))=λx=>gf (shr P (L*R) base xs.length (tat (tbs P (L*R) R many ts) k)) x from funext GD];have h4:=vP (p:=P) (g:=λx _=>gz (mkP xs ((tbs P (L*R) R many ts).map (shr P (L*R) base xs.length)) x).1 (i:Nat)*gz (mkP xs ((tbs P (L*R) R many ts).map (shr P (L*R) base xs.length)) x).2.1 (j:Nat)) (g':=λx=>gf (tat (xs.map (tbl P)) x)) (c:=λx=>gf (shr P (L*R) base xs.length (tat (tbs P (L*R) R many ts) k)) x) (x:=0) (x':=i*R+j) (m:=xs.length) λx hx=>by
   have hp:=q _ (Jh (cG hx));rw[io (cG hx),vI hp.1.len hp.2.len ∅ ∅]
   exact cz
  have h5:=Md (Md h4 h3) (cz (p:=P) (a:=cf ts ((k:Int),(i:Int),(j:Int))));have h6:∀A B c d:Int,A-B-(d-B)-(c-d)=A-c:=by intros;lia
  rwa[h6]at h5
 ·have e1:cf ts (k,i,j)=0:=fb fun t GP e=>hr (by
   obtain⟨a,b,c⟩:=F2 t GP;rw[e]at a b c;exact⟨a,b,c⟩)
  have e2:Tn (kG xs ((tbs P (L*R) R many ts).map (shr P (L*R) base xs.length))) k i j=0:=by apply Lx;intro z;refine hr (oS (L0:=L) (L1:=R) (L2:=many) (λu hu=>?_) z);obtain⟨x,hx,rfl⟩:=J8.mp hu;have hp:=q _ (Jh (cG (K2.mp hx)));exact⟨hp.1.len,hp.2.len,by show(Lq _ (Lq _ _)).length=_;rw[h7,h7,GJ]⟩
  rw[e1,e2];simp
structure SOk(P L R many:Nat)(ts:List Tm)(ps:List Pr):Prop where
 pr:∀p∈ps,p.1.length=L/\p.2.1.length=R/\p.2.2.length=many
 sm:∀p∈ps,(∀x∈p.1,0<=x/\x<3)/\(∀x∈p.2.1,0<=x/\x<3)/\(∀x∈p.2.2,0<=x/\x<3)
 dv:∀k i j,(P:Int) ∣ Tn ps k i j-cf ts (k,i,j)
theorem yR{α:Type}{f:α->D}{l:List α}{dflt:α}(j:∀i∈ix,i<l.length)(J:ix.length<=1000)(ea:M a=Z (.lst (l.map f))){ds:List D}(z:ds=ix.map λi:Nat=>D.int ((i:Nat):Int)){chk:Mem->Prop}(F:chk M)(q:∀ρ,N ρ M ((ix.map λi=>l.getD i dflt).map f)):
 bf (be 0) (bJ (wOp wIx (aY 1) (aY 0))) chk N ds [Y,Z (.ref a)] M []:=by
 refine ak (f:=λi:Nat=>D.int ((i:Nat):Int)) (ys:=ix) (I:=λl' ρ M' acc=>(∃o0,ρ=[o0,Z (.ref a)])/\M'=M/\acc=(l'.map λi=>l.getD i dflt).map f) z ⟨⟨_,rfl⟩,rfl,rfl⟩ (λ_ _ _ _ h=>by rw[h.2.1];exact F) ?_ ?_
 ·rintro l' i r ρ M1 acc e ⟨⟨o0,rfl⟩,rfl,rfl⟩;refine⟨_,rfl,λN' B=>?_⟩;have G:=ag e;have hi:=j i (by rw[e];simp)
  ac_nf;refine aK ea (d:=f (l.getD i dflt)) (bx (by rw[Jj,Jo,z4 hi];rfl)) ⟨by rw[h7,h7,r4];lia,B _ _ _ ⟨⟨_,rfl⟩,rfl,by simp⟩⟩
 ·rintro ρ M1 acc ⟨⟨o0,rfl⟩,rfl,rfl⟩;exact q _
theorem vQ{c:TTd}{tb:TSd}{D:bv}{N:Nat}(I:Nat->ar->Mem->Prop){ρ:ar}(h:I 0 ρ M)(last:∀ρ M,¬I (N+1) ρ M)(step:∀j ρ M,I j ρ M->∀W:ar->Mem->Prop,(∀ρ' M',I (j+1) ρ' M'->W ρ' M')->c ρ M λb q=>if b=N2 then tb {D with nx:=W,ct:=W,bk:=D.nx} ρ q else D.nx ρ q):∃n,aS c tb D n ρ M:=by
 have go:∀i j ρ M,j+i=N+1->I j ρ M->aS c tb D i ρ M:=by
  intro i
  induction i with
  |zero=>intro j ρ M e h;rw[show j=N+1 by lia]at h;exact absurd h (last _ _)
  |succ i ih=>intro j ρ M e h;exact step j ρ M h _ λρ' M' h'=>ih (j+1) ρ' M' ∅ h'
 exact⟨N+1,go (N+1) 0 ρ M ∅ h⟩
theorem ye{k:Nat}(hk:7<=k)(hB:Bd P (L*R))(hL:1<=L/\L<=6)(hR:1<=R/\R<=6)(hm:1<=many/\many<=10)(ht:∀t∈ts,TI' L R many t)(GR:(ts.map (·.1)).Nodup){p:Ub}(J:M p=Z (.lst (ts.map tmD)))(q1:∀e M',Out P (L*R) (chF P (L*R) [] (tbs P (L*R) R many ts)) (aw P L R) e Ua->Ge M M'->Q (.tup [sD Ua,.int (((chF P (L*R) [] (tbs P (L*R) R many ts)).length+e:Nat):Int)]) M')(q2:∀e ps pr M',Out P (L*R) (chF P (L*R) [] (tbs P (L*R) R many ts)) (aw P L R) e N2->SOk P L R many ts ps->ps.length=(chF P (L*R) [] (tbs P (L*R) R many ts)).length+e->ps.length<=12->M' pr=Z (.lst (ps.map prD))->Ge M M'->Q (.tup [sD N2,.int (((chF P (L*R) [] (tbs P (L*R) R many ts)).length+e:Nat):Int),.tup [.int L,.int R,.int many,.ref pr]]) M'):phi tab k 16 [.tup [.int L,.int R,.int many,.ref p],.int P] M Q:=by
 have O:=hB.p;have H0:=hB.n;have fv:0<P:=∅
 have H4:1*1<=L*R:=JK hL.1 hR.1;have hb:=cq (P:=P) fv ht;have hT:=ik (P:=P) (L:=L) (R:=R) fv;have G:(aw P L R).length=(prs P L R).length:=by unfold aw;rw[h7]
 have GA:(aw P L R).length<=1000000:=by rw[G];exact jP O hL.2 hR.2
 have hA:=(In.init (P:=P) (n:=L*R) O).ch O hb.2;have GG:∀t∈tbs P (L*R) R many ts,Sp P (L*R) (chF P (L*R) [] (tbs P (L*R) R many ts)) (gf t):=λt h=>fh h;refine al ∅ rfl rfl (ρ:=[Z _,Z _,Y,Y,Y,Y,Y,Y,Y,Y]) rfl ?_
 unfold d16 L2.Mi.K43.b16;nofun;refine vM ∅ hB hL.2 hR.2 hm.2 ht J λpp pt po own M1 ho hf e1 e2 e3 g1=>?_
 generalize chF P (L*R) [] (tbs P (L*R) R many ts)=A at q1 q2 hA GG ho;have GH:=ho.len;have H8:=ho.le;refine⟨_,rfl,?_⟩;nofun;nofun;refine vQ (N:=L*R) (λj ρ M'=>(∃o6 o7 o8 o9,ρ=[Z (.tup [.int L,.int R,.int many,.ref p]),Z (.int P),Z (.ref pp),Z (.ref pt),Z (.ref po),Z (.int (j:Nat)),o6,o7,o8,o9])/\Ge M1 M'/\Pre P (L*R) A (aw P L R) j) ⟨⟨_,_,_,_,rfl⟩,Ge.refl,λe' h=>absurd h ∅⟩ (λρ M' h=>by have:=(h.2.2.le O hR.1 hA).1;lia) ?_
 rintro e ρ M2 ⟨⟨o6,o7,o8,o9,rfl⟩,g2,q⟩ W hW;obtain⟨GZ,B⟩:=q.le O hR.1 hA;ac_nf;refine⟨_,_,rfl,ba (ab (g2 _ _ e1)),?_⟩;rw[h7,<-G];refine AC ∅ B GA ?_
 ac_nf
 by_cases GB:bn (aw P L R).length e<=3000
 ·rw[if_pos ∅]
  nofun;refine⟨_,_,rfl,ba (ab (g2 _ _ e1)),?_⟩;rw[h7,<-G];refine AD ∅ B GA ∅ GB λps M3 g3 n3 e4=>?_
  refine⟨_,ab e4,?_⟩;refine ao (f:=ixD) (ys:=sts (aw P L R).length e e) (I:=λl2 ρ M'=>(∃o6 o7 o8 o9,ρ=[Z (.tup [.int L,.int R,.int many,.ref p]),Z (.int P),Z (.ref pp),Z (.ref pt),Z (.ref po),Z (.int (e:Nat)),o6,o7,o8,o9])/\Ge M3 M'/\∀ix∈l2,¬Cx' P (L*R) A (aw P L R) ix) rfl ⟨⟨_,_,_,_,rfl⟩,Ge.refl,by simp⟩ (λ_ _ _ h=>ab (h.2.1 _ _ e4)) ?_ ?_
  ·rintro l2 ix r2 ρ M4 es2 ⟨⟨o6,o7,o8,o9,rfl⟩,g4,GC⟩;refine⟨_,rfl,λF2 GS=>?_⟩;have F:ix∈sts (aw P L R).length e e:=by rw[es2];simp
   obtain⟨H9,_,GD⟩:=pj B F;have GI:=g2.trans (g3.trans g4);nofun;refine yR (f:=rD) (l:=aw P L R) (dflt:=[]) GD ∅ (GI _ _ e2) rfl (by first|rfl|trivial) λρ p5 hp5=>?_
   have g5:=Ge.new (o:=.lst ((ix.map λi=>(aw P L R).getD i []).map rD)) hp5;have e5:=aa (M:=M4) (a:=p5) (o:=.lst ((ix.map λi=>(aw P L R).getD i []).map rD));generalize ah M4 p5 (.lst ((ix.map λi=>(aw P L R).getD i []).map rD))=M5 at g5 e5⊢;have GJ:=GI.trans g5;refine fV ∅ O ∅ ho hf ∅ (ts:=ix.map (tat (aw P L R))) (by rw[h7];lia) (λt h=>?_) (GJ _ _ e3) e5 λpsp space M6 hS Ha nS e6 g6=>?_
   ·obtain⟨i,hi,rfl⟩:=J8.mp h;exact eC hT (GD i hi)
   have GK:=GJ.trans g6;nofun;refine t9 ∅ hB hS hT GA e6 (GK _ _ e2) λpc pb ixs base M7 GL U GT GU e7 f7 g7=>?_
   have GE:=GK.trans g7;refine⟨_,rfl,?_⟩;nofun;refine⟨_,_,rfl,ba (ab f7),_,_,rfl,ba (ab (g7 _ _ e6)),?_⟩;rw[h7,h7,GU.len,hS.len];dsimp only;ac_nf
   by_cases hC:(chS P (L*R) (chF P (L*R) A (ix.map (tat (aw P L R)))) (aw P L R)).length=(chF P (L*R) A (ix.map (tat (aw P L R)))).length
   ·rw[if_pos (by rw[hC];simp)]
    have hlen:=vO B q F hC;have Hb:=hS.le;have GM:=hA.ch O (ts:=ix.map (tat (aw P L R))) λt h=>by obtain⟨i,hi,rfl⟩:=J8.mp h;exact eC hT (GD i hi)
    have GN:ixs.length=A.length+e:=by have:=congrArg MR GL;rw[h7,hC]at this;rw[<-this];exact hlen
    have F2:∀i∈ixs,i<(prs P L R).length:=λi hi=>by rw[<-G];exact U i hi
    have GF:∀x∈ixs.map (pat (prs P L R)),Vr P L x.1/\Vr P R x.2:=λx hx=>by obtain⟨i,hi,rfl⟩:=J8.mp hx;exact gD (Jh (cG (F2 i hi)))
    have Hc:(chF P (L*R) A (ix.map (tat (aw P L R)))).length=A.length+e:=hlen;nofun;refine⟨_,_,rfl,ba (ab (GE _ _ e3)),?_⟩;rw[h7,GH];ac_nf;refine⟨_,ab e7,?_⟩;refine yR (f:=p2D) (l:=prs P L R) (dflt:=([],[])) F2 ∅ (GE _ _ e1) rfl (ab e7) λρ p8 hp8=>?_
    have g8:=Ge.new (o:=.lst ((ixs.map λi=>(prs P L R).getD i ([],[])).map p2D)) hp8;have e8:=aa (M:=M7) (a:=p8) (o:=.lst ((ixs.map λi=>(prs P L R).getD i ([],[])).map p2D));generalize ah M7 p8 (.lst ((ixs.map λi=>(prs P L R).getD i ([],[])).map p2D))=M8 at g8 e8⊢;have GO:=g1.trans (GE.trans g8);refine pJ ∅ hB hL.2 hR.2 hm ht (xs:=ixs.map (pat (prs P L R))) GF (by rw[h7];lia) (GO _ _ J) e8 λpr base' M9 GP GW e9 g9=>?_
    refine⟨by rw[r4];lia,?_⟩
    rw[<-OO];refine q2 e _ pr _ ⟨q,(λh=>by cases h),λ_=>⟨GB,ix,F,hC⟩⟩ ⟨λu hu=>?_,λu hu=>?_,λk i j=>q9 O ht GR U GL GT hC GM (λt h=>oZ (GG t h)) GP GW k i j⟩ (by unfold kG;simp[GN]) (by unfold kG;simp;lia) e9 (GO.trans g9)
    ·obtain⟨x,hx,rfl⟩:=J8.mp hu;have J:=GF _ (Jh (cG (K2.mp hx)));exact⟨J.1.len,J.2.len,by show(Lq _ (Lq _ _)).length=_;rw[h7,h7,hb.1]⟩
    ·obtain⟨x,hx,rfl⟩:=J8.mp hu;have hx:=K2.mp hx;have J:=GF _ (Jh (cG hx));refine⟨λy hy=>by have:=J.1.inn y hy;lia,λy hy=>by have:=J.2.inn y hy;lia,λy hy=>?_⟩
     obtain⟨row,GQ,rfl⟩:=J8.mp (show y∈Lq _ _ from hy);obtain⟨t,GX,rfl⟩:=J8.mp GQ;have hl:=qX fv GP.vr (hb.2 t GX);have GY:=Jh (aO (v:=shr P (L*R) base' (ixs.map (pat (prs P L R))).length t) (x:=x) (by rw[hl];exact hx))
     obtain⟨z,_,ez⟩:=J8.mp (show _∈Lq _ _ from GY);rw[<-ez];have a1:=KL (-z) (show(P:Int)≠0 by lia)
     have a2:=Kb (-z) (show(0:Int)<P by lia)
     lia
   ·rw[if_neg (by simp only[beq_iff_eq];lia)]
    refine GS _ _ ⟨⟨_,_,_,_,rfl⟩,g4.trans (g5.trans (g6.trans g7)),λix' h'=>?_⟩
    rcases Ja.mp h' with h'|h'
    ·exact GC ix' h'
    ·rw[JE.mp h'];exact hC
  ·rintro ρ M4 ⟨⟨o6,o7,o8,o9,rfl⟩,g4,GC⟩;dsimp only;nofun;refine hW _ _ ⟨⟨_,_,_,_,rfl⟩,g2.trans (g3.trans g4),λe' Hd=>?_⟩
   by_cases z:e'=e
   ·rw[z];exact⟨GB,GC⟩
   ·exact q e' ∅
 ·rw[if_neg ∅]
  nofun;refine⟨_,_,rfl,ba (ab (g2 _ _ e3)),?_⟩;rw[h7,GH];ac_nf;refine⟨by rw[r4];lia,?_⟩
  rw[<-OO];exact q1 e _ ⟨q,λ_=>∅,λh=>by cases h⟩ (g1.trans g2)
theorem vR{p:Int}{l:List Tm}{t:Tm}(h:t.2%p≠0):ov p (l++[t])=ov p l++[(t.1,t.2%p)]:=by unfold ov;rw[JF,Jz (by simpa using h),Jc];rfl
theorem vS{p:Int}{l:List Tm}{t:Tm}(h:t.2%p=0):ov p (l++[t])=ov p l:=by unfold ov;rw[JF,JH (by simp[h])];simp
theorem CI{t:Tm}(q:Q (k3D t.1) M):cC (tmD t) Y (Z 3) M Q:=q
theorem AH{n:Nat}(hn:2<=n)(hP:P=2∨P=3)(hL:L<=6)(hR:R<=6)(hm:many<=10){ps:List Pr}(O:SOk P L R many ts ps)(GF:ps.length<=12)(U:(ts.map (·.1)).Nodup)(GG:ts.length<=1000){pr p:Ub}(epr:M pr=Z (.lst (ps.map prD)))(ep:M p=Z (.lst (ts.map tmD)))(q:∀M',Q (.bl N2) M'):phi tab n 40 [.tup [.int L,.int R,.int many,.ref pr],.tup [.int L,.int R,.int many,.ref p],.int P] M Q:=by
 have G:(0:Int)<P:=∅
 refine al ∅ rfl rfl (ρ:=[Z _,Z _,Z _,Y,Y]) rfl ?_
 unfold d40 L2.Mi.K43.b40;have m1:L*(R*many)<=6*(6*10):=JK hL (JK hR hm);have m2:ps.length*(L*(R*many))<=12*(6*(6*10)):=JK ∅ m1
 have J:∀l:List Int,(∀x∈l,0<=x/\x<3)->Big l:=λl h x hx=>by have:=h x hx;lia
 nofun;refine oV (s:=aj 28) rfl ∅ ∅ ∅ ∅ epr ∅ (λu h=>⟨J _ (O.sm u h).1,J _ (O.sm u h).2.2,(O.pr u h).1,(O.pr u h).2.1,(O.pr u h).2.2⟩) λLs ds M1 j GH g1 nds eds=>?_
 have ep:=g1 _ _ ep;have GA:p≠ds:=λz=>by rw[z,eds]at ep;cases ep
 nofun;refine km rfl eds ?_;have fd:=aa (M:=M1) (a:=ds) (o:=.fdc (Ls.map kcD));have ep:=(au (M:=M1) (o:=.fdc (Ls.map kcD)) GA).trans ep;generalize ah M1 ds (.fdc (Ls.map kcD))=M2 at fd ep⊢;ac_nf;refine⟨_,fd,?_⟩;refine ak (f:=λt:Tm=>k3D t.1) (ys:=Ls) (I:=λl ρ M' acc=>(∃o0,ρ=[o0,Z (.ref ds),Z (.int P)])/\M'=M2/\acc=(ov P l).map λt=>.tup [k3D t.1,.int t.2]) (by rw[Kf];rfl) ⟨⟨_,rfl⟩,rfl,rfl⟩ (λ_ _ _ _ _=>trivial) ?_ ?_
 ·rintro l t r ρ M3 acc e ⟨⟨o0,rfl⟩,rfl,rfl⟩;refine⟨_,rfl,λN' B=>?_⟩;have GB:=ag e;have ht:t∈Ls:=by rw[e];simp
  have GC:(ov P l).length<=l.length:=by unfold ov;rw[h7];exact Jv _ _
  ac_nf;refine jI fd (fT _) (cM j.nd ht) ?_;ac_nf;refine⟨G,?_⟩
  by_cases hz:t.2%(P:Int)=0
  ·rw[if_neg (by simp[hz])]
   refine B _ _ _ ⟨⟨_,rfl⟩,rfl,?_⟩;rw[vS hz]
  ·rw[if_pos (by simp[hz])]
   refine jI fd (fT _) (cM j.nd ht) ?_;ac_nf;refine⟨G,by rw[r4];lia,by rw[h7,r4];lia,B _ _ _ ⟨⟨_,rfl⟩,rfl,?_⟩⟩
   rw[vR hz];simp
 ·rintro ρ M3 acc ⟨⟨o0,rfl⟩,rfl,rfl⟩ p2 hp2;have F2:=qK (p:=(P:Int)) j.nd;have GI:(ov (P:Int) Ls).length<=Ls.length:=by unfold ov;rw[h7];exact Jv _ _
  refine⟨p2,(ov (P:Int) Ls).map kcD,rfl,by rw[aa,Kf];rfl,λkv F=>?_,by rw[h7,r4];lia,λpf GD=>?_⟩
  ·obtain⟨t,_,rfl⟩:=J8.mp F;exact fT _
  rw[iX F2];have ep:=(Ge.new (o:=.dct N2 ((ov (P:Int) Ls).map kcD)) GD) _ _ ((Ge.new (o:=.lst ((ov (P:Int) Ls).map λt=>D.tup [k3D t.1,.int t.2])) hp2) _ _ ep);have ef:=aa (M:=ah M3 p2 (.lst ((ov (P:Int) Ls).map λt=>D.tup [k3D t.1,.int t.2]))) (a:=pf) (o:=.dct N2 ((ov (P:Int) Ls).map kcD));generalize ah (ah M3 p2 (.lst ((ov (P:Int) Ls).map λt=>D.tup [k3D t.1,.int t.2]))) pf (.dct N2 ((ov (P:Int) Ls).map kcD))=M4 at ep ef⊢;nofun;refine⟨_,rfl,_,ab ep,?_⟩;refine ak (f:=tmD) (ys:=ts) (I:=λl ρ M' acc=>(∃o0,ρ=[o0,Z (.int P)])/\M'=M4/\acc=(ov P l).map λt=>.tup [k3D t.1,.int t.2]) rfl ⟨⟨_,rfl⟩,rfl,rfl⟩ (λ_ _ _ _ h=>by rw[h.2.1];exact ab ep) ?_ ?_
  ·rintro l t r ρ M5 acc e ⟨⟨o0,rfl⟩,rfl,rfl⟩;refine⟨_,rfl,λN' B=>?_⟩;have GB:=ag e;have GC:(ov P l).length<=l.length:=by unfold ov;rw[h7];exact Jv _ _
   ac_nf;refine⟨_,_,rfl,rfl,?_⟩;ac_nf;refine⟨G,?_⟩
   by_cases hz:t.2%(P:Int)=0
   ·rw[if_neg (by simp[hz])]
    refine B _ _ _ ⟨⟨_,rfl⟩,rfl,?_⟩;rw[vS hz]
   ·rw[if_pos (by simp[hz])]
    refine CI ⟨_,_,rfl,rfl,?_⟩;ac_nf;refine⟨G,by rw[r4];lia,by rw[h7,r4];lia,B _ _ _ ⟨⟨_,rfl⟩,rfl,?_⟩⟩
    rw[vR hz];simp
  ·rintro ρ M5 acc ⟨⟨o0,rfl⟩,rfl,rfl⟩ p6 hp6;have fv:=qK (p:=(P:Int)) U;have GJ:(ov (P:Int) ts).length<=ts.length:=by unfold ov;rw[h7];exact Jv _ _
   refine⟨p6,(ov (P:Int) ts).map kcD,rfl,by rw[aa,Kf];rfl,λkv F=>?_,by rw[h7,r4];lia,λpg GE=>?_⟩
   ·obtain⟨t,_,rfl⟩:=J8.mp F;exact fT _
   rw[iX fv];have ef:=(Ge.new (o:=.dct N2 ((ov (P:Int) ts).map kcD)) GE) _ _ ((Ge.new (o:=.lst ((ov (P:Int) ts).map λt=>D.tup [k3D t.1,.int t.2])) hp6) _ _ ef);have hint:∀L':List Tm,∀kv∈L'.map kcD,∃i,kv.2=.int i:=λL' kv F=>by obtain⟨t,_,rfl⟩:=J8.mp F;exact⟨_,rfl⟩
   refine⟨pf,pg,_,_,rfl,rfl,⟨.inl ef,hint _⟩,⟨.inl aa,hint _⟩,?_⟩;have:eqD ((ov (P:Int) Ls).map kcD) ((ov (P:Int) ts).map kcD)=N2:=(Cj F2 fv yN yN).mpr λk=>by rw[sX j.nd,sX U,j.cf k];obtain⟨k1,k2,k3⟩:=k;rw[kx];obtain⟨c,hc⟩:=O.dv k1 k2 k3;rw[show Tn ps k1 k2 k3=cf ts (k1,k2,k3)+P*c by lia,Int.add_mul_emod_self_left]
   rw[this];exact q _
theorem CJ{n:Nat}(hn:1<=n)(hP:P=2∨P=3)(U:1<=L/\L<=6)(F2:1<=R/\R<=6)(hm:1<=many/\many<=4)(B:∀t∈ts,TI' L R many t)(j:(ts.map (·.1)).Nodup)(z:ts.length<=1000){p:Ub}(ep:M p=Z (.lst (ts.map tmD)))(q:∀(many':Nat) (us:List Tm) p' M',(1<=many'/\many'<=4)->(∀t∈us,TI' L R many' t)->(us.map (·.1)).Nodup->us.length<=1000->M' p'=Z (.lst (us.map tmD))->Q (.tup [.int L,.int R,.int many',.ref p']) M'):phi tab n 41 [.tup [.int L,.int R,.int many,.ref p],.int P] M Q:=by
 have mLR:L*R<=6*6:=JK U.2 F2.2;refine al ∅ rfl rfl (ρ:=[Z _,Z _]) rfl ?_
 unfold d41 L2.Mi.K43.b41;nofun
 split
 ·nofun;exact q many ts p _ hm B j z ep
 ·refine⟨_,rfl,_,rfl,?_⟩;ac_nf;refine⟨cL ∅,?_⟩
  split
  ·nofun;exact q many ts p _ hm B j z ep
  ·refine⟨_,rfl,?_⟩;ac_nf
   split
   ·nofun;exact q many ts p _ hm B j z ep
   ·next h1 h2 h3=>
    nofun;refine⟨_,rfl,_,rfl,_,rfl,_,ab ep,?_⟩;have G:((ts.filter λt=>decide (t.1.1<2)).map (·.1)).Nodup:=j.sublist (Ov _ Nx);refine ak (f:=tmD) (ys:=ts) (I:=λl ρ M' acc=>(∃o0,ρ=[o0])/\M'=M/\acc=(l.filter λt=>decide (t.1.1<2)).map tmD) rfl ⟨⟨_,rfl⟩,rfl,rfl⟩ (λ_ _ _ _ h=>by rw[h.2.1];exact ab ep) ?_ ?_
    ·rintro l t r ρ M5 acc es ⟨⟨o0,rfl⟩,rfl,rfl⟩;refine⟨_,rfl,λN O=>?_⟩;have fv:=ag es;have J:=Jv (λt:Tm=>decide (t.1.1<2)) l;ac_nf;refine⟨_,_,rfl,rfl,?_⟩;ac_nf
     by_cases F:t.1.1<2
     ·rw[if_pos (by simpa using F)]
      refine⟨by rw[h7,r4];lia,O _ _ _ ⟨⟨_,rfl⟩,rfl,?_⟩⟩
      rw[JF,Jz (by simpa using F)];simp
     ·rw[if_neg (by simpa using F)]
      refine O _ _ _ ⟨⟨_,rfl⟩,rfl,?_⟩;rw[JF,JH (by simpa using F)];simp
    ·rintro ρ M5 acc ⟨⟨o0,rfl⟩,rfl,rfl⟩ pn hpn;have J:=Jv (λt:Tm=>decide (t.1.1<2)) ts;refine⟨by rw[r4];lia,q 2 (ts.filter λt=>decide (t.1.1<2)) pn _ ∅ (λt h=>?_) G ∅ aa⟩
     obtain⟨h4,h5⟩:=KJ.mp h;obtain⟨a,b,c⟩:=B t h4;exact⟨⟨a.1,by simpa using h5⟩,b,c⟩
theorem DS:∀c,c=12∨c=9∨c=8∨c=6->(1<=(fx c (J2 6)).length/\(fx c (J2 6)).length<=36)/\∀x∈fx c (J2 6),((1<=x.1/\x.1<=6)/\(1<=x.2/\x.2<=6))/\x.1*x.2<=c:=by
 intro c j
 rcases j with rfl|rfl|rfl|rfl<;>decide
theorem yf{n:Nat}(hn:3<=n)(hb:Box b M){mo:Int}(GC:mo=6∨mo=9∨mo=8∨mo=12)(q:∀(p:Int) (l r:Nat) M',(p=2∨p=3)->(1<=l/\l<=6)->(1<=r/\r<=6)->l*r<=12->(p=3->l*r<=9)->Bx b M M'->Q (.tup [.int p,.int l,.int r]) M'):phi tab n 26 [.ref b,.int mo] M Q:=by
 refine al ∅ rfl rfl (ρ:=[Z _,Z _,Y,Y,Y,Y]) rfl ?_
 unfold d26 L2.Mi.K43.b26;nofun;refine bR ∅ hb (by decide) (by decide) λr M1 r0 r1 x1=>?_
 ac_nf;nofun;refine⟨by rw[r4];lia,λps z=>?_⟩
 have g2:=Ge.new (o:=.lst []) z;have e2:=aa (M:=M1) (a:=ps) (o:=.lst []);generalize ah M1 ps (.lst [])=M2 at g2 e2⊢;have B:=fe x1.box z;have x2:=x1.ge g2;obtain⟨c,hc,J⟩:∃c:Nat,(c=12∨c=9∨c=8∨c=6)/\((r=0/\(if(12:Int)<mo then 12 else mo)=(c:Int))∨(r=1/\(if(9:Int)<mo then 9 else mo)=(c:Int)/\c<=9)):=by
  have:r=0∨r=1:=∅
  rcases this with h|h
  ·exact⟨mo.toNat,∅,.inl ⟨h,by split<;>lia⟩⟩
  ·exact⟨(if(9:Int)<mo then 9 else mo).toNat,by split<;>lia,.inr ⟨h,by split<;>lia,by split<;>lia⟩⟩
 nofun;refine⟨1,7,⟨rfl,rfl⟩,∅,?_⟩
 refine ao (f:=λa:Nat=>D.int (1+(a:Nat))) (ys:=J2 6) (I:=λl ρ M'=>∃o4 o5,ρ=[Z (.ref b),Z (.int mo),Z (.int (2+r)),Z (.ref ps),o4,o5]/\Bx b M M'/\M' ps=Z (.lst ((fx c l).map pnD))) rfl ⟨_,_,rfl,x2,e2⟩ (λ_ _ _ _=>trivial) ?_ ?_
 ·rintro l a rr ρ M3 e ⟨o4,o5,rfl,F2,L⟩;refine⟨_,rfl,λF hF=>?_⟩;rw[cw];ac_nf;refine⟨⟨_,L⟩,1,7,⟨rfl,rfl⟩,∅,?_⟩
  refine ak (f:=λa:Nat=>D.int (1+(a:Nat))) (ys:=J2 6) (I:=λl' ρ M' acc=>(∃o0,ρ=[o0,Z (.int (1+(a:Nat))),Z (.int mo),Z (.int (2+r))])/\Ge M3 M'/\acc=(fx1 c a l').map pnD) rfl ⟨⟨_,rfl⟩,Ge.refl,rfl⟩ (λ_ _ _ _ _=>trivial) ?_ ?_
  ·rintro l' a' rr' ρ M4 acc e' ⟨⟨o0,rfl⟩,g4,rfl⟩;refine⟨_,rfl,λN' O=>?_⟩;have GA:=ag e';rw[Jb]at GA;have ha:a<6:=by have h9:a∈J2 6:=(by rw[e];simp);simpa using h9
   have GD:(fx1 c a l').length<=l'.length:=by unfold fx1;rw[h7];exact Jv _ _
   ac_nf;refine⟨cL ∅,by rw[r4];lia,λp4 GB=>?_⟩
   have j:=g4.trans (Ge.new (o:=.lst [.int 12,.int 9]) GB);have cast:((1+(a:Int))*(1+(a':Int)))=(((1+a)*(1+a'):Nat):Int):=by push_cast;rfl
   have fin:∀fv (x:Int),Ge M3 fv->x=c->if(1+(a:Int))*(1+(a':Int))<=x then 0+1+1<=J9/\((fx1 c a l').map pnD).length<J9/\N' [Z (.int (1+(a':Nat))),Z (.int (1+(a:Nat))),Z (.int mo),Z (.int (2+r))] fv ((fx1 c a l').map pnD++[.tup [.int (1+(a:Nat)),.int (1+(a':Nat))]])else N' [Z (.int (1+(a':Nat))),Z (.int (1+(a:Nat))),Z (.int mo),Z (.int (2+r))] fv ((fx1 c a l').map pnD):=by
    intro fv x j ex
    by_cases hz:(1+a)*(1+a')<=c
    ·rw[if_pos (by rw[ex,cast];lia)]
     refine⟨by rw[r4];lia,by rw[h7,r4];lia,O _ _ _ ⟨⟨_,rfl⟩,j,?_⟩⟩
     unfold fx1;rw[JF,Jz (by simpa using hz)];simp[pnD]
    ·rw[if_neg (by rw[ex,cast];lia)]
     refine O _ _ _ ⟨⟨_,rfl⟩,j,?_⟩;unfold fx1;rw[JF,JH (by simpa using hz)];simp
   rcases J with⟨rfl,G⟩|⟨rfl,G,_⟩
   ·refine aK aa rfl ?_;ac_nf;exact fin _ _ j G
   ·refine aK aa rfl ?_;ac_nf;exact fin _ _ j G
  ·rintro ρ M4 acc ⟨⟨o0,rfl⟩,g4,rfl⟩ pp hpp;have j:=g4.trans (Ge.new (o:=.lst ((fx1 c a (J2 6)).map pnD)) hpp);have GE:(fx1 c a (J2 6)).length<=6:=by unfold fx1;rw[h7];exact Jv _ _
   have GF:(fx c l).length<=36:=by have:=vA (c:=c) (l:=l);have hh:=ag e;rw[Jb]at hh;lia
   have U:M ps=Y:=x1.none z B;refine⟨ps,pp,_,_,rfl,rfl,j _ _ L,aa,by rw[h7,h7,r4];lia,?_⟩
   refine hF _ _ ⟨_,_,rfl,(F2.ge j).upd U B,?_⟩;rw[aa,<-Jc];unfold fx;rw[JV];simp
 ·rintro ρ M3 ⟨o4,o5,rfl,F2,L⟩;dsimp only;rw[cw];ac_nf;obtain⟨⟨f1,f2⟩,f3⟩:=DS c hc;refine⟨_,_,rfl,ba (ab L),?_⟩;rw[h7];refine bR ∅ F2.box ∅ ∅ λv M4 v0 v1 x4=>?_
  obtain⟨i,rfl⟩:=JS v0;have hi:i<(fx c (J2 6)).length:=∅
  refine aK (x4.keep _ _ B L) (d:=pnD ((fx c (J2 6))[i])) ?_ ?_
  ·refine bx ?_;rw[Jj,z4 hi];rfl
  ·refine⟨_,rfl,?_⟩;nofun;have:=f3 _ (KO hi);exact⟨by rw[r4];lia,q (2+r) _ _ _ ∅ this.1.1 this.1.2 (by have h9:=this.2;lia) (λh=>by have h9:=this.2;rcases J with⟨h8,_⟩|⟨_,_,h8⟩<;>lia) (F2.trans x4)⟩
noncomputable def pl3(k i:Nat)(js:List Nat):List K3:=js.map λj=>(((k:Nat):Int),((i:Nat):Int),((j:Nat):Int))
noncomputable def pl2(k R:Nat)(is:List Nat):List K3:=is.flatMap λi=>pl3 k i (J2 R)
noncomputable def pl1(L R:Nat)(ks:List Nat):List K3:=ks.flatMap λk=>pl2 k R (J2 L)
theorem CK{ks:List Nat}(h:ks.Nodup):(pl1 L R ks).Nodup:=by
 unfold pl1;rw[JI,Of];refine⟨λk _=>?_,(JI.mp h).imp λ{a b} q x hx y B e=>?_⟩
 ·unfold pl2;rw[Of];refine⟨λi _=>?_,(JI.mp Ot).imp λ{a b} q x hx y B e=>?_⟩
  ·unfold pl3;rw[KU];refine(JI.mp Ot).imp λ{a b} q e=>q ?_;have:=congrArg (λz:K3=>z.2.2) e;exact Ou.inj this
  ·obtain⟨j,_,rfl⟩:=J8.mp hx;obtain⟨j',_,rfl⟩:=J8.mp B;have:=congrArg (λz:K3=>z.2.1) e;exact q (Ou.inj this)
 ·obtain⟨i,_,hx⟩:=KD.mp hx;obtain⟨j,_,rfl⟩:=J8.mp hx;obtain⟨i',_,B⟩:=KD.mp B;obtain⟨j',_,rfl⟩:=J8.mp B;have:=congrArg (λz:K3=>z.1) e;exact q (Ou.inj this)
theorem AI{n:Nat}(hn:6<=n)(hL:1<=L/\L<=6)(hR:1<=R/\R<=6)(hb:Box b M)(q:∀(many:Nat) (ts:List Tm) pt M',(1<=many/\many<=4)->(∀t∈ts,TI' L R many t)->(ts.map (·.1)).Nodup->ts.length<=1000->Bx b M M'->M pt=Y->M' pt=Z (.lst (ts.map tmD))->Q (.tup [.int L,.int R,.int many,.ref pt]) M'):phi tab n 34 [.ref b,.int L,.int R] M Q:=by
 refine al ∅ rfl rfl (ρ:=[Z _,Z _,Z _,Y,Y,Y,Y,Y]) rfl ?_
 unfold d34 L2.Mi.K43.b34;nofun;refine bR ∅ hb (by decide) (by decide) λc M1 c0 c1 x1=>?_
 obtain⟨many,rfl,hm⟩:∃N:Nat,c=(N:Int)-1/\1<=N/\N<=4:=⟨(c+1).toNat,∅,∅⟩
 ac_nf;rw[show(1:Int)+((many:Int)-1)=many by lia]
 nofun;refine bR ∅ x1.box (by decide) (by decide) λw M2 w0 w1 x2=>?_
 have x2:=x1.trans x2;clear x1 c0 c1;ac_nf;have mLR:L*R<=6*6:=JK hL.2 hR.2
 by_cases hw:w=0
 ·rw[if_pos (by simpa using hw)]
  nofun;refine⟨by rw[r4];lia,λpt GA=>?_⟩
  have g3:=Ge.new (o:=.lst []) GA;have e3:=aa (M:=M2) (a:=pt) (o:=.lst []);have G:=fe x2.box GA;have npt:=x2.none GA G;generalize ah M2 pt (.lst [])=M3 at g3 e3⊢;have x3:=x2.ge g3;nofun;refine⟨∅,∅,?_⟩
  rw[Jd];refine ao (f:=λi=>D.int (i:Nat)) (ys:=J2 many) (I:=λl ρ M'=>(∃o5 o6 o7,ρ=[Z (.ref b),Z (.int L),Z (.int R),Z (.int many),Z (.ref pt),o5,o6,o7])/\Bx b M M'/\∃ts:List Tm,M' pt=Z (.lst (ts.map tmD))/\(∀t∈ts,TI' L R many t)/\ts.length=l.length*(L*R)/\ts.map (·.1)=pl1 L R l) av ⟨⟨_,_,_,rfl⟩,x3,[],e3,by simp,by simp,rfl⟩ (λ_ _ _ _=>by first|rfl|trivial) ?_ ?_
  ·rintro l k r ρ M4 es ⟨⟨o5,o6,o7,rfl⟩,J,ts,e4,ht,hl,GB⟩;refine⟨_,rfl,λF hF=>?_⟩;have GI:=ag es;rw[Jb]at GI;have hk:k<many:=by have h9:k∈J2 many:=(by rw[es];simp);simpa using h9
   have ml:l.length*(L*R)<=4*36:=JK ∅ mLR
   nofun;refine⟨∅,∅,?_⟩
   rw[Jd];refine ao (f:=λi=>D.int (i:Nat)) (ys:=J2 L) (I:=λl2 ρ M'=>(∃o6 o7,ρ=[Z (.ref b),Z (.int L),Z (.int R),Z (.int many),Z (.ref pt),Z (.int (k:Nat)),o6,o7])/\Bx b M M'/\∃us:List Tm,M' pt=Z (.lst ((ts++us).map tmD))/\(∀t∈us,TI' L R many t)/\us.length=l2.length*R/\us.map (·.1)=pl2 k R l2) av ⟨⟨_,_,rfl⟩,J,[],by simpa using e4,by simp,by simp,rfl⟩ (λ_ _ _ _=>by first|rfl|trivial) ?_ ?_
   ·rintro l2 i r2 ρ M5 es2 ⟨⟨o6,o7,rfl⟩,x5,us,e5,hu,U,GC⟩;refine⟨_,rfl,λF2 GK=>?_⟩;have GL:=ag es2;rw[Jb]at GL;have hi:i<L:=by have h9:i∈J2 L:=(by rw[es2];simp);simpa using h9
    have GO:l2.length*R<=6*6:=JK ∅ hR.2
    nofun;refine⟨⟨_,e5⟩,∅,∅,?_⟩
    rw[Jd];refine ak (f:=λi=>D.int (i:Nat)) (ys:=J2 R) (I:=λl3 ρ M' acc=>(∃o0,ρ=[o0,Z (.int (k:Nat)),Z (.int (i:Nat)),Z (.ref b)])/\Bx b M M'/\M' pt=Z (.lst ((ts++us).map tmD))/\∃vs:List Tm,acc=vs.map tmD/\(∀t∈vs,TI' L R many t)/\vs.length=l3.length/\vs.map (·.1)=pl3 k i l3) av ⟨⟨_,rfl⟩,x5,e5,[],rfl,by simp,rfl,rfl⟩ (λ_ _ _ _ _=>trivial) ?_ ?_
    ·rintro l3 j r3 ρ M6 acc es3 ⟨⟨o0,rfl⟩,x6,e6,vs,rfl,hv,F2,GD⟩;refine⟨_,rfl,λN hN=>?_⟩;have GM:=ag es3;rw[Jb]at GM;have hj:j<R:=by have h9:j∈J2 R:=(by rw[es3];simp);simpa using h9
     ac_nf;refine bR ∅ x6.box (by decide) (by decide) λz M7 z0 z1 x7=>?_
     ac_nf;refine⟨by rw[r4];lia,by rw[h7,r4];lia,hN _ _ _ ⟨⟨_,rfl⟩,x6.trans x7,x7.keep _ _ G e6,vs++[((((k:Nat):Int),((i:Nat):Int),((j:Nat):Int)),z-3)],?_,?_,?_,by rw[Jc,GD];simp[pl3]⟩⟩
     ·rw[Jc];rfl
     ·intro t O
      rcases Ja.mp O with h|h
      ·exact hv t h
      ·rw[JE.mp h];exact⟨⟨by dsimp only;lia,by dsimp only;lia⟩,⟨by dsimp only;lia,by dsimp only;lia⟩,⟨by dsimp only;lia,by dsimp only;lia⟩⟩
     ·rw[q7,q7,F2];rfl
    ·rintro ρ M6 acc ⟨⟨o0,rfl⟩,x6,e6,vs,rfl,hv,F2,GD⟩ pe hpe;have g7:=Ge.new (o:=.lst (vs.map tmD)) hpe;rw[Jb]at F2;refine⟨pt,pe,_,_,rfl,rfl,g7 _ _ e6,aa,by rw[h7,h7,q7,r4];lia,?_⟩
     refine GK _ _ ⟨⟨_,_,rfl⟩,(x6.ge g7).upd npt G,us++vs,?_,?_,?_,by rw[Jc,GC,GD];simp[pl2,JV]⟩
     ·rw[aa];simp
     ·intro t O
      rcases Ja.mp O with h|h
      ·exact hu t h
      ·exact hv t h
     ·rw[q7,q7,U,F2,JC,Kq]
   ·rintro ρ M5 ⟨⟨o6,o7,rfl⟩,x5,us,e5,hu,U,GC⟩;rw[Jb]at U;refine hF _ _ ⟨⟨_,_,_,rfl⟩,x5,ts++us,e5,?_,?_,by rw[Jc,GB,GC];simp[pl1,JV]⟩
    ·intro t O
     rcases Ja.mp O with h|h
     ·exact ht t h
     ·exact hu t h
    ·rw[q7,q7,hl,U,JC,Kq]
  ·rintro ρ M4 ⟨⟨o5,o6,o7,rfl⟩,J,ts,e4,ht,hl,GB⟩;dsimp only;rw[Jb]at hl;have ml:many*(L*R)<=4*36:=JK ∅ mLR
   nofun;refine⟨_,ab e4,?_⟩;refine ak (f:=tmD) (ys:=ts) (I:=λl ρ M' acc=>(∃o0,ρ=[o0])/\M'=M4/\acc=(l.filter λt=>!(t.2==0)).map tmD) rfl ⟨⟨_,rfl⟩,rfl,rfl⟩ (λ_ _ _ _ h=>by rw[h.2.1];exact ab e4) ?_ ?_
   ·rintro l t r ρ M5 acc es ⟨⟨o0,rfl⟩,rfl,rfl⟩;refine⟨_,rfl,λN hN=>?_⟩;have GI:=ag es;have GN:=Jv (λt:Tm=>!(t.2==0)) l;ac_nf;refine⟨_,_,rfl,rfl,?_⟩;ac_nf
    by_cases hz:t.2=0
    ·rw[if_neg (by simp[hz])]
     refine hN _ _ _ ⟨⟨_,rfl⟩,rfl,?_⟩;rw[JF,JH (by simp[hz])];simp
    ·rw[if_pos (by simp[hz])]
     refine⟨by rw[h7,r4];lia,hN _ _ _ ⟨⟨_,rfl⟩,rfl,?_⟩⟩
     rw[JF,Jz (by simp[hz])];simp
   ·rintro ρ M5 acc ⟨⟨o0,rfl⟩,rfl,rfl⟩ pn GE;have GN:=Jv (λt:Tm=>!(t.2==0)) ts;have GF:=fe J.box GE;exact⟨by rw[r4];lia,q many _ pn _ hm (λt h=>ht t (KJ.mp h).1) (by have h9:=CK (L:=L) (R:=R) (Ot (n:=many));rw[<-GB]at h9;exact h9.sublist (Ov _ Nx)) ∅ (J.ge (Ge.new GE)) (J.none GE GF) aa⟩
 ·rw[if_neg (by simpa using hw)]
  nofun;refine⟨by rw[r4];lia,λa GG=>?_⟩
  have g3:=Ge.new (o:=.lst [.int L,.int R,.int many]) GG;have ha:=aa (M:=M2) (a:=a) (o:=.lst [.int L,.int R,.int many]);have GJ:=fe x2.box GG;generalize ah M2 a (.lst [.int L,.int R,.int many])=M3 at g3 ha⊢;have x3:=x2.ge g3;clear x2 g3 GG;refine bR ∅ x3.box (by decide) (by decide) λc M4 c0 c1 J=>?_
  have ha:=J.keep _ _ GJ ha;have J:=x3.trans J;clear x3;obtain⟨c,rfl⟩:=JS c0;refine sY (x:="_law_count_here") (s:=aj 27) (ft:=20) (fp:=21) rfl (bR ∅) (xX ∅) ∅ ∅ ∅ ∅ ∅ J.box GJ ha λps pr M5 GP B x5 npr epr=>?_
  have x5:=J.trans x5;have m1:L*(R*many)<=6*(6*4):=JK hL.2 (JK hR.2 hm.2);have m2:ps.length*(L*(R*many))<=4*(6*(6*4)):=JK ∅ m1
  nofun;refine oV (s:=aj 28) rfl ∅ ∅ ∅ ∅ epr ∅ (λp h=>⟨lP (B p h).s0,lP (B p h).s2,(B p h).l0,(B p h).l1,(B p h).l2⟩) λLs ds M6 fv GQ g6 nds eds=>?_
  have x6:=x5.ge g6;refine xW (s:=aj 29) rfl ∅ fv.nd ∅ eds λrs pt M7 GH _ g7 npt ept=>?_
  have GF:=fe x6.box npt;refine⟨by rw[r4];lia,q many rs pt _ hm (λt ht=>?_) ((GH.map (·.1)).nodup_iff.mpr fv.nd) (by rw[GH.length_eq];lia) (x6.ge g7) (x6.none npt GF) ept⟩
  have ht:=GH.mem_iff.mp ht;have e:=fv.val ht;have z:=fv.nz t ht;rw[<-e]at z;obtain⟨h1,h2,h3⟩:=oS (λu hu=>⟨(B u hu).l0,(B u hu).l1,(B u hu).l2⟩) z;exact⟨h1,h2,h3⟩
theorem EL{a b:D}(q:Q (.tup [a,b]) M):cC (.tup [a,b]) Y (Z 2) M Q:=q
theorem EM{a b c:D}(q:Q (.tup [a,b]) M):cC (.tup [a,b,c]) Y (Z 2) M Q:=q
theorem yS{s:Str}{i:Int}(hs:Ql s=N2)(q:Q (.bl Ua) M):wNe (.tup [.str s,.int i]) (.tup [.str s,.int i]) M Q:=by
 refine⟨.tuple [.str s,.int i],.tuple [.str s,.int i],by simp[rb,aF,hs],by simp[rb,aF,hs],?_⟩
 rw[show Km (.tuple [.str s,.int i]) (.tuple [.str s,.int i])=N2 by simp[Km,Lk]]
 exact q
theorem iq{s t:Str}(b:Bool)(hs:Ql s=N2)(j:Ql t=N2)(z:(s==t)=b)(q:Q (.bl b) M):wEq (.str s) (.str t) M Q:=by
 refine⟨.str s,.str t,by simp[rb,hs],by simp[rb,j],?_⟩
 rw[show Km (.str s) (.str t)=b by rw[<-z];simp[Km]]
 exact q
theorem law_holds(ns:List Int)(hl:ns.length<=63):phi tab 40 42 [.con (ns.map D.int)] (λ_=>Y) λd _=>d=.bl N2:=by
 refine al ∅ rfl rfl (ρ:=[Z _,Y,Y,Y,Y,Y,Y,Y,Y]) rfl ?_
 unfold d42 b42;nofun;rw[h7];refine⟨by split<;>lia,by split<;>lia,?_⟩
 refine ao (I:=λl ρ M'=>∃fv o2 o3 o4 o5 o6 o7 o8,ρ=[Z (.con (ns.map D.int)),fv,o2,o3,o4,o5,o6,o7,o8]) av ⟨_,_,_,_,_,_,_,_,rfl⟩ (λ_ _ _ hI=>trivial) ?_ ?_
 ·rintro l k r ρ M8 e ⟨fv,o2,o3,o4,o5,o6,o7,o8,rfl⟩;refine⟨_,rfl,λF hF=>?_⟩;nofun;refine Cg (s:=aj 24) (fc:=17) (fm:=18) (sc:=aj 22) rfl rfl (qR ∅) ∅ ∅ λb x y GA=>?_
  have j:Box b (ah M8 b (.lst [.int x,.int y,.int 0])):=⟨_,_,_,aa⟩;generalize ah M8 b (.lst [.int x,.int y,.int 0])=M0 at j⊢;nofun;refine⟨by rw[r4];lia,λpm z=>?_⟩
  have B:=fe j z;have em:=aa (M:=M0) (a:=pm) (o:=.lst ([6,9,8,12].map D.int));have j:=(Bx.of j (Ge.new (o:=.lst ([6,9,8,12].map D.int)) z)).box;change phi _ _ _ _ (ah M0 pm (.lst ([6,9,8,12].map D.int))) _;generalize ah M0 pm (.lst ([6,9,8,12].map D.int))=M1 at j em⊢;refine bR ∅ j (by decide) (by decide) λv M2 v0 v1 x2=>?_
  have em:=x2.keep _ _ B em;obtain⟨v,rfl⟩:=JS v0;have hv:v<([6,9,8,12]:List Int).length:=by simp;lia
  have ha:([6,9,8,12]:List Int)[v]?=Z ([6,9,8,12]:List Int)[v]:=z4 hv;have GB:([6,9,8,12]:List Int)[v]=6∨([6,9,8,12]:List Int)[v]=9∨([6,9,8,12]:List Int)[v]=8∨([6,9,8,12]:List Int)[v]=12:=by
   have h9:v=0∨v=1∨v=2∨v=3:=∅
   rcases h9 with rfl|rfl|rfl|rfl
   ·exact .inl rfl
   ·exact .inr (.inl rfl)
   ·exact .inr (.inr (.inl rfl))
   ·exact .inr (.inr (.inr rfl))
  refine aK em (bx (by rw[Jj,ha];rfl)) ?_
  refine yf ∅ x2.box GB λp L R M3 hp h0 h1 GC G x3=>?_
  obtain⟨P,rfl,hP⟩:∃P:Nat,p=(P:Int)/\(P=2∨P=3):=⟨p.toNat,∅,∅⟩
  have hB:Bd P (L*R):=by
   rcases hP with h|h
   ·exact .inl ⟨h,GC⟩
   ·exact .inr ⟨h,G ∅⟩
  refine⟨_,rfl,?_⟩;nofun;refine AI ∅ h0 h1 x3.box λmany ts pt M4 hm ht J O x4 npt ept=>?_
  refine CJ ∅ hP h0 h1 hm ht J O ept λmany us pu M5 hm hu U GD epu=>?_
  clear ht J O ept npt x4 x3 x2 em j GA B;nofun;refine CF ∅ hB h0 h1 ∅ hu epu λe b M6 ho k6=>?_
  have epu:=k6 _ _ epu;nofun;refine ye ∅ hB h0 h1 ⟨hm.1,∅⟩ hu U epu (λe' M7 q g7=>?_) (λe' ps pr M7 q hS GE F2 epr g7=>?_)
  ·obtain⟨rfl,rfl⟩:=ho.uniq q;nofun;refine EL (yS (by decide +kernel) ⟨_,rfl,?_⟩)
   rw[if_neg (by decide)]
   nofun;refine⟨_,rfl,iq N2 (by decide +kernel) (by decide +kernel) (by decide +kernel) ⟨_,rfl,?_⟩⟩
   rw[if_pos rfl];ac_nf;rw[if_neg (by decide)]
   nofun;refine⟨_,rfl,iq Ua (by decide +kernel) (by decide +kernel) (by decide +kernel) ⟨_,rfl,?_⟩⟩
   rw[if_neg (by decide)]
   nofun;refine⟨_,rfl,iq Ua (by decide +kernel) (by decide +kernel) (by decide +kernel) ⟨_,rfl,?_⟩⟩
   rw[if_neg (by decide)]
   exact hF _ _ ⟨_,_,_,_,_,_,_,_,rfl⟩
  ·obtain⟨rfl,rfl⟩:=ho.uniq q;nofun;refine EM (yS (by decide +kernel) ⟨_,rfl,?_⟩)
   rw[if_neg (by decide)]
   nofun;refine⟨_,rfl,iq Ua (by decide +kernel) (by decide +kernel) (by decide +kernel) ⟨_,rfl,?_⟩⟩
   rw[if_neg (by decide)]
   nofun;refine⟨_,rfl,iq N2 (by decide +kernel) (by decide +kernel) (by decide +kernel) ⟨_,rfl,?_⟩⟩
   rw[if_pos rfl];refine⟨_,rfl,3,_,rfl,rfl,_,_,rfl,ba (ab epr),_,rfl,?_⟩;rw[h7,GE];ac_nf;rw[if_neg (by simp)]
   nofun;refine⟨_,rfl,iq N2 (by decide +kernel) (by decide +kernel) (by decide +kernel) ⟨_,rfl,?_⟩⟩
   rw[if_pos rfl];refine⟨_,rfl,?_⟩;refine AH ∅ hP h0.2 h1.2 ∅ hS F2 U GD epr (g7 _ _ epu) λM9=>⟨_,rfl,?_⟩
   rw[if_neg (by decide)]
   exact hF _ _ ⟨_,_,_,_,_,_,_,_,rfl⟩
 ·rintro ρ M1 ⟨fv,o2,o3,o4,o5,o6,o7,o8,rfl⟩;dsimp only;nofun
end K43
end
end
end Mi
end L2
end
namespace PySem.W.Fast
theorem tw14286026678531500866:True:=trivial
theorem tw14629295920351654400:True:=trivial
theorem tw2055902751549360606:True:=trivial
theorem tw17549456232702648045:True:=trivial
theorem tw16409724993686554703:True:=trivial
theorem tw934031826344286763:True:=trivial
theorem tw10421236627079099619:True:=trivial
theorem tw10714802138714417852:True:=trivial
theorem tw528699536858037836:True:=trivial
theorem tw18425726381317003110:True:=trivial
theorem tw13671097399195884475:True:=trivial
theorem tw3270207028351258105:True:=trivial
theorem tw10180092253255941815:True:=trivial
theorem tw5854299979748081502:True:=trivial
theorem tw5109940370542999015:True:=trivial
theorem tw2568358985471141837:True:=trivial
theorem tw7690835143258815209:True:=trivial
theorem tw14600794960380925703:True:=trivial
theorem tw17497043828318304755:True:=trivial
theorem tw5693904701551306599:True:=trivial
theorem tw15592353721169597243:True:=trivial
theorem tw2730124557917550341:True:=trivial
theorem tw4639098662036781878:True:=trivial
theorem tw17583157008477311631:True:=trivial
theorem tw18107732092664945970:True:=trivial
theorem tw9046201840539641297:True:=trivial
theorem tw17053413061049781553:True:=trivial
theorem tw8584485789174535294:True:=trivial
theorem tw6065205860000768247:True:=trivial
theorem tw12742465523953969087:True:=trivial
theorem tw9520982192876658014:True:=trivial
theorem tw803911909615815272:True:=trivial
theorem tw6766454961673579934:True:=trivial
theorem tw15449512896354129601:True:=trivial
theorem tw7866366979665479237:True:=trivial
theorem tw9022868581607739331:True:=trivial
theorem tw5889432645230553615:True:=trivial
theorem tw5124030680069761405:True:=trivial
theorem tw3321854906712274674:True:=trivial
theorem tw5080504042120549384:True:=trivial
theorem tw14911971540951779982:True:=trivial
theorem tw9720731855649979254:True:=trivial
theorem tw2994865838321978550:True:=trivial
theorem tw4525399307078416479:True:=trivial
theorem tw3774488243610264864:True:=trivial
theorem tw4373251783620918057:True:=trivial
theorem tw7851956059364713718:True:=trivial
theorem tw361839099206221540:True:=trivial
theorem tw4931328730965735465:True:=trivial
theorem tw1398947013411253360:True:=trivial
theorem tw11819744460872157016:True:=trivial
theorem tw1333948148076325174:True:=trivial
theorem tw16248108447582875378:True:=trivial
theorem tw12276335183806096138:True:=trivial
theorem tw16922147077983668492:True:=trivial
theorem tw1571226229316028129:True:=trivial
theorem tw13707853300769027674:True:=trivial
theorem tw1410490968279592394:True:=trivial
theorem tw8354457808723148801:True:=trivial
theorem tw3474742237235032023:True:=trivial
theorem tw1767520395172898806:True:=trivial
theorem tw17403635823532022648:True:=trivial
theorem tw15880072229555734983:True:=trivial
theorem tw9902233723944536730:True:=trivial
theorem tw18049227505837871764:True:=trivial
theorem tw13675217010620994848:True:=trivial
theorem tw7427783856842219830:True:=trivial
theorem tw9416696934713769353:True:=trivial
theorem tw5504128313910954489:True:=trivial
theorem tw16302775054970625505:True:=trivial
theorem tw12277615762703248633:True:=trivial
theorem tw9512857485970175036:True:=trivial
theorem tw16395475965774414063:True:=trivial
theorem tw9566244555074697669:True:=trivial
theorem tw15711149815543588237:True:=trivial
theorem tw6905818173747053172:True:=trivial
theorem tw18133736412678382806:True:=trivial
theorem tw6254288549685534132:True:=trivial
theorem tw6044827661199854351:True:=trivial
theorem tw5197315183809089659:True:=trivial
theorem tw13130343796174350519:True:=trivial
theorem tw2876050236796762114:True:=trivial
theorem tw7046374897079509255:True:=trivial
theorem tw12147091834029731750:True:=trivial
theorem tw10908966456330297186:True:=trivial
theorem tw13922960582957026488:True:=trivial
theorem tw9097580559691434942:True:=trivial
theorem tw2106257337898311182:True:=trivial
theorem tw13539445456823179625:True:=trivial
theorem tw1729888411187181020:True:=trivial
theorem tw18253359061065713072:True:=trivial
theorem tw6884319168063282258:True:=trivial
theorem tw8991333883824633504:True:=trivial
theorem tw8221198468484689096:True:=trivial
theorem tw8444741104346530414:True:=trivial
theorem tw4020082636728623035:True:=trivial
theorem tw3281958752544797506:True:=trivial
theorem tw4596236997845036621:True:=trivial
theorem tw3428204880083454734:True:=trivial
theorem tw4645354285404684440:True:=trivial
theorem tw8214595822557660136:True:=trivial
theorem tw10937603605240891311:True:=trivial
theorem tw2325800761805616319:True:=trivial
end PySem.W.Fast
open PySem.W in
set_option maxRecDepth 100000 in
set_option maxHeartbeats 0 in
theorem PySem.Challenge.cw_fewtimes_k43_least_or_open_holds : PySem.Challenge.rw_fewtimes_k43_least_or_open.Holds := by
 w_on;o_law;k_head;(case hw=>w_witness2)
 k_fill
 refine L2.Mi.K43.walk (l:=PySem.Challenge.rw_fewtimes_k43_least_or_open) rfl rfl L2.Mi.K43.law_holds (fun w h Y=>PySem.W.kIn_of Y) ?F
 case F =>
  intro w mg fa h KX G hmg;refine' L2.Mi.K43.all_mk KX G hmg ?z ?_ ?_ ?_ ?_ ?_ ?_ ?_ ?_ ?_ ?_ ?_ ?_ ?_ ?_ ?_ ?_ ?_ ?_ ?_ ?_ ?_ ?_ ?_ ?_ ?_ ?_ ?_ ?_ ?_ ?_ ?_ ?_ ?_ ?_ ?_ ?_ ?_ ?_ ?_ ?_ ?_ ?_ ?_ ?_ ?_ ?_ ?_ ?_ ?_ ?_ ?_ ?_ ?_ ?_ ?_ ?_ ?_ ?_ ?_ ?_ ?_ ?_ ?_ ?_ ?_ ?_ ?_ ?_ ?_ ?_ ?_ ?_ ?_ ?_ ?_ ?_ ?_ ?_ ?_ ?_ ?_ ?_ ?_ ?_ ?_ ?_ ?_ ?_ ?_ ?_ ?_ ?_ ?_ ?_ ?_ ?_ ?_ ?_ ?_ ?_ ?_ ?_ ?_ ?_ ?_ ?_ ?_ ?_ ?_ ?_ ?_ ?_ ?_ ?_ ?_ ?_ ?_ ?_ ?_ ?_ ?_ ?_ ?_ ?_ ?_ ?_ ?_ ?_ ?_ ?_ ?_ ?_ ?_ ?_ ?_ ?_ ?_ ?_ ?_ ?_ ?_ ?_ ?_ ?_ ?_ ?_ ?_ ?_ ?_ ?_ ?_ ?_ ?_ ?_ ?_ ?_ ?_ ?_ ?_ ?_ ?_ ?_ ?_ ?_ ?_ ?_ ?_ ?_ ?_ ?_ ?_ ?_ ?_
  case z =>
   intro x hx;simp only [L2.Mi.bltNames,List.mem_cons,List.not_mem_nil,or_false] at hx
   rcases hx with rfl | rfl | rfl | rfl | rfl | rfl | rfl | rfl | rfl | rfl | rfl | rfl | rfl | rfl | rfl | rfl | rfl | rfl | rfl | rfl <;> k_is
  all_goals try (show _=_;k_is)
