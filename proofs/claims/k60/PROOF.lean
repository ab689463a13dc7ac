import PyProof.Rows.All
import Wide.All
import OpenK.AllK
import Wide.FinOn
import Lean
import PyProof.EqAt
import PyProof.EqKinds
import PyProof.TupleCall
import PyProof.ZipIter
import PyProof.EnumMake
import PyProof.EnumFor
import PyProof.CollectIter
import PyProof.TupleKey
import PyProof.DictRoadsH
import PyProof.P3Eq
import PyProof.Rows.SeqMore
import PyProof.ConsumeWalk
import PyProof.Rows.SortShellK
import PyProof.DictItems
import PyProof.DictWalks
import PyProof.AttrMissHeap
import PyProof.DictIter
import PyProof.MaxThree
import PyProof.SeqI3
import PyProof.DictTruth
import PyProof.Rows.TupDisplay
import PyProof.ListCopy
import PyProof.NeKinds
import PyProof.RaisesDict
import KE.KDictOf
import PyProof.Rows.CallKwBuiltin
import PyProof.DelItemList
import PySem.Challenge.RW_fewtimes_k60_whole_does_beside_all_rows
set_option Elab.async false
set_option linter.all false
set_option compiler.extract_closed false
set_option genSizeOf false
set_option bootstrap.genMatcherCode false
set_option maxRecDepth 100000
set_option maxHeartbeats 4000000
open PySem.W (Frag)
open PySem renaming wpAny_bind->gV,Value->hH,Shared->p7,sizeLine_eq->z4,wpAny_pure->D0,sizeLine->Kn,wpAny->Kr,wpAny_setField_rec->KI,model->KN,Program->KW,starEach->L8,wpAny_callSpecial?_slot->La,wpAny_call_entry->Le,wpAny_field->Lg,World->Lo,Around->Lr,DictEntry->Ly,wpAny_holding->LN,Comprehension->LO,Paired->LP,wpAny_newObj_type->LQ,wpAny_mono->LW,PyData->Me,mainGlobals->Mf,compareOp->Ml,Builtin->Mp,sysModules->Mv,mem_of_lookup->Mx,binaryOp->MA,wpAny_seqItems->MB,wpAny_pyIter_tuple->MM,wpAny_rule->MW,codeAny_builtin->MY,pyNext->MZ,assignEach->N7,wpAny_attempt->Nb,foldedSetIterable->Ng,cellsFrom->Nh,wpAny_pyIter_list->Ni,wpAny_loadPart'->Nj,wpAny_ite_false->Nk,rawInt->Nw,cLine->NA,wpAny_of_eq->NB,inplaceOp->NF,wpAny_passesOwn->NO,wpAny_truthy_bool->NT,wpAny_letGo->NU,swappedStores->NY,IsPair->O6,NameKind->Ob,wpAny_isInstance->Od,bootBuiltins->Og,wpAny_Call_Name_kw->Oi,wpAny_typeOf->Ol,wpAny_standAt->OB,plainId_quiet->OD,Operator->OL,FuncData->OM,firstArgMember->OO,wpAny_newTuple->OP,isSubtype_type->OQ,codeAny->OT,codeAny_mono->OU,backTo->P0,swapsWithSole->P2,behindInMarks->P4,Reads->P7,tupleKind_room_in1->Pg,Model->Po,swapsWith->Pp,sliceBounds->Pw,wpAny_ite_true->PM,builtinLookup_eq_fast->PR,call_meets->PY,attributeBase->Q6,wpAny_newList->Q8,richCompare->Qa,wpAny_updateSeq_pair->Qb,letOwnedTupleGo->Qi,Keyword->Qv,tupleKind->QE,isSubtype_stop->QN,wpAny_tryCatch->QS,intBits_mul_le->QW,wpAny_binaryOp_repeat_ref->QX,standAt->R7,getItem->R8,IsZip->Rb,wpAny_pyIter_slot->Rc,pyIter->Rg,wpAny_comprehension_free->Rh,wpAny_onRaise->Ri,intBits_le_64->Rj,noFill_tuple_add->Rx,wpAny_Call_method0_late->RG,IsPart->RV,seqIndex_neg->RW,wpAny_getItem_list_neg->RY,typeIs_int->RZ,IsEnum->S2,wpAny_execs_nil->Sd,pushCells_keeps->Sg,typeLookup_type->Si,wpAny_updateSeq->Sj,wpAny_loadName_local->Sr,seqIndex_of->Sw,keywordEach->Sx,newFunctionEnv->Sz,ZipApart->SA,ReadsAll->SF,setItem->SO,callerA->SQ,valueAt->SR,seqItems?->SS,wpAny_loadName_cell->SU,evalArgs_none->T1,assignInOrder->T3,seq_tuple_add->T5,wpAny_handled->T6,mroOf_keyiter->T7,foldedForSure->Tb,BindsTo->Tx,concat_meets->Tz,wpAny_sequenceKey->TB,wpAny_pyIter_enum->TL,Result->U8,wpAny_Dict_empty->Ub,pushCells->Uc,wpAny_pyIter_zip->Ug,IsEnumOut->Uh,entryFor_of_tree->Uo,fillsInplaceSlot->Ur,atKey->Uz,wpAny_throw->UB,builtinsNs->US,wpAny_Name->UT,bindName->UU,wpAny_load->UW,bindL->UX,bindC->UY,typeLookup->V0,backToKw->V1,call->V2,newExc->V4,newTuple->V5,argsOk->V7
open PySem.Heap renaming get?_push_of_some->hW,lt_size->Kg,get?_push_size->Kj,get?_update_ne->LC,size_push->Mc,SameBut->Mo,get?_update_other->Mq,get?_update_self->OF,get?_push_cases->Qc,IsTuple->Qx,IsList->SE,ExtBut->UA
open Bool renaming and_eq_true->q7,false_ne_true->Kl,not_eq_true'->Mz,false_eq_true->MK,not_eq_true->Q0,false_or->Q7,and_eq_true_iff->Qe,or_eq_true->Qn,eq_iff_iff->UR
open List renaming length_map->tv,range->D1,length_append->D2,getElem?_eq_getElem->I7,getElem?_append_right->J4,replicate->Kf,pairwise_append->Kh,mem_map->Ki,mem_cons->Km,size_toArray->Kq,map_cons->Ks,getD_eq_getElem?_getD->Kv,length_range->Kx,mem_append->Kz,getElem?_append_left->KA,append_assoc->KD,getElem?_map->KH,getElem?_eq_some_iff->KO,mem_cons_of_mem->KQ,mem_append_right->KR,mem_of_getElem?->KU,mem_map_of_mem->KY,length_take->L3,length_cons->L4,mem_range->L7,mem_cons_self->Lc,map_append->Ld,toList_toArray->Lf,not_mem_nil->Lj,map_congr_left->Lm,length_eq_zero_iff->Ls,mem_append_left->Lz,length_pos_iff->LB,pairwise_map->LF,flatMap_cons->LG,nodup_iff_pairwise_ne->LH,length_singleton->LJ,filter_cons_of_neg->LL,flatten_cons->LS,getElem?_eq_none->LX,getElem?_range->LY,mem_filter->LZ,nodup_cons->Ma,length_nil->Mb,filter_cons_of_pos->Md,append_nil->Mg,replicate_succ->Mh,find?_cons->Mn,map_map->Ms,mem_flatMap->Mt,drop_eq_getElem_cons->Mu,length_drop->MP,mem_iff_getElem->MQ,any_cons->MU,getElem?_set_self->MV,ext_getElem?->MX,take_append_drop->N4,length_filter_le->N5,any_eq_true->N9,zipWith->Nc,dropLast_concat_getLast->Np,flatten_append->Nu,flatMap_append->Nv,drop_eq_nil_of_le->Nx,take_of_length_le->Ny,lookup_cons->NG,Perm->NH,range_succ->NR,getElem?_set_ne->NS,mem_of_mem_drop->NV,mem_of_mem_take->NW,sum_cons->O8,getElem?_cons_succ->Oe,map_nil->Om,find?_cons_of_neg->Ou,filter_append->Ov,map_set->Ow,length_set->Ox,forIn_cons->Oz,all_cons->OC,perm_append_comm->OH,pairwise_flatMap->OI,nodup_append->OK,map->OR,mem_reverse->OW,cons_append->OX,all_eq_true->OY,getElem?_take_of_lt->P5,of_mem_zip->Pa,pairwise_cons->Ph,getElem?_drop->Pk,mem_singleton->Pn,extract->PF,reverse_perm->PH,find?_cons_of_pos->PN,foldl->PX,map_zipWith->Q4,ext_getElem->Q5,length->Q9,getElem?_mapIdx->Qf,nil_append->Qj,filterMap_cons->Qs,zip_cons_cons->QI,drop_drop->QP,find?_eq_none->QU,mem_of_find?_eq_some->QZ,mem_or_eq_of_mem_set->R3,length_erase_of_mem->Rt,getElem?_replicate->Ru,zipIdx_cons->Rz,getElem_mem->RF,getElem?_cons_zero->RL,length_pos_of_mem->Sa,foldl_cons->Se,sum_append->Sl,length_zip->Sm,pairwise_reverse->Sn,forIn_nil->SD,reverse_reverse->SG,mem_erase_of_ne->SN,length_reverse->SX,zip_eq_zipWith->T2,mem_filterMap->Tf,set_cons_zero->Ts,set_cons_succ->Tt,take_add_one->TR,drop_length->Ui,perm_middle->Uk,map_snd_zip->Um,zipWith_map->Uv,map_flatMap->Uw,nodup_range->Ux,map_id->UD,zipIdx_nil->UM,find?_some->UP,mem_mapIdx->UQ
open PyProof.Rows renaming wpS_bind->Kk,Keyed->Ko,pendingOf->KJ,arrOf->Lu,wpS_forRange->LK,SortSt->LM,kindOf->Mw,callWith_type1->MR,slot_tuple_getitem->N1,wpS_modify->N8,get?_update_seq->Nr,failedOf->Nt,listUpdate_at->O7,SortKind->P9,IntsAre->Pb,wpS_get->Pc,setPending->Pj,callWith_builtin1->PV,mem_zip_self->QA,assignInOrder_cons->QG,AllBare->R6,seqSlot_of->RB,subscriptTail_builtinR->RX,envOfC->Su,entry_tuple_getitem->SV,args_tuple_getitem->Th,seqObj->Tp,assignInOrder_nil->Tu,listItems_at->TV,entry_list_iadd'->Up,IsTup->Uy,keyKind'_eq->UE,seqEpoch_at->UG,mergeAt'->V6
open Nat renaming le_refl->Ku,mul_le_mul->L5,ne_of_lt->Lb,lt_of_lt_of_le->Li,le_trans->LA,lt_irrefl->LD,ne_of_gt->LR,zero_le->Mj,succ_mul->Mr,min_eq_left->Nm,mul_le_mul_right->NX,le_of_lt->OS,lt_succ_of_lt->PD,sub_self->Qy,zero_add->Qz,add_assoc->Rk,succ_le_succ->RC,lt_succ_self->Uj,mul_add->UK,not_lt->V3,succ->Vf
open Array renaming toList_append->Kw,toList_push->KG,getElem?_toList->KS,length_toList->L6,getElem?_eq_getElem->L9,toList_reverse->Lq,toList_extract->Nf,getElem?_eq_none->Ot,size_append->OJ,toList_inj->Q2,map->Q3,size_push->Qp,toList_setIfInBounds->QR,toList->RU,all_eq_true->TX,filterMap->UO
open Int renaming toNat_natCast->KL,eq_ofNat_of_zero_le->Lk,add_mul->ND,toNat_of_nonneg->Oa,emod_lt_of_pos->Pm,mul_add->Px,mul_le_mul_of_nonneg_left->Qh,natCast_mul->Qo,emod_nonneg->Qr,add_zero->QC,natAbs_mul->QV,mul_assoc->Rp,mul_comm->S9,natCast_add->Sk,add_assoc->Tc,emod_eq_of_lt->U3,pow_succ->U4
open PySem.W renaming mg_of->KP,kia_one->Mm,fnOf->Oj,keepIn->ON,nsIn->OV,cellsFrom_some->Py,codeIn->QH,methodObj->R4,instObj->Sb,OpenLaw->Sf,lookIn->Ss,kitx_list->Tv,kitx_dict->Tw,plainGet->U7
open PySem.Value renaming ref->KZ,type->Lh,none->N6,bool->RT,notImplemented->Sv,int->U5,str->U6
open PySem.NameKind renaming free->Ll,cell->Na
open List.Perm renaming append_left->Lv,append_right->LU,of_eq->OA,refl->SH
open PySem.PyData renaming eqv->Lw,eqvAll->Lx,canLayAll0->Mk,depthAll->Nl,depth->Oq,canLay0->PJ,tuple->TN,list->UC
open PySem.Str renaming ofString->LI
open PySem.Builtin.Dict_items renaming pairFromOwner->LV,ownedTupleIsFree->MD,isOneOf->NL
open PySem.Obj renaming mapSeq->My,data_mapFields->Tj
open PySem.SeqAt renaming readOf->MJ,readOf_eq->Nq,eqAt_reads->Ul,EqAt->UZ
open Option renaming some->MN,map_some->NQ,isSome_iff_exists->NZ,bind_some->RE,getD_some->RN,isSome_some->Ti,isSome_map->TH,getD_none->U9,join_some->Us,bind_none->Ut,join_none->Uu
open PySem.Builtin.List renaming listLengthHint->Nz,listTooLong->O1,listFitsIndex->QT
open PySem.F renaming plain_min_loop->NI,slot_tuple_iterator_next->NJ,slot_enumerate_next->OG,args_tuple_add_2->P6,entry_tuple_add->Pu,slot_tuple_add->Pz,slot_dict_get->PQ,slot_int_rmul->Qk,args_tuple_iterator_next_1->Ql,slot_zip_next->Qm,plain_extend_loop->Qu,entry_tuple_iterator_next->Qw,slot_dict_items->Rf,slot_list_insert->Rm,args_dict_get_3->Ry,args_enumerate_next_1->RA,entry_min_loop->RH,plainAttrs_list->RJ,entry_dict_get->S0,entry_enumerate_next->S4,slot_dict_items_iter->S8,entry_proto_collect->So,entry_extend_loop->SY,args_int_rmul_2->TF,args_zip_next_1->TJ,plainAttrs_dict->TZ,type_dict_items->U0,entry_int_rmul->Ua,entry_zip_next->Ud,slot_dict_iter->Uq,fills_int_mul->UL,slot_tuple_lt->UN
open PySem.Builtin.Slice renaming slicePlaces->NM,sliceAdjust->OZ,sliceApplied->QK
open Decidable renaming byContradiction->NN
open LawfulBEq renaming eq_of_beq->NP
open PySem.Builtin.Tuple renaming tupleExact->O0,tupleCompareSizes->O9,tupleItemsOf->QL,tupleIsExact->QM,tupleTooMany->QO,tupleHashOf->QY
open PySem.Data renaming seq->Oc,fields->Pt
open PySem.Shared renaming heap->Of,TypeIs->Rl
open True renaming intro->Oh
open PySem.Calls renaming callWith_builtin->Oo,spliced_cons->Pe,Name_function_global->QF,spliced_nil->R9,evalArgs_plain->Sy
open ForInStep renaming yield->Oy
open Prod.mk renaming injEq->OE
open PySem.Paired renaming length->P1
open PyProof.Rows.IsTup renaming new->PU
open And renaming intro->PZ
open PyProof.Rows.SortSt renaming mk'->Q1
open PySem.Around renaming under_plainId->Qg,in1_handled->To
open List.cons renaming injEq->Qq
open PySem.Builtin.Int renaming intBits->Qt
open PySem.Builtin.Builtins renaming bindParams->QB
open Prod renaming ext->QJ
open Classical renaming byContradiction->R0
open List.Pairwise renaming nil->Ra
open PySem.Env renaming blockKind->Ro,kindOf->Tr
open Function renaming comp->Rr
open Sum renaming inl->RP,inr->RQ
open ToString renaming toString->SI
open PySem.Expr renaming Subscript->SJ,Attribute->SK,Constant->T8,ListComp->T9,UnaryOp->U1,Compare->U2,BoolOp->UH,BinOp->V9,IfExp->Va,Tuple->Vb,Slice->Vc,Name->Vg,List->Vh,Call->Vi,Dict->Vj
open PySem.Stmt renaming AugAssign->SM,Continue->Ta,Assign->UI,Return->UJ,While->Vd,Break->Ve,Expr->Vk,Pass->Vl
open PySem.Heap.SameBut renaming update->SW
open PySem.SeqAt.EqAt renaming int_str->Td,str_int->Te,int_int->Tg
open PySem.Code renaming quiet_builtin->Tq,builtin->TY
open PySem.Heap.IsTuple renaming push->TK
open Iff renaming rfl->TM
open Option.some renaming injEq->TQ
open Exists renaming intro->TU
open PySem.Heap.IsList renaming push->Ue
open MonadExcept renaming tryCatch->V8
open Option renaming some->Z,none->Y
open Bool renaming true->F2,false->N3
open PySem renaming Addr->VH
section
theorem VI{a b c:Nat}(h:b<=c)(k:a<=b):a<=c:=Nat.le_trans k h
theorem VJ{a b c:Nat}(h:b<=c)(k:a+1<=b):a<=c-1:=Nat.le_sub_of_add_le (Nat.le_trans k h)
theorem VL{a b:Nat}(h:Nat.ble (a+1) b=true):a<b:=Nat.le_of_ble_eq_true h
local macro_rules|`(∅)=>`(by first|with_reducible assumption|with_reducible exact Nat.le_of_ble_eq_true rfl|with_reducible exact VL rfl|exact VI (by with_reducible assumption) (by with_reducible exact Nat.le_of_ble_eq_true rfl)|exact VJ (by with_reducible assumption) (by with_reducible exact Nat.le_of_ble_eq_true rfl)|lia)
namespace L2
open PySem PySem.Spec PyProof.Rows
section
noncomputable abbrev Key:=Sum Int Str
noncomputable def gQ:Key->hH->Bool
 |.inl k,v=>Value.isInt k v
 |.inr x,v=>Value.isStrOf x v
noncomputable def Fk(w:Lo):Key->Int
 |.inl k=>hashInt k
 |.inr x=>hashStr w x
theorem aU:∀{k:Key} {v:hH},gQ k v=F2->(∃i t,k=RP i/\v=U5 i t)∨(∃x t,k=RQ x/\v=U6 x t)
 |.inl i,v,h=>by obtain⟨t,e⟩:=Value.isInt_shape (k:=i) (v:=v) h;exact .inl ⟨i,t,rfl,e⟩
 |.inr x,v,h=>by obtain⟨t,e⟩:=Value.isStrOf_shape (x:=x) (v:=v) h;exact .inr ⟨x,t,rfl,e⟩
theorem uu(i:Int)(t:Tok):gQ (.inl i) (.int i t)=F2:=by simp[gQ,Value.isInt]
theorem uv(x:Str)(t:Tok):gQ (.inr x) (.str x t)=F2:=by simp[gQ,Value.isStrOf]
theorem BW(a b:Int):decide ((RP a:Key)=RP b)=(a==b):=by
 by_cases e:a=b
 ·subst e;simp
 ·have h:¬(RP a:Key)=RP b:=λq=>e (RP.inj q);rw[decide_eq_false h];exact(beq_eq_false_iff_ne.mpr e).symm
theorem BX(a b:Str):decide ((RQ a:Key)=RQ b)=decide (a=b):=by
 by_cases e:a=b
 ·subst e;simp
 ·have h:¬(RQ a:Key)=RQ b:=λq=>e (RQ.inj q);rw[decide_eq_false h,decide_eq_false e]
theorem BY(a:Int)(b:Str):decide ((RP a:Key)=RQ b)=N3:=decide_eq_false (λq=>nomatch q)
theorem BZ(a:Str)(b:Int):decide ((RQ a:Key)=RP b)=N3:=decide_eq_false (λq=>nomatch q)
noncomputable def aR(prog:KW)(w:Lo):PySem.KeyKind prog w Key where
 is:=gQ
 hash:=Fk w
 inj:=λv a b ha hb=>by
  rcases aU ha with⟨i,t,rfl,rfl⟩|⟨x,t,rfl,rfl⟩
  ·rcases aU hb with⟨j,u,rfl,e⟩|⟨y,u,rfl,e⟩
   ·injection e with e1 _;rw[e1]
   ·exact nomatch e
  ·rcases aU hb with⟨j,u,rfl,e⟩|⟨y,u,rfl,e⟩
   ·exact nomatch e
   ·injection e with e1 _;rw[e1]
 byValue:=λk v h=>by rcases aU h with⟨i,t,rfl,rfl⟩|⟨x,t,rfl,rfl⟩<;>rfl
 pyHash:=λhv h=>by
  rcases aU hv with⟨i,t,rfl,rfl⟩|⟨x,t,rfl,rfl⟩
  ·exact wpAny_pyHash_int h
  ·exact wpAny_pyHash_str h
 eqBool:=λhu hv h=>by
  rcases aU hu with⟨i,t,rfl,rfl⟩|⟨x,t,rfl,rfl⟩
  ·rcases aU hv with⟨j,u,rfl,rfl⟩|⟨y,u,rfl,rfl⟩
   ·rw[BW]at h;exact wpAny_eqBool_int h
   ·rw[BY]at h;exact Td i t y u _ _ _ _ h
  ·rcases aU hv with⟨j,u,rfl,rfl⟩|⟨y,u,rfl,rfl⟩
   ·rw[BZ]at h;exact Te x t j u _ _ _ _ h
   ·rw[BX]at h;exact wpAny_eqBool_str h
 «strs»:=λk x t v h=>by
  rcases aU h with⟨i,u,rfl,e⟩|⟨y,u,rfl,e⟩
  ·exact nomatch e
  ·injection e with e1 _
   subst e1
   cases v<;>rfl
theorem qH(prog:KW)(w:Lo)(i:Int)(t:Tok):(aR prog w).is (.inl i) (.int i t)=F2:=uu i t
theorem qI(prog:KW)(w:Lo)(x:Str)(t:Tok):(aR prog w).is (.inr x) (.str x t)=F2:=uv x t
end
variable{us:List hH}{a b:VH}{P:KW}{w:Lo}{h:Heap}
section
inductive V where
 |non|bl (b:Bool)|int (i:Int)|str (x:Str)|byt (b:Array UInt8)|flt (b:UInt64)|ref (a:VH)|ty (n:String)
 deriving DecidableEq
noncomputable def RelV:V->hH->Prop
 |.non,u=>u=N6
 |.bl b,u=>u=RT b
 |.int i,u=>∃t,u=U5 i t
 |.str x,u=>∃t,u=U6 x t
 |.byt b,u=>∃t,u=Value.bytes b t
 |.flt b,u=>∃t,u=Value.float b t
 |.ref a,u=>u=KZ a
 |.ty n,u=>u=Lh n
noncomputable abbrev Vals:List V->List hH->Prop:=LP RelV
theorem Vals.length{xs:List V}(r:Vals xs us):xs.length=us.length:=P1 r
theorem Vals.get:∀{xs:List V} {us:List hH} {i:Nat} {x:V},Vals xs us->xs[i]?=Z x->∃u,us[i]?=Z u/\RelV x u
 |_,_,_,_,.nil,e=>by simp at e
 |_,_,0,_,.cons r _,e=>by simp at e;subst e;exact⟨_,rfl,r⟩
 |_,_,i+1,x,.cons _ t,e=>by
  obtain⟨u,h1,h2⟩:=Vals.get (i:=i) (x:=x) t (by simpa using e)
  exact⟨u,by simpa using h1,h2⟩
theorem Vals.set{x:V}{u:hH}(r:RelV x u):∀{xs:List V} {us:List hH} (i:Nat),Vals xs us->Vals (xs.set i x) (us.set i u)
 |_,_,_,.nil=>.nil
 |_,_,0,.cons _ t=>.cons r t
 |_,_,i+1,.cons q t=>.cons q (Vals.set r i t)
theorem Vals.append:∀{xs ys:List V} {us ws:List hH},Vals xs us->Vals ys ws->Vals (xs++ys) (us++ws)
 |_,_,_,_,.nil,s=>s
 |_,_,_,_,.cons r t,s=>.cons r (Vals.append t s)
theorem Vals.take:∀{xs:List V} {us:List hH} (n:Nat),Vals xs us->Vals (xs.take n) (us.take n)
 |_,_,0,_=>.nil
 |_,_,_+1,.nil=>.nil
 |_,_,n+1,.cons r t=>.cons r (Vals.take n t)
theorem Vals.drop:∀{xs:List V} {us:List hH} (n:Nat),Vals xs us->Vals (xs.drop n) (us.drop n)
 |_,_,0,r=>r
 |_,_,_+1,.nil=>.nil
 |_,_,n+1,.cons _ t=>Vals.drop n t
noncomputable def RelO:Option V->Option hH->Prop
 |some v,Z u=>RelV v u
 |none,Y=>True
 |_,_=>False
noncomputable def KV{κ:Type}:List (κ×V)->List (κ×hH)->Prop:=LP λ(p:κ×V) (q:κ×hH)=>p.1=q.1/\RelV p.2 q.2
noncomputable def kV:Key->V
 |.inl i=>.int i
 |.inr x=>.str x
inductive HO where
 |lst (xs:List V)
 |tup (xs:List V)
 |dK (kvs:List (Key×V))|dT (kvs:List (List Key×V))
 |set (S:Int->Bool) (n:Nat)
 |ins (C dx:VH) (fs:List (Str×V))
 |own (x:VH)
 |xd (fs:List (Str×V))
 |met (f x:VH)
 |rng (lo hi:Int)
 |frz (o:Obj) (u:HO)
 |tbl (ps:Array hH)
 |ext (φ:Heap->Prop)
noncomputable abbrev Hp:=VH->Option HO
noncomputable def upd(H:Hp)(a:VH)(o:HO):Hp:=λb=>if b=a then Z o else H b
theorem aM{H:Hp}{o:HO}:upd H a o a=Z o:=by unfold upd;rw[if_pos rfl]
theorem ao{H:Hp}{o:HO}(h:b≠a):upd H a o b=H b:=by unfold upd;rw[if_neg h]
theorem DW{H:Hp}{o u:HO}(h:H a=Z o)(h':H b=Z u)(d:o≠u):a≠b:=by intro e;subst e;rw[h]at h';exact d (MN.inj h')
theorem aY{H:Hp}{o:HO}(h:H a=Z o)(h':H b=Y):a≠b:=by intro e;subst e;rw[h]at h';cases h'
section
variable(P:KW)(w:Lo)
noncomputable def ObjOk(H:Hp)(h:Heap)(a:VH):HO->Prop
 |.lst xs=>xs.length<=Kn/\∃(its:List hH) (n:Nat),Vals xs its/\h.get? a=Z {cls:=.type "list",data:=.seq its.toArray n}
 |.tup xs=>xs.length<=Kn/\∃its:List hH,Vals xs its/\Uy h a its.toArray
 |.dK kvs=>kvs.length<=Kn/\(a==Mv)=N3/\∃vs,KV kvs vs/\h.DictOf (aR P w) a vs
 |.dT kvs=>kvs.length<=Kn/\(a==Mv)=N3/\∃xs:List (List Key×VH×hH),
  LP (λ(p:List Key×V) (q:List Key×VH×hH)=>p.1=q.1/\H q.2.1=Z (.tup (p.1.map kV))/\RelV p.2 q.2.2) kvs xs /\
  ∃o es ep,h.get? a=Z o/\o.ExactDict/\o.data=.dict es ep/\es.toList=xs.map (entryOfKey (QE (aR P w)))/\(xs.map (·.1)).Nodup
 |.set S n=>h.SetOf (intKind P w) a S n
 |.ins C dx fs=>H dx=Z (.own a)/\fs.length<=1000/\dx≠a/\h.get? a=Z (Sb C dx) /\
  ∃mA,h.Ns1 dx mA/\(∀f,RelO (fs.lookup f) (mA f))/\PySem.Within mA (fs.map (·.1))
 |.own _=>∃o,h.get? a=Z o
 |.xd fs=>∃mA,h.Ns1 a mA/\∀f,RelO (fs.lookup f) (mA f)
 |.rng lo hi=>∃t u v,h.get? a=Z {cls:=.type "range",data:=.fields #[.int lo t,.int hi u,.int 1 v]}
 |.frz o u=>h.get? a=Z o/\ObjOk H h a u
 |.tbl ps=>h.get? a=Z {cls:=.none,data:=.fields ps}
 |.met f x=>h.get? a=Z (R4 (.ref f) (.ref x))
 |.ext φ=>φ h/\(∃o,h.get? a=Z o)/\∀h1 h2:Heap,φ h1->(∀o,h1.get? a=Z o->h2.get? a=Z o)->φ h2
def HOk(H:Hp)(h:Heap):Prop:=∀a o,H a=Z o->ObjOk P w H h a o
end
section
variable{P:KW}{w:Lo}{H H':Hp}{h h':Heap}{a:VH}{o:HO}
theorem ObjOk.lt(x:ObjOk P w H h a o):a<h.objs.size:=by
 cases o with
 |lst xs=>obtain⟨_,_,_,_,e⟩:=x;exact Kg e
 |tup xs=>obtain⟨_,_,_,p⟩:=x;exact p.lt
 |dK kvs=>obtain⟨_,_,_,_,o,_,_,e,_⟩:=x;exact Kg e
 |dT kvs=>obtain⟨_,_,_,_,o,_,_,e,_⟩:=x;exact Kg e
 |set S n=>obtain⟨o,_,_,_,e,_⟩:=x;exact Kg e
 |ins C dx fs=>obtain⟨_,_,_,e,_⟩:=x;exact Kg e
 |own y=>obtain⟨_,e⟩:=x;exact Kg e
 |xd fs=>obtain⟨_,⟨_,_,_,e,_⟩,_⟩:=x;exact Kg e
 |rng lo hi=>obtain⟨_,_,_,e⟩:=x;exact Kg e
 |frz ob u=>obtain⟨e,_⟩:=x;exact Kg e
 |tbl ps=>exact Kg (show h.get? a=Z _ from x)
 |met f y=>exact Kg (show h.get? a=Z _ from x)
 |ext φ=>obtain⟨_,⟨_,e⟩,_⟩:=x;exact Kg e
theorem Vq{α β:Type}{F G:α->β->Prop}:∀{l₁:List α} {l₂:List β},LP F l₁ l₂->(∀a b,F a b->G a b)->LP G l₁ l₂
 |_,_,.nil,_=>.nil
 |_,_,.cons r t,f=>.cons (f _ _ r) (Vq t f)
theorem ObjOk.stay(x:ObjOk P w H h a o)(k:∀b u,(b=a∨H b=Z (.own a))->h.get? b=Z u->h'.get? b=Z u)(ho:∀b,H b=Z (.own a)->H' b=Z (.own a))(j:∀b xs,H b=Z (.tup xs)->H' b=Z (.tup xs)):ObjOk P w H' h' a o:=by
 induction o with
 |lst xs=>obtain⟨z,its,n,r,e⟩:=x;exact⟨z,its,n,r,k _ _ (.inl rfl) e⟩
 |tup xs=>obtain⟨z,its,r,ob,e,c⟩:=x;exact⟨z,its,r,ob,k _ _ (.inl rfl) e,c⟩
 |dK kvs=>obtain⟨z,y,vs,r,ob,es,ep,e,c⟩:=x;exact⟨z,y,vs,r,ob,es,ep,k _ _ (.inl rfl) e,c⟩
 |dT kvs=>obtain⟨z,y,xs,r,ob,es,ep,e,c⟩:=x;exact⟨z,y,xs,Vq r λp q z=>⟨z.1,j _ _ z.2.1,z.2.2⟩,ob,es,ep,k _ _ (.inl rfl) e,c⟩
 |set S n=>obtain⟨ob,es,ep,t,e,c⟩:=x;exact⟨ob,es,ep,t,k _ _ (.inl rfl) e,c⟩
 |ins C dx fs=>obtain⟨d,z,ne,e,mA,⟨od,es,ep,e2,c⟩,r⟩:=x;exact⟨ho _ d,z,ne,k _ _ (.inl rfl) e,mA,⟨od,es,ep,k _ _ (.inr d) e2,c⟩,r⟩
 |own y=>obtain⟨ob,e⟩:=x;exact⟨ob,k _ _ (.inl rfl) e⟩
 |xd fs=>obtain⟨mA,⟨od,es,ep,e,c⟩,r⟩:=x;exact⟨mA,⟨od,es,ep,k _ _ (.inl rfl) e,c⟩,r⟩
 |rng lo hi=>obtain⟨t,u,v,e⟩:=x;exact⟨t,u,v,k _ _ (.inl rfl) e⟩
 |frz ob u ih=>obtain⟨e,q⟩:=x;exact⟨k _ _ (.inl rfl) e,ih q⟩
 |tbl ps=>have e:h.get? a=Z {cls:=.none,data:=.fields ps}:=x;show h'.get? a=Z {cls:=.none,data:=.fields ps};exact k a _ (.inl rfl) e
 |met f y=>have e:h.get? a=Z (R4 (.ref f) (.ref y)):=x;show h'.get? a=Z (R4 (.ref f) (.ref y));exact k a _ (.inl rfl) e
 |ext φ=>obtain⟨p,⟨o,e⟩,st⟩:=x;exact⟨st _ _ p λo q=>k _ _ (.inl rfl) q,⟨o,k _ _ (.inl rfl) e⟩,st⟩
theorem HOk.lt(x:HOk P w H h)(e:H a=Z o):a<h.objs.size:=(x a o e).lt
theorem HOk.fresh(x:HOk P w H h)(e:h.objs.size<=a):H a=Y:=by
 cases q:H a with
 |none=>rfl
 |some u=>exact absurd (Li (x.lt q) e) (LD _)
theorem HOk.kept(x:HOk P w H h)(k:∀b u,h.get? b=Z u->h'.get? b=Z u):HOk P w H h':=λa o e=>(x a o e).stay (λb u _ q=>k b u q) (λ_ q=>q) λ_ _ q=>q
theorem HOk.laid(x:HOk P w H h)(k:∀b u,h.get? b=Z u->h'.get? b=Z u)(z:h.objs.size<=a)(new:ObjOk P w (upd H a o) h' a o):HOk P w (upd H a o) h':=λb u e=>by
 have j:=x.fresh z
 by_cases hb:b=a
 ·subst hb;rw[aM]at e;cases e;exact new
 ·rw[ao hb]at e;exact(x b u e).stay (λc v _ q=>k c v q) (λc q=>by rw[ao (aY q j)];exact q) λc xs q=>by rw[ao (aY q j)];exact q
end
def Rd(H:Hp)(a:VH)(u:HO):Prop:=H a=Z u∨∃o,H a=Z (.frz o u)
theorem Rd.of{H:Hp}{u:HO}(h:H a=Z u):Rd H a u:=.inl h
theorem Rd.ok{H:Hp}{u:HO}(r:Rd H a u)(x:HOk P w H h):ObjOk P w H h a u:=by
 rcases r with r|⟨o,r⟩
 ·exact x a u r
 ·obtain⟨_,q⟩:=x a _ r;exact q
noncomputable def Mut:Option HO->Prop
 |some (.lst _)=>True
 |some (.dK _)=>True
 |some (.dT _)=>True
 |some (.set _ _)=>True
 |some (.ins _ _ _)=>True
 |some (.ext _)=>True
 |_=>False
section
variable{P:KW}{w:Lo}{H:Hp}{h h':Heap}{x e:VH}{o':HO}
theorem HOk.write(ok:HOk P w H h)(mu:Mut (H x))(he:e=x∨H e=Z (.own x))(k:∀b u,b≠e->h.get? b=Z u->h'.get? b=Z u)(B:∃u,h'.get? e=Z u)(new:ObjOk P w (upd H x o') h' x o'):HOk P w (upd H x o') h':=λb u q=>by
 have nown:∀c y,H c=Z (.own y)->c≠x:=λc y r z=>by subst z;rw[r]at mu;exact mu
 have ntup:∀c xs,H c=Z (.tup xs)->c≠x:=λc xs r z=>by subst z;rw[r]at mu;exact mu
 by_cases hb:b=x
 ·subst hb;rw[aM]at q;cases q;exact new
 ·rw[ao hb]at q
  by_cases j:b=e
  ·have q':H b=Z (.own x):=by
    rcases he with z|z
    ·exact absurd (j.trans z) hb
    ·rw[j];exact z
   rw[q]at q';cases q';obtain⟨v,F⟩:=B;exact⟨v,by rw[j];exact F⟩
  ·refine(ok b u q).stay (λc v hc r=>k c v ?_ r) (λc r=>by rw[ao (nown c b r)];exact r) λc xs r=>by rw[ao (ntup c xs r)];exact r
   rcases hc with rfl|hc
   ·exact j
   ·rintro rfl
    rcases he with z|z
    ·exact nown c b hc z
    ·rw[hc]at z;cases z;exact hb rfl
end
structure Un(fs ex:List VH)(H H':Hp)(h h':Heap):Prop where
 keep:∀b o,h.get? b=Z o->H b=Y->b∉fs->b∉ex->h'.get? b=Z o
 slot:∀b o,h.get? b=Z o->H b=Y->b∈fs->b∉ex->∃sl,h'.get? b=Z {o with slots:=sl}
 free:∀b o,h.get? b=Z o->H b=Y->b∉ex->H' b=Y
 there:∀b o,h.get? b=Z o->b∉ex->∃o',h'.get? b=Z o'
 tups:∀b xs,H b=Z (.tup xs)->H' b=Z (.tup xs)
 frzs:∀b o u,H b=Z (.frz o u)->H' b=Z (.frz o u)
 tbls:∀b ps,H b=Z (.tbl ps)->∃more,H' b=Z (.tbl (ps++more))
section
variable{fs fs' ex ex':List VH}{H H1 H2:Hp}{h h1 h2 h':Heap}{a x e:VH}{o:HO}
theorem Un.any(u:Un fs ex H H1 h h1){ob:Obj}(q:h.get? b=Z ob)(n:H b=Y)(hx:b∉ex):∃sl,h1.get? b=Z {ob with slots:=sl}:=by
 by_cases hb:b∈fs
 ·exact u.slot b ob q n hb hx
 ·exact⟨ob.slots,u.keep b ob q n hb hx⟩
theorem Un.kept(k:∀b u,h.get? b=Z u->h'.get? b=Z u):Un fs ex H H h h':=⟨λb ob q _ _ _=>k b ob q,λb ob q _ _ _=>⟨ob.slots,k b ob q⟩,λ_ _ _ n _=>n,λb ob q _=>⟨ob,k b ob q⟩,λ_ _ q=>q,λ_ _ _ q=>q,λ_ ps q=>⟨#[],by rw[q];simp⟩⟩
theorem Un.refl:Un fs ex H H h h:=Un.kept λ_ _ q=>q
theorem Un.laid(k:∀b u,h.get? b=Z u->h'.get? b=Z u)(z:h.objs.size<=a)(j:H a=Y):Un fs ex H (upd H a o) h h' where
 keep:=λb u q _ _ _=>k b u q
 slot:=λb u q _ _ _=>⟨u.slots,k b u q⟩
 free:=λb u q n _=>by rw[ao (Lb (Li (Kg q) z))];exact n
 there:=λb u q _=>⟨u,k b u q⟩
 tups:=λb xs q=>by rw[ao (aY q j)];exact q
 frzs:=λb u xs q=>by rw[ao (aY q j)];exact q
 tbls:=λb ps q=>⟨#[],by rw[ao (aY q j),q];simp⟩
theorem Un.write(mu:Mut (H x))(he:e=x∨H e=Z (.own x))(k:∀b u,b≠e->h.get? b=Z u->h'.get? b=Z u)(B:∃u,h'.get? e=Z u):Un fs ex H (upd H x o) h h':=by
 have hx:∀b,H b=Y->b≠x:=λb n z=>by subst z;rw[n]at mu;exact mu
 have hb:∀b,H b=Y->b≠e:=λb n z=>by
  subst z
  rcases he with r|r
  ·exact hx b n r
  ·rw[n]at r;cases r
 have hm:∀b u,H b=Z u->¬Mut (Z u)->b≠x:=λb u q nm z=>by subst z;rw[q]at mu;exact nm mu
 refine⟨λb u q n _ _=>k b u (hb b n) q,λb u q n _ _=>⟨u.slots,k b u (hb b n) q⟩,λb u q n _=>by rw[ao (hx b n)];exact n,λb u q _=>?_,
  λb xs q=>by rw[ao (hm b _ q λz=>z)];exact q,λb u xs q=>by rw[ao (hm b _ q λz=>z)];exact q,λb ps q=>⟨#[],by rw[ao (hm b _ q λz=>z),q];simp⟩⟩
 by_cases j:b=e
 ·subst j;exact B
 ·exact⟨u,k b u j q⟩
end
noncomputable def trk(h:Heap)(H:Hp):List VH:=(D1 h.objs.size).filter λa=>(H a).isSome
noncomputable def fq(h:Heap)(H:Hp):Heap:=PySem.W.hideAll h (trk h H)
theorem uw(h:Heap)(H:Hp):(fq h H).objs.size=h.objs.size:=PySem.W.hideAll_size _ _
theorem xm{H:Hp}{o:Obj}(e:h.get? b=Z o)(n:H b=Y):(fq h H).get? b=Z o:=
 PySem.W.hideAll_get _ e λhm=>by have q:(H b).isSome=F2:=(LZ.mp hm).2;rw[n]at q;simp at q
theorem A6{H:Hp}{o:Obj}(e:(fq h H).get? b=Z o):h.get? b=Z o/\H b=Y:=by
 have e':h.get? b=Z o:=PySem.W.of_hideAll (trk h H) e;refine⟨e',?_⟩
 cases q:H b with
 |none=>rfl
 |some x=>
  have hm:b∈trk h H:=LZ.mpr ⟨L7.mpr (Kg e'),by simp[q]⟩
  have z:(fq h H).get? b=Y:=PySem.W.hideAll_none (trk h H) hm;rw[z]at e;cases e
noncomputable def A7(g h:Heap)(L:VH):List (VH×Obj):=(D1 h.objs.size).filterMap λa=>if a=L∨(g.get? a).isSome=F2 then Y else(h.get? a).map λo=>(a,o)
noncomputable def rest(g h:Heap)(L d:VH):List (VH×Obj):=(A7 g h L).filter λp=>decide (p.1≠d)
end
variable{H:Hp}{o:HO}{u:hH}{t' i:Nat}{ch:List VH}{x:Str}{e:Expr}{N:List Str}{M:Po}{A:Lr}{v:V}{s:p7}
section
structure Mod(K:Frag)(mg:Str->Option hH)(base:Heap):Prop where
 kin:K.In base
 glob:base.Ns Mf mg
 blt:∃mb,base.Ns US mb/\∀x:Str,x≠"__name__"->mb x=Og x
 nolimit:base.NoLimit
structure Cx where
 prog:KW
 w:Lo
 K:Frag
 mg:Str->Option hH
 base:Heap
 A:Lr
 N:List Str
 s₀:p7
 H₀:Hp
 env:Env
 outer:List Env
 stack:List Env
 ex:List VH
 fn:Str->Bool
 calm:Bool
 pn:List (VH×Obj)
 xe:hH->p7->Prop
noncomputable def frs(l:List Env):List VH:=l.filterMap (·.frame)
noncomputable abbrev Cx.fs(X:Cx):List VH:=frs X.outer
def Vis(sc:Scope)(x:Str):Prop:=sc.names.lookup x=Z .local∨sc.names.lookup x=Z .cell∨sc.names.lookup x=Z .free
def Loc(sc:Scope)(x:Str):Prop:=sc.names.lookup x=Z .local∨sc.names.lookup x=Z .cell
def Fl(env:Env)(h:Heap)(m:Str->Option hH)(x:Str)(u:hH):Prop:=(env.kindOf x=Z .local/\m x=Z u)∨((env.kindOf x=Z .cell∨env.kindOf x=Z .free)/\∃c,env.cells.lookup x=Z c/\h.IsCell c (Z u))
structure Cx.Ok(X:Cx):Prop where
 mod:Mod X.K X.mg X.base
 kind:X.env.scope.kind=.function
 glob:X.env.globals=Mf
 blt:X.env.builtins=US
 above:X.s₀.heap.objs.size<=X.env.locals
 inj:∀x y c,X.env.cells.lookup x=Z c->X.env.cells.lookup y=Z c->x=y
 has:∀x,(X.env.kindOf x=Z .cell∨X.env.kindOf x=Z .free)->∃c,X.env.cells.lookup x=Z c
 cab:∀x c,X.fn x=F2->X.env.cells.lookup x=Z c->X.s₀.heap.objs.size<=c
 hd:X.calm=F2->X.A.handled=Y
 frames:X.A.frames=Z X.stack
 stk:X.stack=X.outer∨(X.stack=X.env::X.outer/\X.env.frame=Z X.env.locals)
 exf:∀b∈X.ex,b≠X.env.locals/\∀x c,X.env.cells.lookup x=Z c->c≠b
 bs:∀b o,X.base.get? b=Z o->X.s₀.heap.get? b=Z o/\X.H₀ b=Y
 bsz:X.base.objs.size<=X.s₀.heap.objs.size
 noex:∀b o,X.base.get? b=Z o->b∉X.ex
 exfs:∀b∈X.ex,b∉X.fs
 funs:X.s₀.heap.FunFrames X.base X.outer
 frf:∀b∈X.fs,X.H₀ b=Y
structure Inv(X:Cx)(pins:List (VH×Obj))(σ:List (Option V))(H:Hp)(s:p7):Prop where
 ok:X.Ok
 os:s.os=X.s₀.os
 bare:R6 s.gens
 base:Un X.fs X.ex X.H₀ H X.s₀.heap s.heap
 loc:∃m,s.heap.Ns X.env.locals m/\∀(i:Nat) (x:Str) (v:V),X.N[i]?=Z x->σ[i]?=Z (Z v)->Vis X.env.scope x->∃u,RelV v u/\Fl X.env s.heap m x u
 cell:∀x c,X.env.cells.lookup x=Z c->∃v,s.heap.IsCell c v
 free:H X.env.locals=Y
 freeC:∀x c,X.env.cells.lookup x=Z c->H c=Y
 pin:∀p∈X.pn++pins,s.heap.get? p.1=Z p.2/\H p.1=Y/\p.1≠X.env.locals/\p.1∉X.fs/\∀v,p.2.data≠.cell v
 hok:HOk X.prog X.w H s.heap
 len:σ.length=X.N.length
section
variable{X:Cx}{pins:List (VH×Obj)}{σ:List (Option V)}{H H':Hp}{s:p7}{h':Heap}
theorem Cx.Ok.nofr(ok:X.Ok){o:Obj}(e:X.base.get? b=Z o):b∉X.fs:=λhb=>by have:=(ok.funs.mem hb).1;rw[e]at this;cases this
theorem Inv.bs(I:Inv X pins σ H s):∀b o,X.base.get? b=Z o->s.heap.get? b=Z o/\H b=Y:=λb o e=>⟨I.base.keep b o (I.ok.bs b o e).1 (I.ok.bs b o e).2 (I.ok.nofr e) (I.ok.noex b o e),I.base.free b o (I.ok.bs b o e).1 (I.ok.bs b o e).2 (I.ok.noex b o e)⟩
theorem Inv.bk(I:Inv X pins σ H s):∀b o,X.base.get? b=Z o->s.heap.get? b=Z o:=λb o e=>(I.bs b o e).1
theorem Inv.mod(I:Inv X pins σ H s):Mod X.K X.mg X.base:=I.ok.mod
theorem Inv.kIn(I:Inv X pins σ H s):X.K.In s.heap:=I.ok.mod.kin.keeps I.bk
theorem Inv.lt(I:Inv X pins σ H s):X.env.locals<s.heap.objs.size:=let⟨_,j,_⟩:=I.loc;j.lt
theorem Inv.sz(I:Inv X pins σ H s):X.s₀.heap.objs.size<=s.heap.objs.size:=LA I.ok.above (OS I.lt)
theorem Inv.nofs(I:Inv X pins σ H s)(h:s.heap.objs.size<=a):a∉X.fs:=λhb=>by obtain⟨_,o,ho,_⟩:=I.ok.funs.mem hb;exact absurd (Li (Kg ho) (LA I.sz h)) (LD _)
theorem Inv.cne(I:Inv X pins σ H s):∀x c,X.env.cells.lookup x=Z c->c≠X.env.locals:=λx c e z=>by obtain⟨v,o,ho,hd⟩:=I.cell x c e;obtain⟨m,⟨o',es,ep,j,q,_⟩,_⟩:=I.loc;rw[z,j]at ho;cases ho;rw[q]at hd;cases hd
theorem Inv.funs(I:Inv X pins σ H s):s.heap.FunFrames X.base X.outer:=by
 have all:∀(l:List Env),(∀b∈frs l,b∈X.fs)->X.s₀.heap.FunFrames X.base l->s.heap.FunFrames X.base l:=by
  intro l
  induction l with
  |nil=>intro _ _;trivial
  |cons env r ih=>
   intro hs hl;obtain⟨j,⟨L,o,hf,q,ho,hd⟩,B⟩:=hl;have hL:L∈X.fs:=hs L (by unfold frs;rw[Qs,hf];exact Lc)
   obtain⟨sl,e⟩:=I.base.slot L o ho (I.ok.frf L hL) hL λz=>I.ok.exfs L z hL;exact⟨j,⟨L,_,hf,q,e,hd⟩,ih (λb hb=>hs b (by unfold frs;rw[Qs,hf];exact KQ _ hb)) B⟩
 exact all X.outer (λ_ hb=>hb) I.ok.funs
theorem Inv.stack(I:Inv X pins σ H s):s.heap.FunFrames X.base X.stack:=by
 rcases I.ok.stk with e|⟨e,hf⟩
 ·rw[e];exact I.funs
 ·rw[e];obtain⟨m,j,_⟩:=I.loc;refine .cons (by rw[I.ok.kind];decide) hf j ?_ I.funs
  exact Heap.get?_none_of_le (LA I.ok.bsz I.ok.above)
theorem Inv.stkSub(I:Inv X pins σ H s):∀b∈frs X.stack,b∈X.env.locals::X.fs:=λb hb=>by
 rcases I.ok.stk with e|⟨e,hf⟩
 ·rw[e]at hb;exact KQ _ hb
 ·rw[e]at hb;unfold frs at hb;rw[Qs,hf]at hb;exact hb
theorem Inv.stkFree(I:Inv X pins σ H s):∀b∈frs X.stack,H b=Y:=λb hb=>by
 rcases Km.mp (I.stkSub b hb)with e|hb
 ·rw[e];exact I.free
 ·obtain⟨_,o,ho,_⟩:=I.ok.funs.mem hb;exact I.base.free b o ho (I.ok.frf b hb) λz=>I.ok.exfs b z hb
theorem Inv.step{g':Array GenState}{d':Drawn}(I:Inv X pins σ H s)(j:∀b∈ch,(b∈X.ex∨X.s₀.heap.objs.size<=b)/\b≠X.env.locals/\(∀x c,X.env.cells.lookup x=Z c->c≠b)/\∀p∈X.pn++pins,p.1≠b)(keep:∀b o,b≠X.env.locals->b∉X.fs->b∉ch->s.heap.get? b=Z o->H b=Y->h'.get? b=Z o)(slot:∀b o,b≠X.env.locals->b∈X.fs->b∉ch->s.heap.get? b=Z o->H b=Y->∃sl,h'.get? b=Z {o with slots:=sl})(free:∀b o,b∉ch->s.heap.get? b=Z o->H b=Y->H' b=Y)(there:∀b o,b∉ch->s.heap.get? b=Z o->∃o',h'.get? b=Z o')(tups:∀b xs,H b=Z (.tup xs)->H' b=Z (.tup xs))(frzs:∀b o u,H b=Z (.frz o u)->H' b=Z (.frz o u))(tbls:∀b ps,H b=Z (.tbl ps)->∃more,H' b=Z (.tbl (ps++more)))(ns:∀m,s.heap.Ns X.env.locals m->h'.Ns X.env.locals m)(hok:HOk X.prog X.w H' h')(F:R6 g'):
 Inv X pins σ H' {s with heap:=h',gens:=g',drawn:=d',toks:=t'}:=by
 have neL:∀b o,X.s₀.heap.get? b=Z o->b≠X.env.locals:=λb o e=>Lb (Li (Kg e) I.ok.above);have neC:∀b o,X.s₀.heap.get? b=Z o->b∉X.ex->b∉ch:=λb o e hx hb=>by
  rcases(j b hb).1 with z|z
  ·exact hx z
  ·exact absurd (Li (Kg e) z) (LD _)
 have cellK:∀x c,X.env.cells.lookup x=Z c->∀v,s.heap.IsCell c v->h'.IsCell c v:=λx c e v ⟨o,ho,hd⟩=>by
  have nch:c∉ch:=λz=>(j c z).2.2.1 x c e rfl
  by_cases hc:c∈X.fs
  ·obtain⟨sl,q⟩:=slot c o (I.cne x c e) hc nch ho (I.freeC x c e);exact⟨_,q,hd⟩
  ·exact⟨o,keep c o (I.cne x c e) hc nch ho (I.freeC x c e),hd⟩
 refine⟨I.ok,I.os,F,⟨λb o e n hb hx=>?_,λb o e n hb hx=>?_,λb o e n hx=>?_,λb o e hx=>?_,λb xs e=>tups b xs (I.base.tups b xs e),λb o xs e=>frzs b o xs (I.base.frzs b o xs e),λb ps e=>?_⟩,?_,λx c e=>?_,?_,λx c e=>?_,λp B=>?_,hok,I.len⟩
 ·exact keep b o (neL b o e) hb (neC b o e hx) (I.base.keep b o e n hb hx) (I.base.free b o e n hx)
 ·obtain⟨sl,e1⟩:=I.base.slot b o e n hb hx;obtain⟨sl',e2⟩:=slot b _ (neL b o e) hb (neC b o e hx) e1 (I.base.free b o e n hx);exact⟨sl',e2⟩
 ·obtain⟨o',e1⟩:=I.base.there b o e hx;exact free b o' (neC b o e hx) e1 (I.base.free b o e n hx)
 ·obtain⟨o',e1⟩:=I.base.there b o e hx;exact there b o' (neC b o e hx) e1
 ·obtain⟨G,e1⟩:=I.base.tbls b ps e;obtain⟨J,e2⟩:=tbls b _ e1;exact⟨G++J,by rw[e2,Array.append_assoc]⟩
 ·obtain⟨m,L,hl⟩:=I.loc;refine⟨m,ns m L,λi x v e1 e2 O=>?_⟩;obtain⟨u,r,l⟩:=hl i x v e1 e2 O;refine⟨u,r,?_⟩
  rcases l with l|⟨k,c,e,z⟩
  ·exact .inl l
  ·exact .inr ⟨k,c,e,cellK x c e _ z⟩
 ·obtain⟨v,z⟩:=I.cell x c e;exact⟨v,cellK x c e v z⟩
 ·obtain⟨m,⟨o,_,_,ho,_⟩,_⟩:=I.loc;exact free _ o (λz=>(j _ z).2.1 rfl) ho I.free
 ·obtain⟨v,o,ho,hd⟩:=I.cell x c e;exact free c o (λz=>(j c z).2.2.1 x c e rfl) ho (I.freeC x c e)
 ·obtain⟨e,n,ne,nf,d⟩:=I.pin p B;have nch:p.1∉ch:=λz=>(j p.1 z).2.2.2 p B rfl;exact⟨keep p.1 p.2 ne nf nch e n,free p.1 p.2 nch e n,ne,nf,d⟩
theorem Inv.un(I:Inv X pins σ H s)(u:Un X.fs [] H H' s.heap h')(hok:HOk X.prog X.w H' h'):Inv X pins σ H' {s with heap:=h',toks:=t'}:=by
 obtain⟨m,⟨o,es,ep,ho,r⟩,_⟩:=id I.loc;obtain⟨sl,hL⟩:=u.any ho I.free (by simp)
 exact I.step (g':=s.gens) (d':=s.drawn) (ch:=[]) (λ_ z=>nomatch z) (λb o _ hb _ e n=>u.keep b o e n hb (by simp)) (λb o _ hb _ e n=>u.slot b o e n hb (by simp)) (λb o _ e n=>u.free b o e n (by simp)) (λb o _ e=>u.there b o e (by simp)) u.tups u.frzs u.tbls (λm' hm=>by obtain⟨o',es',ep',j,r'⟩:=hm;rw[ho]at j;cases j;exact⟨_,es',ep',hL,r'⟩) hok I.bare
theorem Inv.call{g':Array GenState}{d':Drawn}(I:Inv X pins σ H s)(u:Un (frs X.stack) ch H H' s.heap h')(hok:HOk X.prog X.w H' h')(B:R6 g')(j:∀b∈ch,(b∈X.ex∨X.s₀.heap.objs.size<=b)/\b≠X.env.locals/\(∀x c,X.env.cells.lookup x=Z c->c≠b)/\∀p∈X.pn++pins,p.1≠b):
 Inv X pins σ H' {s with heap:=h',gens:=g',drawn:=d',toks:=t'}:=by
 obtain⟨m,⟨o,es,ep,ho,r⟩,_⟩:=id I.loc;obtain⟨sl,hL⟩:=u.any ho I.free λz=>(j _ z).2.1 rfl;exact I.step (ch:=ch) j (λb o hL hb hc e n=>u.keep b o e n (λz=>(Km.mp (I.stkSub b z)).elim hL hb) hc) (λb o _ _ hc e n=>u.any e n hc) (λb o hc e n=>u.free b o e n hc) (λb o hc e=>u.there b o e hc) u.tups u.frzs u.tbls (λm' hm=>by obtain⟨o',es',ep',q,r'⟩:=hm;rw[ho]at q;cases q;exact⟨_,es',ep',hL,r'⟩) hok B
theorem Inv.turned{it:VH}(I:Inv X pins σ H s)(k:∀b o,b≠it->s.heap.get? b=Z o->h'.get? b=Z o)(j:H it=Y)(hL:it≠X.env.locals)(h1:it∈X.ex∨X.s₀.heap.objs.size<=it)(h2:∀x c,X.env.cells.lookup x=Z c->c≠it)(B:∀p∈X.pn++pins,p.1≠it):Inv X pins σ H {s with heap:=h',toks:=t'}:=by
 have nit:∀b u,H b=Z u->b≠it:=λb u e z=>by rw[z,j]at e;cases e
 refine I.step (g':=s.gens) (d':=s.drawn) (ch:=[it]) (λb hb=>?_) (λb o _ _ hc e _=>k b o (λz=>hc (by simp[z])) e) (λb o _ _ hc e _=>⟨o.slots,k b o (λz=>hc (by simp[z])) e⟩) (λ_ _ _ _ n=>n)
  (λb o hc e=>⟨o,k b o (λz=>hc (by simp[z])) e⟩) (λ_ _ e=>e) (λ_ _ _ e=>e) (λb ps e=>⟨#[],by rw[e];simp⟩) (λm hm=>?_) (λb u e=>?_) I.bare
 ·have e:b=it:=by simpa using hb
  subst e;exact⟨h1,hL,h2,B⟩
 ·obtain⟨o,es,ep,ho,r⟩:=hm;exact⟨o,es,ep,k _ o (Ne.symm hL) ho,r⟩
 ·refine(I.hok b u e).stay (λc v hc q=>k c v ?_ q) (λ_ q=>q) λ_ _ q=>q
  rcases hc with z|z
  ·rw[z];exact nit b u e
  ·exact nit c _ z
theorem Inv.tok(I:Inv X pins σ H s)(t:Nat):Inv X pins σ H {s with toks:=t}:=I.un (h':=s.heap) (t':=t) Un.refl I.hok
theorem Inv.kept(I:Inv X pins σ H s)(k:∀b u,s.heap.get? b=Z u->h'.get? b=Z u):Inv X pins σ H {s with heap:=h',toks:=t'}:=I.un (Un.kept k) (I.hok.kept k)
theorem Inv.laid(I:Inv X pins σ H s)(k:∀b u,s.heap.get? b=Z u->h'.get? b=Z u)(j:s.heap.objs.size<=a)(new:ObjOk X.prog X.w (upd H a o) h' a o):Inv X pins σ (upd H a o) {s with heap:=h',toks:=t'}:=I.un (Un.laid k j (I.hok.fresh j)) (I.hok.laid k j new)
theorem Inv.write{x e:VH}(I:Inv X pins σ H s)(mu:Mut (H x))(he:e=x∨H e=Z (.own x))(k:∀b u,b≠e->s.heap.get? b=Z u->h'.get? b=Z u)(j:∃u,h'.get? e=Z u)(new:ObjOk X.prog X.w (upd H x o) h' x o):Inv X pins σ (upd H x o) {s with heap:=h',toks:=t'}:=I.un (Un.write mu he k j) (I.hok.write mu he k j new)
theorem Inv.pins_of{pins':List (VH×Obj)}(I:Inv X pins σ H s)(h:∀p∈pins',s.heap.get? p.1=Z p.2/\H p.1=Y/\p.1≠X.env.locals/\p.1∉X.fs/\∀v,p.2.data≠.cell v):Inv X pins' σ H s:=⟨I.ok,I.os,I.bare,I.base,I.loc,I.cell,I.free,I.freeC,λp j=>(Kz.mp j).elim (λz=>I.pin p (Lz _ z)) (h p),I.hok,I.len⟩
theorem nX(q:N.Nodup){j:Nat}(a:N[i]?=Z x)(b:N[j]?=Z x):i=j:=by obtain⟨h1,e1⟩:=KO.mp a;obtain⟨h2,e2⟩:=KO.mp b;exact(List.getElem_inj q).mp (e1.trans e2.symm)
theorem uz{E:hH->p7->Prop}{Q:Unit->p7->Prop}(I:Inv X pins σ H s)(hN:X.N.Nodup)(hi:X.N[i]?=Z x)(hx:Loc X.env.scope x)(r:RelV v u)(h:∀s',Inv X pins (σ.set i (Z v)) H s'->(∃a,Mo a s.heap s'.heap/\(a=X.env.locals∨X.env.cells.lookup x=Z a))->Q () s')(hf:X.fn x=F2∨X.env.scope.names.lookup x=Z .local:=by first|exact .inl rfl|exact .inr rfl|assumption):Kr M A (storeName X.env x u) Q E s:=by
 obtain⟨m,hn,hl⟩:=id I.loc;have L:(X.env.scope.kind==.class || (X.env.scope.kind==.module&&X.env.locals != X.env.globals))=N3:=by rw[I.ok.kind];rfl
 have O:i<σ.length:=by rw[I.len];exact(KO.mp hi).1
 have cne:=I.cne;have tracked:∀{a:VH} {h':Heap},(∃o,s.heap.get? a=Z o/\H a=Y)->Mo a s.heap h'->HOk X.prog X.w H h':=λ{a h'} ha hs b ob e=>by
  obtain⟨_,_,B⟩:=ha;refine(I.hok b ob e).stay (λc w' hc q=>(hs.2 c ?_).trans q) (λ_ q=>q) λ_ _ q=>q;rintro rfl
  rcases hc with rfl|hc
  ·rw[B]at e;cases e
  ·rw[B]at hc;cases hc
 rcases hx with F|F
 ·refine wpAny_storeName_local F hn (λh' HZ hs=>?_) L;obtain⟨oL,_,_,I0,_⟩:=id hn;refine h _ ⟨I.ok,I.os,I.bare,⟨λb o e n hb hx=>?_,λb o e n hb hx=>?_,I.base.free,λb o e hx=>?_,I.base.tups,I.base.frzs,I.base.tbls⟩,⟨_,HZ,λj y v' e1 e2 e3=>?_⟩,λy c e=>?_,I.free,I.freeC,λp hp=>?_,tracked ⟨oL,I0,I.free⟩ hs,by simpa using I.len⟩ ⟨_,hs,.inl rfl⟩
  ·exact(hs.2 b (Lb (Li (Kg e) I.ok.above))).trans (I.base.keep b o e n hb hx)
  ·obtain⟨sl,e1⟩:=I.base.slot b o e n hb hx;exact⟨sl,(hs.2 b (Lb (Li (Kg e) I.ok.above))).trans e1⟩
  ·obtain⟨o',e1⟩:=I.base.there b o e hx;exact⟨o',(hs.2 b (Lb (Li (Kg e) I.ok.above))).trans e1⟩
  ·by_cases G:j=i
   ·subst G;rw[hi]at e1;cases e1;rw[MV O]at e2
    cases e2
    exact⟨u,r,.inl ⟨F,by simp⟩⟩
   ·rw[NS (Ne.symm G)]at e2;obtain⟨u',r',q⟩:=hl j y v' e1 e2 e3;refine⟨u',r',?_⟩
    rcases q with⟨k,e⟩|⟨k,c,e,z⟩
    ·refine .inl ⟨k,?_⟩;have:y≠x:=λe=>G (nX hN e1 (e▸hi));simp[this,e]
    ·exact .inr ⟨k,c,e,z.sameBut hs (cne y c e)⟩
  ·obtain⟨w',z⟩:=I.cell y c e;exact⟨w',z.sameBut hs (cne y c e)⟩
  ·obtain⟨e,n,ne,nf,d⟩:=I.pin p hp;exact⟨(hs.2 p.1 ne).trans e,n,ne,nf,d⟩
 ·have J:X.fn x=F2:=by
   rcases hf with z|z
   ·exact z
   ·rw[z]at F;cases F
  obtain⟨c,hc⟩:=I.ok.has x (.inl F);obtain⟨w',z⟩:=I.cell x c hc;refine wpAny_storeName_cell I.ok.kind F hc z (λh' U hs=>?_);obtain⟨oc,pv,fv⟩:=id z;refine h {s with heap:=h'} ⟨I.ok,I.os,I.bare,⟨λb o e n hb hx=>?_,λb o e n hb hx=>?_,I.base.free,λb o e hx=>?_,I.base.tups,I.base.frzs,I.base.tbls⟩,⟨m,hn.sameBut hs (Ne.symm (cne x c hc)),λj y v' e1 e2 e3=>?_⟩,λy c' e=>?_,I.free,I.freeC,λp hp=>?_,tracked ⟨oc,pv,I.freeC x c hc⟩ hs,by simpa using I.len⟩ ⟨c,hs,.inr hc⟩
  ·exact(hs.2 b (Lb (Li (Kg e) (I.ok.cab x c J hc)))).trans (I.base.keep b o e n hb hx)
  ·obtain⟨sl,e1⟩:=I.base.slot b o e n hb hx;exact⟨sl,(hs.2 b (Lb (Li (Kg e) (I.ok.cab x c J hc)))).trans e1⟩
  ·obtain⟨o',e1⟩:=I.base.there b o e hx;exact⟨o',(hs.2 b (Lb (Li (Kg e) (I.ok.cab x c J hc)))).trans e1⟩
  ·by_cases G:j=i
   ·subst G;rw[hi]at e1;cases e1;rw[MV O]at e2
    cases e2
    exact⟨u,r,.inr ⟨.inl F,c,hc,U⟩⟩
   ·rw[NS (Ne.symm G)]at e2;obtain⟨u',r',q⟩:=hl j y v' e1 e2 e3;refine⟨u',r',?_⟩
    rcases q with q|⟨k,c',e,z'⟩
    ·exact .inl q
    ·refine .inr ⟨k,c',e,z'.sameBut hs ?_⟩;rintro rfl;exact G (nX hN e1 (I.ok.inj _ _ _ e hc▸hi))
  ·by_cases HY:c'=c
   ·subst HY;exact⟨_,U⟩
   ·obtain⟨w2,z2⟩:=I.cell y c' e;exact⟨w2,z2.sameBut hs HY⟩
  ·obtain⟨e,n,ne,nf,d⟩:=I.pin p hp;refine⟨(hs.2 p.1 ?_).trans e,n,ne,nf,d⟩;intro q;rw[q,pv]at e;have q':oc=p.2:=MN.inj e;exact d w' (by rw[<-q'];exact fv)
theorem fu{E:hH->p7->Prop}{Q:Unit->p7->Prop}(I:Inv X pins σ H s)(j:X.N.Nodup)(hi:X.N[i]?=Z x)(hx:Loc X.env.scope x)(r:RelV v u)(h:∀s',Inv X pins (σ.set i (Z v)) H s'->Q () s')(hf:X.fn x=F2∨X.env.scope.names.lookup x=Z .local:=by first|exact .inl rfl|exact .inr rfl|assumption):Kr M A (storeName X.env x u) Q E s:=uz I j hi hx r (λs' I' _=>h s' I') hf
theorem Inv.call'{s':p7}(I:Inv X pins σ H s)(ho:s'.os=s.os)(u:Un (frs X.stack) ch H H' s.heap s'.heap)(hok:HOk X.prog X.w H' s'.heap)(q:R6 s'.gens)(j:∀b∈ch,(b∈X.ex∨X.s₀.heap.objs.size<=b)/\b≠X.env.locals/\(∀x c,X.env.cells.lookup x=Z c->c≠b)/\∀p∈X.pn++pins,p.1≠b):Inv X pins σ H' s':=by obtain⟨h',g',d',t',o'⟩:=s';have e:o'=s.os:=ho;subst e;exact I.call (g':=g') (t':=t') (d':=d') u hok q j
end
noncomputable abbrev XK:=hH->Option VH->Hp->Prop
noncomputable abbrev St:=List (Option V)
noncomputable abbrev VK:=V->Hp->Prop
noncomputable abbrev TE:=St->Hp->VK->Prop
noncomputable abbrev TT:=St->Hp->(Bool->Hp->Prop)->Prop
noncomputable abbrev TA:=St->Hp->(List V->Hp->Prop)->Prop
structure bF where
 nx:St->Hp->Prop
 rt:VK
 bk:St->Hp->Prop:=λ_ _=>False
 ct:St->Hp->Prop:=λ_ _=>False
noncomputable abbrev TS:=bF->St->Hp->Prop
def EP(X:Cx)(pins:List (VH×Obj))(σ:St)(Q:VK)(u:hH)(s':p7):Prop:=∃v H',Inv X pins σ H' s'/\RelV v u/\Q v H'
def TP(X:Cx)(pins:List (VH×Obj))(σ:St)(Q:Bool->Hp->Prop)(b:Bool)(s':p7):Prop:=∃H',Inv X pins σ H' s'/\Q b H'
def AP(X:Cx)(pins:List (VH×Obj))(σ:St)(Q:List V->Hp->Prop)(us:List hH)(s':p7):Prop:=∃vs H',Inv X pins σ H' s'/\Vals vs us/\Q vs H'
def SP(X:Cx)(pins:List (VH×Obj))(D:bF)(f:Flow)(s':p7):Prop:=
 match f with
 |.next=>∃σ' H',Inv X pins σ' H' s'/\D.nx σ' H'
 |.brk=>∃σ' H',Inv X pins σ' H' s'/\D.bk σ' H'
 |.cont=>∃σ' H',Inv X pins σ' H' s'/\D.ct σ' H'
 |.ret u=>∃v σ' H',Inv X pins σ' H' s'/\RelV v u/\D.rt v H'
def PE(X:Cx)(e:Expr)(t:TE):Prop:=∀(pins:List (VH×Obj)) (s:p7) (σ:St) (H:Hp) (Q:VK),Inv X pins σ H s->t σ H Q->Kr (model X.prog X.w) X.A (eval e X.env) (EP X pins σ Q) X.xe s
def PT(X:Cx)(e:Expr)(t:TT):Prop:=∀(pins:List (VH×Obj)) (s:p7) (σ:St) (H:Hp) (Q:Bool->Hp->Prop),Inv X pins σ H s->t σ H Q->Kr (model X.prog X.w) X.A (isTrue e X.env (eval e X.env)) (TP X pins σ Q) X.xe s
def PW(X:Cx)(e:Expr)(t:TT):Prop:=∀(whole:Sem hH) (pins:List (VH×Obj)) (s:p7) (σ:St) (H:Hp) (Q:Bool->Hp->Prop),Inv X pins σ H s->t σ H Q->Kr (model X.prog X.w) X.A (isTrue e X.env whole) (TP X pins σ Q) X.xe s
theorem PW.pt{X:Cx}{t:TT}(h:PW X e t):PT X e t:=h _
def PA(X:Cx)(es:List Expr)(t:TA):Prop:=∀(pos:Pos) (pins:List (VH×Obj)) (s:p7) (σ:St) (H:Hp) (Q:List V->Hp->Prop),Inv X pins σ H s->t σ H Q->Kr (model X.prog X.w) X.A (spliced (P0 pos (L8 es X.env))) (AP X pins σ Q) X.xe s
def PS(X:Cx)(st:Stmt)(t:TS):Prop:=∀(pins:List (VH×Obj)) (s:p7) (σ:St) (H:Hp) (D:bF),Inv X pins σ H s->t D σ H->Kr (model X.prog X.w) X.A (exec st X.env) (SP X pins D) X.xe s
def PSs(X:Cx)(st:List Stmt)(t:TS):Prop:=∀(pins:List (VH×Obj)) (s:p7) (σ:St) (H:Hp) (D:bF),Inv X pins σ H s->t D σ H->Kr (model X.prog X.w) X.A (execs st X.env) (SP X pins D) X.xe s
theorem thn{α:Type}{t:Sem α}{Q Q':α->p7->Prop}{E:hH->p7->Prop}(h:Kr M A t Q E s)(j:∀a s,Q a s->Q' a s):Kr M A t Q' E s:=LW h j λ_ _ x=>x
end
variable{X:Cx}{pos:Pos}{pins:List (VH×Obj)}{σ:St}{c:Expr}
section
section
variable{X:Cx}
noncomputable def Fm(i:Nat):TE:=λσ H Q=>∃v,σ[i]?=Z (Z v)/\Q v H
noncomputable def tC(v:V):TE:=λ_ H Q=>Q v H
theorem C0(B:X.N[i]?=Z x)(F:Vis X.env.scope x)(hd:(x==("__debug__":Str))=N3:=by decide)(z:(x==("__classdict__":Str))=N3:=by decide):PE X (.Name x pos) (Fm i):=by
 intro pins s σ H Q I h;obtain⟨v,e,h⟩:=h;obtain⟨m,G,hl⟩:=I.loc;obtain⟨u,r,l⟩:=hl i x v B e F;have fin:EP X pins σ Q u s:=⟨v,H,I,r,h⟩
 rcases l with⟨q,hm⟩|⟨q,c,hc,j⟩
 ·exact UT (Sr I.ok.kind q G hm fin) hd
 ·rcases q with q|q
  ·exact UT (SU I.ok.kind q hc j fin) hd
  ·exact UT (wpAny_loadName_free I.ok.kind q hc j fin z) hd
theorem C1{i j pos}:PE X (.Constant (.int i) j pos) (tC (.int i)):=λ_ _ _ H _ I h=>wpAny_Constant_int ⟨.int i,H,I.tok _,⟨_,rfl⟩,h⟩
theorem DX{b j pos}:PE X (.Constant (.bool b) j pos) (tC (.bl b)):=λ_ _ _ H _ I h=>Constant_bool ⟨.bl b,H,I,rfl,h⟩
theorem C2{j pos}:PE X (.Constant .none j pos) (tC .non):=λ_ _ _ H _ I h=>Constant_none ⟨.non,H,I,rfl,h⟩
def Gl(X:Cx)(x:Str):Prop:=X.env.kindOf x=Z .globalImplicit
theorem ky{E Q:hH->p7->Prop}(I:Inv X pins σ H s)(j:Gl X x)(hm:X.mg x=Z u)(h:Q u s)(hd:(x==("__debug__":Str))=N3:=by decide):Kr (model X.prog X.w) X.A (eval (.Name x pos) X.env) Q E s:=QF I.ok.kind j (Calls.loadGlobal_global (by rw[I.ok.glob];exact I.mod.glob.keeps I.bk) hm h) hd
theorem cQ{E Q:hH->p7->Prop}(I:Inv X pins σ H s)(j:Gl X x)(hm:X.mg x=Y)(q:Og x=Z u)(h:Q u s)(z:x≠"__name__":=by decide)(hd:(x==("__debug__":Str))=N3:=by decide):Kr (model X.prog X.w) X.A (eval (.Name x pos) X.env) Q E s:=by obtain⟨mb,h1,h2⟩:=I.mod.blt;exact QF I.ok.kind j (Calls.loadGlobal_builtin (by rw[I.ok.glob];exact I.mod.glob.keeps I.bk) hm (by rw[I.ok.blt];exact h1.keeps I.bk) ((h2 x z).trans q) h) hd
theorem A8(j:Gl X x)(hm:X.mg x=Z u)(r:RelV v u)(hd:(x==("__debug__":Str))=N3:=by decide):PE X (.Name x pos) (tC v):=λ_ _ _ H _ I h=>ky I j hm ⟨v,H,I,r,h⟩ hd
theorem A9(j:Gl X x)(hm:X.mg x=Y)(q:Og x=Z u)(r:RelV v u)(z:x≠"__name__":=by decide)(hd:(x==("__debug__":Str))=N3:=by decide):PE X (.Name x pos) (tC v):=λ_ _ _ H _ I h=>cQ I j hm q ⟨v,H,I,r,h⟩ z hd
variable{a b:Expr}{ta tb:TE}{pos:Pos}
variable{tA tB':TT}{rest:List Expr}
noncomputable def Fn(t u:TT):TT:=λσ H Q=>t σ H λc H1=>if c=F2 then u σ H1 Q else Q N3 H1
noncomputable def tOr(t u:TT):TT:=λσ H Q=>t σ H λc H1=>if c=F2 then Q F2 H1 else u σ H1 Q
noncomputable def Fo(t:TT):TT:=λσ H Q=>t σ H λc H1=>Q (!c) H1
theorem Aa(j:PT X a tA):PW X (.BoolOp .And [a] pos) tA:=by
 intro wh pins s σ H Q I h;refine isTrue_and (thn (j pins s σ H Q I h) λc s1 e=>?_)
 cases c with
 |true=>exact isTrue_and_nil e
 |false=>exact e
theorem C3(j:PT X a tA):PW X (.BoolOp .Or [a] pos) tA:=by
 intro wh pins s σ H Q I h;refine isTrue_or (thn (j pins s σ H Q I h) λc s1 e=>?_)
 cases c with
 |false=>exact isTrue_or_nil e
 |true=>exact e
theorem C4(z:PT X a tA)(hb:PW X (.BoolOp .And (b::rest) pos) tB'):PW X (.BoolOp .And (a::b::rest) pos) (Fn tA tB'):=by
 intro wh pins s σ H Q I h;refine isTrue_and (thn (z pins s σ H _ I h) λc s1 B=>?_);obtain⟨H1,j,q⟩:=B
 cases c with
 |true=>exact hb wh pins s1 σ H1 Q j q
 |false=>exact⟨H1,j,q⟩
theorem DY(z:PT X a tA)(hb:PW X (.BoolOp .Or (b::rest) pos) tB'):PW X (.BoolOp .Or (a::b::rest) pos) (tOr tA tB'):=by
 intro wh pins s σ H Q I h;refine isTrue_or (thn (z pins s σ H _ I h) λc s1 B=>?_);obtain⟨H1,j,q⟩:=B
 cases c with
 |true=>exact⟨H1,j,q⟩
 |false=>exact hb wh pins s1 σ H1 Q j q
theorem C5(j:PT X a tA):PT X (.UnaryOp .Not a pos) (Fo tA):=by intro pins s σ H Q I h;exact isTrue_not (j pins s σ H (λc H1=>Q (!c) H1) I h)
noncomputable def DZ(ta tb:TE):TE:=λσ H Q=>ta σ H λx H1=>∃c,x=.bl c/\if c=F2 then tb σ H1 Q else Q (.bl N3) H1
noncomputable def Fp(ta tb:TE):TE:=λσ H Q=>ta σ H λx H1=>∃c,x=.bl c/\if c=F2 then Q (.bl F2) H1 else tb σ H1 Q
noncomputable def E1(ta:TE):TE:=λσ H Q=>ta σ H λx H1=>∃c,x=.bl c/\Q (.bl (!c)) H1
theorem C6{op}{t:TE}(h:PE X a t):PE X (.BoolOp op [a] pos) t:=λpins s σ H Q I hw=>BoolOp_one (h pins s σ H Q I hw)
theorem C7(z:PE X a ta)(hb:PE X (.BoolOp .And (b::rest) pos) tb):PE X (.BoolOp .And (a::b::rest) pos) (DZ ta tb):=by
 intro pins s σ H Q I h;refine BoolOp_and (thn (z pins s σ H _ I h) λv s1 B=>?_);obtain⟨x,H1,q,F,j⟩:=B;obtain⟨c,rfl,j⟩:=j
 cases F
 refine NT ?_
 cases c with
 |true=>exact hb pins s1 σ H1 Q q j
 |false=>exact⟨.bl N3,H1,q,rfl,j⟩
theorem E2(z:PE X a ta)(hb:PE X (.BoolOp .Or (b::rest) pos) tb):PE X (.BoolOp .Or (a::b::rest) pos) (Fp ta tb):=by
 intro pins s σ H Q I h;refine BoolOp_or (thn (z pins s σ H _ I h) λv s1 B=>?_);obtain⟨x,H1,q,F,j⟩:=B;obtain⟨c,rfl,j⟩:=j
 cases F
 refine NT ?_
 cases c with
 |false=>exact hb pins s1 σ H1 Q q j
 |true=>exact⟨.bl F2,H1,q,rfl,j⟩
theorem C8(q:PE X a ta):PE X (.UnaryOp .Not a pos) (E1 ta):=by
 intro pins s σ H Q I h;refine UnaryOp_ (thn (q pins s σ H _ I h) λv s1 z=>?_);obtain⟨x,H1,B,F,j⟩:=z;obtain⟨c,rfl,j⟩:=j
 cases F
 exact not_of (NT ⟨.bl (!c),H1,B,rfl,j⟩)
noncomputable def tIf(t:TT)(ta tb:TE):TE:=λσ H Q=>t σ H λc H1=>if c=F2 then ta σ H1 Q else tb σ H1 Q
theorem xo(hc:PT X c tA)(z:PE X a ta)(hb:PE X b tb):PE X (.IfExp c a b pos) (tIf tA ta tb):=by
 intro pins s σ H Q I h;refine wpAny_IfExp (thn (hc pins s σ H _ I h) λd s1 B=>?_);obtain⟨H1,j,q⟩:=B
 cases d with
 |true=>exact z pins s1 σ H1 Q j q
 |false=>exact hb pins s1 σ H1 Q j q
end
end
variable{K:Frag}{tg:Expr}{te:TE}{ta:TA}{op:OL}{body:List Stmt}
section
def SqL(K:Frag)(H:Hp)(a:VH)(xs:List V):Prop:=
 Rd H a (.lst xs) ∨
  ∃(o:Obj) (its:Array hH) (n:Nat),K.lookup a=Z o/\o.cls=.type "list"/\o.dict=Y/\o.data=.seq its n/\its.size<=Kn/\Vals xs its.toList
def SqT(K:Frag)(H:Hp)(a:VH)(xs:List V):Prop:=
 Rd H a (.tup xs) ∨
  ∃(o:Obj) (its:Array hH) (n:Nat),K.lookup a=Z o/\o.cls=.type "tuple"/\o.data=.seq its n/\its.size<=Kn/\Vals xs its.toList
noncomputable def Fq:hH->Option V
 |.none=>Z .non
 |.bool b=>Z (.bl b)
 |.int i _=>Z (.int i)
 |.str x _=>Z (.str x)
 |.bytes b _=>Z (.byt b)
 |.float b _=>Z (.flt b)
 |.ref a=>Z (.ref a)
 |.type n=>Z (.ty n)
 |_=>Y
theorem RelV.abs{x:V}(r:RelV x u):Fq u=Z x:=by
 cases x with
 |non=>cases r;rfl
 |bl _=>cases r;rfl
 |int _=>obtain⟨t,rfl⟩:=r;rfl
 |str _=>obtain⟨t,rfl⟩:=r;rfl
 |byt _=>obtain⟨t,rfl⟩:=r;rfl
 |flt _=>obtain⟨t,rfl⟩:=r;rfl
 |ref _=>cases r;rfl
 |ty _=>cases r;rfl
theorem RelV.inj{x y:V}(r:RelV x u)(q:RelV y u):x=y:=MN.inj (r.abs.symm.trans q.abs)
theorem Vals.inj:∀{xs ys:List V} {us:List hH},Vals xs us->Vals ys us->xs=ys
 |_,_,_,.nil,.nil=>rfl
 |_,_,_,.cons r t,.cons r' t'=>by rw[r.inj r',Vals.inj t t']
section
variable{X:Cx}{pins:List (VH×Obj)}{σ:St}{H:Hp}{s:p7}{a:VH}{xs ys:List V}
theorem SqL.of(h:H a=Z (.lst xs)):SqL K H a xs:=.inl (.inl h)
theorem SqT.of(h:H a=Z (.tup xs)):SqT K H a xs:=.inl (.inl h)
theorem Inv.list(I:Inv X pins σ H s)(h:SqL X.K H a xs):∃its:List hH,Vals xs its/\PlainL s.heap a its.toArray/\xs.length<=Kn:=by
 rcases h with h|⟨o,its,n,j,hc,hd,hs,q,r⟩
 ·obtain⟨z,its,n,r,e⟩:=h.ok I.hok;exact⟨its,r,⟨_,n,e,rfl,rfl,rfl⟩,z⟩
 ·refine⟨its.toList,r,⟨o,n,I.kIn a o j,hc,hd,by simpa using hs⟩,?_⟩
  have e:=r.length;simp only[L6]at e;lia
theorem Inv.tuple(I:Inv X pins σ H s)(h:SqT X.K H a xs):∃its:List hH,Vals xs its/\Uy s.heap a its.toArray/\xs.length<=Kn:=by
 rcases h with h|⟨o,its,n,j,hc,hs,q,r⟩
 ·obtain⟨z,its,r,p⟩:=h.ok I.hok;exact⟨its,r,p,z⟩
 ·refine⟨its.toList,r,⟨o,I.kIn a o j,hc,n,by simpa using hs⟩,?_⟩
  have e:=r.length;simp only[L6]at e;lia
theorem Inv.list_inj(I:Inv X pins σ H s)(h:SqL X.K H a xs)(h':SqL X.K H a ys):xs=ys:=by
 obtain⟨its,r,⟨o,n,e,_,_,d⟩,_⟩:=I.list h;obtain⟨its',r',⟨o',n',e',_,_,d'⟩,_⟩:=I.list h';rw[e]at e';cases e';rw[d]at d'
 injection d' with d1 _
 have:its=its':=by simpa using congrArg RU d1
 subst this;exact r.inj r'
theorem Inv.tuple_inj(I:Inv X pins σ H s)(h:SqT X.K H a xs)(h':SqT X.K H a ys):xs=ys:=by
 obtain⟨its,r,⟨o,e,_,n,d⟩,_⟩:=I.tuple h;obtain⟨its',r',⟨o',e',_,n',d'⟩,_⟩:=I.tuple h';rw[e]at e';cases e';rw[d]at d'
 injection d' with d1 _
 have:its=its':=by simpa using congrArg RU d1
 subst this;exact r.inj r'
end
noncomputable abbrev Cx.wish(X:Cx)(E:hH->p7->Prop):Cx:={X with xe:=E}
noncomputable abbrev Cx.nox(X:Cx):Cx:=X.wish λ_ _=>False
theorem Cx.Ok.wish(ok:X.Ok)(E:hH->p7->Prop):(X.wish E).Ok:=⟨ok.mod,ok.kind,ok.glob,ok.blt,ok.above,ok.inj,ok.has,ok.cab,ok.hd,ok.frames,ok.stk,ok.exf,ok.bs,ok.bsz,ok.noex,ok.exfs,ok.funs,ok.frf⟩
theorem Cx.Ok.unwish{E:hH->p7->Prop}(ok:(X.wish E).Ok):X.Ok:=⟨ok.mod,ok.kind,ok.glob,ok.blt,ok.above,ok.inj,ok.has,ok.cab,ok.hd,ok.frames,ok.stk,ok.exf,ok.bs,ok.bsz,ok.noex,ok.exfs,ok.funs,ok.frf⟩
section
variable{X:Cx}{pins:List (VH×Obj)}{σ:St}{H:Hp}{s:p7}{E:hH->p7->Prop}
theorem Inv.wish(I:Inv X pins σ H s)(E:hH->p7->Prop):Inv (X.wish E) pins σ H s:=⟨I.ok.wish E,I.os,I.bare,I.base,I.loc,I.cell,I.free,I.freeC,I.pin,I.hok,I.len⟩
theorem Inv.unwish(I:Inv (X.wish E) pins σ H s):Inv X pins σ H s:=⟨I.ok.unwish,I.os,I.bare,I.base,I.loc,I.cell,I.free,I.freeC,I.pin,I.hok,I.len⟩
theorem SP.unwish{D:bF}{f:Flow}{s':p7}(h:SP (X.wish E) pins D f s'):SP X pins D f s':=by
 cases f with
 |next=>obtain⟨σ',H',I,q⟩:=h;exact⟨σ',H',I.unwish,q⟩
 |brk=>obtain⟨σ',H',I,q⟩:=h;exact⟨σ',H',I.unwish,q⟩
 |cont=>obtain⟨σ',H',I,q⟩:=h;exact⟨σ',H',I.unwish,q⟩
 |ret u=>obtain⟨v,σ',H',I,r,q⟩:=h;exact⟨v,σ',H',I.unwish,r,q⟩
theorem PSs.nox{st:List Stmt}{t:TS}(h:PSs X.nox st t):PSs X st t:=λpins s σ H D I hw=>LW (h pins s σ H D (I.wish _) hw) (λ_ _ q=>q.unwish) λ_ _ z=>False.elim z
end
section
variable{X:Cx}{st:Stmt}{rest:List Stmt}{t u:TS}{e:Expr}{te:TE}{pos:Pos}
noncomputable def sy:TS:=λD σ H=>D.nx σ H
noncomputable def C9(t u:TS):TS:=λD σ H=>t {D with nx:=u D} σ H
theorem Ab:PSs X [] sy:=λ_ _ σ H _ I h=>Sd ⟨σ,H,I,h⟩
theorem xp(h1:PS X st t)(h2:PSs X rest u):PSs X (st::rest) (C9 t u):=by
 intro pins s σ H D I h;refine wpAny_execs_cons (thn (h1 pins s σ H {D with nx:=u D} I h) λf s1 q=>?_)
 cases f with
 |next=>obtain⟨σ',H',I',q⟩:=q;exact h2 pins s1 σ' H' D I' q
 |ret v=>exact q
 |brk=>exact q
 |cont=>exact q
noncomputable def uA:TS:=λD σ H=>D.bk σ H
noncomputable def zy:TS:=λD σ H=>D.ct σ H
theorem Ac:PS X (.Pass pos) sy:=λ_ _ σ H _ I h=>wpAny_Pass ⟨σ,H,I,h⟩
theorem xq:PS X (.Break pos) uA:=λ_ _ σ H _ I h=>wpAny_Break ⟨σ,H,I,h⟩
theorem qJ:PS X (.Continue pos) zy:=λ_ _ σ H _ I h=>wpAny_Continue ⟨σ,H,I,h⟩
theorem Inv.quiet(I:Inv X pins σ H s):interactive X.env=N3:=by simp[interactive,I.ok.kind]
noncomputable def zz(te:TE):TS:=λD σ H=>te σ H λ_ H1=>D.nx σ H1
theorem Ad(he:PE X e te)(hs:Pp e Y pos.line X.env=pure N3:=by rfl):PS X (.Expr e pos) (zz te):=by intro pins s σ H D I h;exact wpAny_Expr_any (thn (he pins s σ H _ I h) λv s1 j=>(by obtain⟨x,H1,q,B,z⟩:=j;exact⟨σ,H1,q,z⟩)) I.quiet hs
noncomputable def Ca(te:TE):TS:=λD σ H=>te σ H D.rt
theorem Cb(he:PE X e te):PS X (.Return (Z e) pos) (Ca te):=by intro pins s σ H D I h;exact wpAny_Return_some (thn (he pins s σ H _ I h) λv s1 j=>(by obtain⟨x,H1,q,z,B⟩:=j;exact⟨x,σ,H1,q,z,B⟩))
noncomputable def Cc(c:TT)(t u:TS):TS:=λD σ H=>c σ H λb H1=>if b=F2 then t D σ H1 else u D σ H1
theorem E3{a b:List Stmt}{tc:TT}(hc:PT X c tc)(z:PSs X a t)(hb:PSs X b u):PS X (.If c a b pos) (Cc tc t u):=by
 intro pins s σ H D I h;refine wpAny_If (thn (hc pins s σ H _ I h) λd s1 B=>?_);obtain⟨H1,j,q⟩:=B
 cases d with
 |true=>exact z pins s1 σ H1 D j q
 |false=>exact hb pins s1 σ H1 D j q
end
noncomputable abbrev TG:=V->St->Hp->(St->Hp->Prop)->Prop
noncomputable abbrev TGs:=List V->St->Hp->(St->Hp->Prop)->Prop
def PG(X:Cx)(target:Expr)(t:TG):Prop:=
 ∀(pins:List (VH×Obj)) (s:p7) (σ:St) (H:Hp) (v:V) (u:hH) (Q:St->Hp->Prop),Inv X pins σ H s->RelV v u->t v σ H Q->
  Kr (model X.prog X.w) X.A (assign target X.env u) (λ_ s'=>∃σ' H',Inv X pins σ' H' s'/\Q σ' H') X.xe s
def PGs(X:Cx)(ts:List Expr)(t:TGs):Prop:=
 ∀(pins:List (VH×Obj)) (s:p7) (σ:St) (H:Hp) (vs:List V) (us:List hH) (Q:St->Hp->Prop),Inv X pins σ H s->Vals vs us->t vs σ H Q->
  Kr (model X.prog X.w) X.A (T3 ((N7 ts X.env).map (·.2)) us) (λ_ s'=>∃σ' H',Inv X pins σ' H' s'/\Q σ' H') X.xe s
noncomputable abbrev kz:=V->V->V->Hp->(Hp->Prop)->Prop
def PSet(X:Cx)(t:kz):Prop:=
 ∀(pins:List (VH×Obj)) (s:p7) (σ:St) (H:Hp) (o i v:V) (ov iv u:hH) (Q:Hp->Prop),Inv X pins σ H s->RelV o ov->RelV i iv->RelV v u->t o i v H Q->
  Kr (model X.prog X.w) X.A (SO ov iv u) (λ_ s'=>∃H',Inv X pins σ H' s'/\Q H') X.xe s
noncomputable abbrev TIp:=V->V->Hp->VK->Prop
def PIp(X:Cx)(op:OL)(t:TIp):Prop:=
 ∀(pins:List (VH×Obj)) (s:p7) (σ:St) (H:Hp) (x y:V) (v u:hH) (Q:VK),Inv X pins σ H s->RelV x v->RelV y u->t x y H Q->
  Kr (model X.prog X.w) X.A (NF op v u) (EP X pins σ Q) X.xe s
section
variable{X:Cx}{pos:Pos}
noncomputable def jj(i:Nat):TG:=λv σ H Q=>Q (σ.set i (Z v)) H
theorem qV(j:X.N.Nodup)(hi:X.N[i]?=Z x)(hx:Loc X.env.scope x)(hf:X.fn x=F2∨X.env.scope.names.lookup x=Z .local:=by first|exact .inl rfl|exact .inr rfl|assumption):PG X (.Name x pos) (jj i):=by intro pins s σ H v u Q I r h;exact wpAny_assign_Name (fu I j hi hx r (λs' I'=>⟨_,H,I',h⟩) hf)
noncomputable def Fr:TGs:=λvs σ H Q=>vs=[]/\Q σ H
noncomputable def E4(t:TG)(u:TGs):TGs:=λvs σ H Q=>∃v r,vs=v::r/\t v σ H λσ' H'=>u r σ' H' Q
theorem Ae:PGs X [] Fr:=by
 intro pins s σ H vs us Q I r h;obtain⟨e,h⟩:=h;subst e
 cases r
 exact Tu ⟨σ,H,I,h⟩
theorem xr{es:List Expr}{t:TG}{u:TGs}(h1:PG X e t)(h2:PGs X es u)(hs:(N7 (e::es) X.env).map (·.2)=assign e X.env::(N7 es X.env).map (·.2):=by rfl):PGs X (e::es) (E4 t u):=by
 intro pins s σ H vs us Q I r h;obtain⟨v,vr,e1,h⟩:=h;subst e1
 cases r with
 |cons r rr=>rw[hs];refine QG (thn (h1 pins s σ H _ _ _ I r h) λ_ s1 j=>?_);obtain⟨σ1,H1,q,z⟩:=j;exact h2 pins s1 σ1 H1 _ _ Q q rr z
noncomputable def Fs(K:Frag)(n:Nat)(t:TGs):TG:=λv σ H Q=>∃a xs,v=.ref a/\SqT K H a xs/\xs.length=n/\t xs σ H Q
theorem Cd{es:List Expr}{k:Nat}{t:TGs}{n:Nat}(hc:X.calm=F2)(h:PGs X es t)(q:(N7 es X.env).length=n:=by rfl)(j:(N7 es X.env).findIdx? (·.1)=Y:=by rfl):PG X (.Tuple es k pos) (Fs X.K n t):=by
 intro pins s σ H v u Q I r hw;obtain⟨a,xs,e1,z,hl,hw⟩:=hw;subst e1
 cases r
 obtain⟨its,rv,B,G⟩:=I.tuple z;refine assign_Tuple_tuple (I.ok.hd hc) B (by simp[q,<-hl,rv.length]) j λh' hx=>?_
 have F:Inv X pins σ H {s with heap:=h'}:=I.kept (t':=s.toks) λb o e=>hx b o (Lb (Kg e)) e
 exact h pins _ σ H xs _ Q F (by simpa using rv) hw
noncomputable def Ft(to ti:TE)(t:kz):TG:=λv σ H Q=>to σ H λo H1=>ti σ H1 λi H2=>t o i v H2 λH3=>Q σ H3
theorem Ce {o i:Expr}{to ti:TE}{t:kz}(ho:PE X o to)(hi:PE X i ti)(hs:PSet X t)(q:∀v,assign (.Subscript o i pos) X.env v=(do
   let ov <-holding [v] (eval o X.env)
   let iv <-holding [v,ov] (eval i X.env)
   R7 pos
   holding [v,ov,iv] (SO ov iv v)
   release [v,ov,iv] []):=by intro _;rfl):PG X (.Subscript o i pos) (Ft to ti t):=by
 intro pins s σ H v u Q I r h;rw[q];refine gV (LN (thn (ho pins s σ H _ I h) λov s1 j=>?_));obtain⟨x,H1,z,B,F⟩:=j;refine gV (LN (thn (hi pins s1 σ H1 _ z F) λiv s2 j=>?_));obtain⟨y,H2,G,J,L⟩:=j;refine gV (OB (gV (LN (thn (hs pins s2 σ H2 x y v ov iv u _ G B J r L) λ_ s3 j=>?_))));obtain⟨O,U,pv⟩:=j;exact wpAny_release ⟨σ,O,U,pv⟩
noncomputable def sB(te:TE)(g:TG):TS:=λD σ H=>te σ H λx H1=>g x σ H1 D.nx
theorem uB{g:TG}(he:PE X e te)(j:PG X tg g)(hs:P2 [tg] e pos.line X.env=pure N3:=by rfl)(hw:NY [tg] e X.env=pure Y:=by rfl)(h1:(N7 [tg] X.env).map (·.2)=[assign tg X.env]:=by rfl):PS X (.Assign [tg] e pos) (sB te g):=by intro pins s σ H D I h;refine wpAny_Assign_stores (thn (he pins s σ H _ I h) λv s1 g9=>?_) hs hw;obtain⟨x,H1,z,B,F⟩:=g9;rw[h1];exact thn (j pins s1 σ H1 x v _ z B F) λ_ s2 q=>q
noncomputable def Cf(i j:Nat)(ta:TA):TS:=λD σ H=>ta σ H λvs H1=>∃v w,vs=[v,w]/\D.nx ((σ.set i (Z v)).set j (Z w)) H1
theorem Cg{j:Nat}{y:Str}{a b:Expr}{px py pt:Pos}{kt G z}(hc:X.calm=F2)(U:X.N.Nodup)(hi:X.N[i]?=Z x)(hj:X.N[j]?=Z y)(J:i≠j)(hx:X.env.scope.names.lookup x=Z .local)(pv:X.env.scope.names.lookup y=Z .local)(ha:PA X [a,b] ta)(hw:NY [.Tuple [.Name x px,.Name y py] kt pt] (.Tuple [a,b] G z) X.env=pure (Z [x,y]))(hs:P2 [.Tuple [.Name x px,.Name y py] kt pt] (.Tuple [a,b] G z) pos.line X.env=pure N3:=by rfl):
 PS X (.Assign [.Tuple [.Name x px,.Name y py] kt pt] (.Tuple [a,b] G z) pos) (Cf i j ta):=by
 intro pins s σ H D I h;rw[exec_Assign_arm];refine gV (OB ?_);rw[hs];refine gV (D0 ?_);rw[if_neg (by decide)]
 refine gV (Tuple_ (thn (ha _ pins s σ H _ I h) λus s1 g9=>?_));obtain⟨vs,H1,I1,r1,L⟩:=g9;obtain⟨v,w,e1,L⟩:=L;subst e1;obtain⟨B,F,rfl,rv,rw'⟩:∃B F,us=[B,F]/\RelV v B/\RelV w F:=by
  cases r1 with
  |cons p q=>
   cases q with
   |cons p' q'=>
    cases q'
    exact⟨_,_,rfl,p,p'⟩
 refine LQ ?_ (by show 2<=Kn;decide)
 have I2:Inv X pins σ H1 {s1 with heap:=s1.heap.push {cls:=.type "tuple",data:=.seq [B,F].toArray}}:=I1.kept (t':=s1.toks) λb o e=>hW _ e
 rw[hw];refine gV (D0 ?_);show Kr (model X.prog X.w) X.A (do rule "assign.swapped-stores";let items <-unpackItems (.ref s1.heap.objs.size) 2 Y;T3 [λv=>UU X.env y v,λv=>UU X.env x v] items.reverse;pure Flow.next) _ _ _
 refine gV (MW (gV (unpackItems_tuple (items:=#[B,F]) (I.ok.hd hc) (PU s1.heap _) λh' O=>?_)));have I3:=I2.kept (h':=h') (t':=s1.toks) λb o e=>O b o (Lb (Kg e)) e;show Kr _ _ (T3 [λv=>UU X.env y v,λv=>UU X.env x v] [F,B]>>=λ_=>pure Flow.next) _ _ _;refine gV (QG (wpAny_bindName (fu I3 U hj (.inl pv) rw' (λs2 I4=>?_) (.inr pv))));refine QG (wpAny_bindName (fu I4 U hi (.inl hx) rv (λs3 fv=>Tu (D0 ?_)) (.inr hx)));rw[List.set_comm _ _ (Ne.symm J)]at fv;exact⟨_,H1,fv,L⟩
noncomputable def Fu(i:Nat)(te:TE)(ti:TIp):TS:=λD σ H=>∃x,σ[i]?=Z (Z x)/\te σ H λy H1=>ti x y H1 λz H2=>D.nx (σ.set i (Z z)) H2
theorem Ch{ti:TIp}{pos':Pos}(F:X.N.Nodup)(hi:X.N[i]?=Z x)(hx:Loc X.env.scope x)(he:PE X e te)(ho:PIp X op ti)(hf:X.fn x=F2∨X.env.scope.names.lookup x=Z .local:=by first|exact .inl rfl|exact .inr rfl|assumption):
 PS X (.AugAssign (.Name x pos') op e pos) (Fu i te ti):=by
 intro pins s σ H D I h;obtain⟨v,e1,h⟩:=h;obtain⟨m,G,hl⟩:=I.loc;have vis:Vis X.env.scope x:=by rcases hx with k|k;exact .inl k;exact .inr (.inl k)
 obtain⟨u,r,l⟩:=hl i x v hi e1 vis;refine wpAny_AugAssign_Name ?_;have go:Kr (model X.prog X.w) X.A (eval e X.env) (λw s₂=>Kr (model X.prog X.w) X.A (NF op u w) (λr s₃=>Kr (model X.prog X.w) X.A (storeName X.env x r) (λ_=>SP X pins D .next) X.xe s₃) X.xe s₂) X.xe s:=by refine thn (he pins s σ H _ I h) λw s1 B=>?_;obtain⟨y,H1,J,L,O⟩:=B;refine thn (ho pins s1 σ H1 v y u w _ J r L O) λz s2 B=>?_;obtain⟨zv,H2,U,pv,fv⟩:=B;exact fu U F hi hx pv (λs3 I3=>⟨_,H2,I3,fv⟩) hf
 rcases l with⟨j,hm⟩|⟨j,c,hc,q⟩
 ·exact Sr I.ok.kind j G hm go
 ·rcases j with j|j
  ·exact SU I.ok.kind j hc q go
  ·rcases hx with k|k
   ·have:X.env.scope.names.lookup x=Z .free:=j;rw[k]at this;cases this
   ·have:X.env.scope.names.lookup x=Z .free:=j;rw[k]at this;cases this
noncomputable def E5(to ti te:TE)(tget:V->V->Hp->VK->Prop)(tip:TIp)(tset:kz):TS:=λD σ H=>to σ H λo H1=>ti σ H1 λi H2=>tget o i H2 λx H3=>te σ H3 λy H4=>tip x y H4 λz H5=>tset o i z H5 λH6=>D.nx σ H6
def Ci(X:Cx)(t:V->V->Hp->VK->Prop):Prop:=
 ∀(pins:List (VH×Obj)) (s:p7) (σ:St) (H:Hp) (o i:V) (ov iv:hH) (Q:VK),Inv X pins σ H s->RelV o ov->RelV i iv->t o i H Q->
  Kr (model X.prog X.w) X.A (R8 ov iv) (EP X pins σ Q) X.xe s
theorem Af{o i:Expr}{to ti:TE}{tget:V->V->Hp->VK->Prop}{tip:TIp}{tset:kz}{tpos:Pos}(ho:PE X o to)(hi:PE X i ti)(G:Ci X tget)(he:PE X e te)(J:PIp X op tip)(hs:PSet X tset)(L:∀ov iv new,augStore i ov iv new=(do holding [new,ov,iv] (SO ov iv new);release [new,ov,iv] [];pure .next):=by intros;rfl):PS X (.AugAssign (.Subscript o i tpos) op e pos) (E5 to ti te tget tip tset):=by intro pins s σ H D I h;refine wpAny_AugAssign_SubscriptAny (thn (ho pins s σ H _ I h) λov s1 g9=>?_) L;obtain⟨q,H1,O,z,U⟩:=g9;refine thn (hi pins s1 σ H1 _ O U) λiv s2 j=>?_;obtain⟨B,H2,pv,F,fv⟩:=j;refine thn (G pins s2 σ H2 q B ov iv _ pv z F fv) λold s3 j=>?_;obtain⟨x3,H3,I3,r3,q3⟩:=j;refine thn (he pins s3 σ H3 _ I3 q3) λv s4 j=>?_;obtain⟨x4,H4,I4,r4,q4⟩:=j;refine thn (J pins s4 σ H4 x3 x4 old v _ I4 r3 r4 q4) λnew s5 j=>?_;obtain⟨x5,H5,I5,r5,q5⟩:=j;exact thn (hs pins s5 σ H5 q B x5 ov iv new _ I5 z F r5 q5) λ_ s6 j=>(by obtain⟨H6,I6,q6⟩:=j;exact⟨σ,H6,I6,q6⟩)
end
section
variable{X:Cx}{pos:Pos}
noncomputable def uC(c:TT)(tb:TS):TS:=λD σ H=>∃W:Nat->St->Hp->Prop,(∃m,W m σ H)/\∀m σ H,W m σ H->
 c σ H λb H1=>if b=F2 then ∃N:St->Hp->Prop,(∀σ' H',N σ' H'->∃m',m'<m/\W m' σ' H')/\tb {D with nx:=N,ct:=N,bk:=D.nx} σ H1 else D.nx σ H1
theorem xt{tc:TT}{tb:TS}(J:PassesOwn (model X.prog X.w) X.A X.env X.xe)(hc:PT X c tc)(hb:PSs X body tb):PS X (.While c body [] pos) (uC tc tb):=by
 intro pins s σ H D I h;obtain⟨W,⟨m0,U⟩,turn⟩:=h;refine wpAny_While (codeAny_whileLoop (λn s'=>∃σ' H',Inv X pins σ' H' s'/\W n σ' H') ?_ m0 ⟨σ,H,I,U⟩);rintro n s1 ⟨σ1,H1,pv,fv⟩;refine NO J (thn (hc pins s1 σ1 H1 _ pv (turn n σ1 H1 fv)) λb s2 g9=>?_);obtain⟨H2,L,q⟩:=g9
 cases b with
 |true=>
  obtain⟨N,O,q⟩:=q;rw[if_pos rfl];refine NO J (thn (hb pins s2 σ1 H2 _ L q) λf s3 z=>?_)
  cases f with
  |next=>obtain⟨σ3,j,B,F⟩:=z;obtain⟨m',hm,G⟩:=O σ3 j F;exact⟨m',hm,σ3,j,B,G⟩
  |cont=>obtain⟨σ3,j,B,F⟩:=z;obtain⟨m',hm,G⟩:=O σ3 j F;exact⟨m',hm,σ3,j,B,G⟩
  |brk=>exact z
  |ret v=>exact z
 |false=>rw[if_neg Kl];exact Sd ⟨σ1,H2,L,q⟩
end
structure It where
 go:Nat->Hp->Prop
 yld:Nat->Hp->V->Hp->Prop
 stop:Nat->Hp->Prop
def cw(X:Cx)(pins:List (VH×Obj))(H:Hp)(b:VH):Prop:=H b=Y/\b≠X.env.locals/\b∉X.fs/\(b∈X.ex∨X.s₀.heap.objs.size<=b)/\(∀x c,X.env.cells.lookup x=Z c->c≠b)/\∀p∈X.pn++pins,p.1≠b
theorem Inv.fpOk{H':Hp}(I:Inv X pins σ H s)(hb:s.heap.objs.size<=b)(j:H' b=Y):cw X pins H' b:=by
 refine⟨j,LR (Li I.lt hb),I.nofs hb,.inr (LA I.sz hb),λx c e z=>?_,λp B z=>?_⟩
 ·obtain⟨v,q⟩:=I.cell x c e;exact absurd (Li q.lt (by rw[z];exact hb)) (LD _)
 ·exact absurd (Li (Kg (I.pin p B).1) (by rw[z];exact hb)) (LD _)
structure fX(P:KW)(w:Lo)(K:Frag)(tg:Expr)(J:It)(fp:List VH)(it:VH)(tn:Nat->Heap->Prop):Prop where
 mem:it∈fp
 obj:∀i h,tn i h->∀b∈fp,∃o,h.get? b=Z o/\∀v,o.data≠.cell v
 keep:∀i h h',tn i h->(∀b∈fp,∀o,h.get? b=Z o->h'.get? b=Z o)->tn i h'
 item:∀(X:Cx),X.prog=P->X.w=w->X.K=K->X.calm=F2->∀(i:Nat) (pins:List (VH×Obj)) (s:p7) (σ:St) (H:Hp) (E:hH->p7->Prop),Inv X pins σ H s->(∀b∈fp,cw X pins H b)->tn i s.heap->J.go i H->
  Kr (model P w) X.A (MZ (.ref it)) (λr s1=>∃u,r=Z u /\
   Kr (model P w) X.A (Qi tg (.ref it) u) (λ_ s2=>∃x H',Inv X pins σ H' s2/\RelV x u/\J.yld i H x H'/\tn (i+1) s2.heap/\∀b∈fp,H' b=Y) E s1) E s
 done:∀(X:Cx),X.prog=P->X.w=w->X.K=K->X.calm=F2->∀(i:Nat) (pins:List (VH×Obj)) (s:p7) (σ:St) (H:Hp) (E:hH->p7->Prop),Inv X pins σ H s->(∀b∈fp,cw X pins H b)->tn i s.heap->J.stop i H->
  Kr (model P w) X.A (MZ (.ref it)) (λr s1=>r=Y/\Inv X pins σ H s1) E s
 self:∀(A:Lr) (i:Nat) (s:p7) (Q:hH->p7->Prop) (E:hH->p7->Prop),tn i s.heap->Q (.ref it) s->Kr (model P w) A (Rg (.ref it)) Q E s
noncomputable abbrev TI:=St->Hp->(It->Hp->Prop)->Prop
def PIE(X:Cx)(pins:List (VH×Obj))(σ:St)(tg:Expr)(R:It->Hp->Prop)(itv:hH)(s2:p7):Prop:=∃(it:VH) (fp:List VH) (tn:Nat->Heap->Prop) (J:It) (H':Hp),itv=.ref it/\Inv X pins σ H' s2/\fX X.prog X.w X.K tg J fp it tn/\tn 0 s2.heap/\(∀b∈fp,cw X pins H' b)/\R J H'
def PI(X:Cx)(tg iter:Expr)(wi:TI):Prop:=
 ∀(pins:List (VH×Obj)) (s:p7) (σ:St) (H:Hp) (R:It->Hp->Prop),Inv X pins σ H s->wi σ H R->
  Kr (model X.prog X.w) X.A (eval iter X.env) (λv s1=>Kr (model X.prog X.w) X.A (Rg v) (PIE X pins σ tg R) X.xe s1) X.xe s
theorem sC{E:hH->p7->Prop}{it:VH}{o:Obj}{n:String}{vs:Array hH}{Q:Unit->p7->Prop}(ho:s.heap.get? it=Z o)(hc:o.cls=.type n)(hd:o.data=.fields vs)(q:["enumerate","zip","dict_itemiterator","dict_reverseitemiterator","odict_iterator","itertools.zip_longest","itertools.pairwise"].contains n=N3)(j:Q () s):Kr M A (Qi tg (.ref it) u) Q E s:=by
 unfold Qi
 cases tg<;>first
  |exact D0 j
  | (cases u<;>first
      |exact D0 j
      | (refine gV (UW ho ?_)
         rw[hc,hd];show Kr M A (if(["enumerate","zip","dict_itemiterator","dict_reverseitemiterator","odict_iterator","itertools.zip_longest","itertools.pairwise"].contains n&&vs[0]?==Z (Nw _))=F2 then _ else _) Q E s
         rw[if_neg (by intro h;rw[q,Bool.false_and]at h;cases h)]
         exact D0 j))
noncomputable def Itl(K:Frag)(a:VH):It:=⟨λi H=>∃xs x,SqL K H a xs/\xs[i]?=Z x,λi H x H'=>H'=H/\∀xs,SqL K H a xs->xs[i]?=Z x,λi H=>∃xs,SqL K H a xs/\xs.length<=i⟩
noncomputable def Itt(K:Frag)(a:VH):It:=⟨λi H=>∃xs x,SqT K H a xs/\xs[i]?=Z x,λi H x H'=>H'=H/\∀xs,SqT K H a xs->xs[i]?=Z x,λi H=>∃xs,SqT K H a xs/\xs.length<=i⟩
noncomputable def Itr(lo:Int)(n:Nat):It:=⟨λi _=>i<n,λi H x H'=>H'=H/\x=.int (lo+i),λi _=>n<=i⟩
theorem uD(a it:VH):fX P w K tg (Itl K a) [it] it (λi h=>h.IsListIter it a i) where
 mem:=by simp
 obj:=λi h st b hb=>by
  have e:b=it:=by simpa using hb
  subst e;obtain⟨o,e,c,d⟩:=st;exact⟨o,e,λv z=>by rw[d]at z;cases z⟩
 keep:=λi h h' st k=>st.at λo e=>k it (by simp) o e
 item:=by
  intro X q hw B hc i pins s σ H E I hf st hg;subst q hw B;obtain⟨xs,x,j,hx⟩:=hg;obtain⟨its,rv,p,J⟩:=I.list j;obtain⟨u,L,ru⟩:=rv.get hx;obtain⟨f0,f1,f2,F,f4,G⟩:=hf it (by simp)
  refine wpAny_pyNext_list_item st p.isList (x:=u) (by simpa using L) λh' st' sb=>?_
  have O:Inv X pins σ H {s with heap:=h'}:=I.turned (t':=s.toks) (λb o hb e=>(sb.2 b hb).trans e) f0 f1 F f4 G
  obtain⟨o,e,c,d⟩:=id st';exact⟨u,rfl,sC (s:={s with heap:=h'}) e c d (by decide) ⟨x,H,O,ru,⟨rfl,λys U=>by rw[I.list_inj U j];exact hx⟩,st',λb hb=>(hf b hb).1⟩⟩
 done:=by
  intro X q hw B hc i pins s σ H E I hf st hg;subst q hw B;obtain⟨xs,j,hx⟩:=hg;obtain⟨its,rv,p,J⟩:=I.list j;obtain⟨f0,f1,f2,F,f4,G⟩:=hf it (by simp)
  have hl:=rv.length;exact wpAny_pyNext_list_end (I.ok.hd hc) st p.isList (by simp;lia) λh' eb=>⟨rfl,I.turned (t':=s.toks) (λb o hb e=>eb b o hb e) f0 f1 F f4 G⟩
 self:=λ_ _ _ _ _ st h=>wpAny_pyIter_listiter st h
theorem sD(a it:VH):fX P w K tg (Itt K a) [it] it (λi h=>h.IsTupleIter it a i) where
 mem:=by simp
 obj:=λi h st b hb=>by
  have e:b=it:=by simpa using hb
  subst e;obtain⟨o,e,c,d⟩:=st;exact⟨o,e,λv z=>by rw[d]at z;cases z⟩
 keep:=λi h h' st k=>st.at λo e=>k it (by simp) o e
 item:=by
  intro X q hw B hc i pins s σ H E I hf st hg;subst q hw B;obtain⟨xs,x,j,hx⟩:=hg;obtain⟨its,rv,p,J⟩:=I.tuple j;obtain⟨u,L,ru⟩:=rv.get hx;obtain⟨f0,f1,f2,F,f4,G⟩:=hf it (by simp)
  refine wpAny_pyNext_tuple_item st (show s.heap.IsTuple a its.toArray from p) (x:=u) (by simpa using L) λh' st' sb=>?_
  have O:Inv X pins σ H {s with heap:=h'}:=I.turned (t':=s.toks) (λb o hb e=>(sb.2 b hb).trans e) f0 f1 F f4 G
  obtain⟨o,e,c,d⟩:=id st';exact⟨u,rfl,sC (s:={s with heap:=h'}) e c d (by decide) ⟨x,H,O,ru,⟨rfl,λys U=>by rw[I.tuple_inj U j];exact hx⟩,st',λb hb=>(hf b hb).1⟩⟩
 done:=by
  intro X q hw B hc i pins s σ H E I hf st hg;subst q hw B;obtain⟨xs,j,hx⟩:=hg;obtain⟨its,rv,p,J⟩:=I.tuple j;obtain⟨f0,f1,f2,F,f4,G⟩:=hf it (by simp)
  have hl:=rv.length;exact wpAny_pyNext_tuple_end (I.ok.hd hc) st (show s.heap.IsTuple a its.toArray from p) (by simp;lia) λh' eb=>⟨rfl,I.turned (t':=s.toks) (λb o hb e=>eb b o hb e) f0 f1 F f4 G⟩
 self:=λ_ _ _ _ _ st h=>wpAny_pyIter_tupleiter st h
theorem sF(it:VH)(lo:Int)(n:Nat):fX P w K tg (Itr lo n) [it] it (λi h=>IsRangeIter h it (lo+(i:Nat)*1) ((n:Int)-(i:Nat)) 1) where
 mem:=by simp
 obj:=λi h st b hb=>by
  have e:b=it:=by simpa using hb
  subst e;exact⟨_,st,λv z=>by
   have z':Pt _=Data.cell v:=z
   cases z'⟩
 keep:=λi h h' st k=>k it (by simp) _ st
 item:=by
  intro X j hw q hc i pins s σ H E I hf st hg;subst j hw q;obtain⟨f0,f1,f2,B,f4,F⟩:=hf it (by simp)
  have W:=Walks.range (prog:=X.prog) (w:=X.w) (I.ok.hd hc) it lo 1 n;refine W.item i s _ _ hg st λv h' tk G st' kk=>?_;obtain⟨t,rfl⟩:=G;have J:Inv X pins σ H {s with heap:=h',toks:=tk}:=I.turned (λb o hb e=>kk b o (by simpa using hb) e) f0 f1 B f4 F
  refine⟨_,rfl,sC (s:={s with heap:=h',toks:=tk}) (n:="range_iterator") st' rfl rfl (by decide) ⟨.int (lo+i),H,J,⟨t,?_⟩,⟨rfl,rfl⟩,st',λb hb=>(hf b hb).1⟩⟩
  rw[Int.mul_one]
 done:=by
  intro X j hw q hc i pins s σ H E I hf st hg;subst j hw q;obtain⟨f0,f1,f2,B,f4,F⟩:=hf it (by simp)
  exact wpAny_pyNext_range_end (I.ok.hd hc) st (by have:n<=i:=hg;lia) λh' eb=>⟨rfl,I.turned (t':=s.toks) (λb o hb e=>eb b o hb e) f0 f1 B f4 F⟩
 self:=λ_ _ _ _ _ st h=>wpAny_pyIter_rangeiter st h
end
variable{fp:List VH}
section
section
variable{X:Cx}{tg:Expr}
theorem nY{R:It->Hp->Prop}{E:hH->p7->Prop}{lo hi:Int}{t u v:Tok}{tk:Nat}(I:Inv X pins σ H s)(h1:-(2^62)<=lo)(h2:lo<2^62)(z:-(2^62)<=hi)(B:hi<2^62)(q:R (Itr lo (hi-lo).toNat) H):Kr (model X.prog X.w) X.A (Rg (.ref s.heap.objs.size)) (PIE X pins σ tg R) E {s with heap:=s.heap.push {cls:=.type "range",data:=.fields #[.int lo t,.int hi u,.int 1 v]},toks:=tk}:=by
 refine wpAny_pyIter_range (IsRange.new ..) (small_one h1 h2 z B) ?_;have j:Inv X pins σ H {s with heap:=s.heap.push {cls:=.type "range",data:=.fields #[.int lo t,.int hi u,.int 1 v]},toks:=tk}:=I.kept λb o e=>hW _ e
 refine⟨(s.heap.push {cls:=.type "range",data:=.fields #[.int lo t,.int hi u,.int 1 v]}).objs.size,[(s.heap.push {cls:=.type "range",data:=.fields #[.int lo t,.int hi u,.int 1 v]}).objs.size],_,_,H,rfl,
  j.kept (t':=tk) λb o e=>hW _ e,sF _ lo (hi-lo).toNat,?_,λb hb=>?_,q⟩
 ·have e1:lo+((0:Nat):Int)*1=lo:=by simp
  have e2:(((hi-lo).toNat:Nat):Int)-((0:Nat):Int)=Builtin.Range.rangeSize lo hi 1:=by rw[rangeSize_one];split<;>lia
  show IsRangeIter _ _ (lo+((0:Nat):Int)*1) ((((hi-lo).toNat:Nat):Int)-((0:Nat):Int)) 1;rw[e1,e2];exact Kj _ rfl
 ·have e:b=(s.heap.push {cls:=.type "range",data:=.fields #[.int lo t,.int hi u,.int 1 v]}).objs.size:=by simpa using hb
  subst e;exact j.fpOk (Ku _) (j.hok.fresh (Ku _))
noncomputable def E6(ta:TA):TI:=λσ H R=>ta σ H λvs H1=>∃j:Int,vs=[.int j] /\ -(2^62)<=j/\j<2^62/\R (Itr 0 j.toNat) H1
noncomputable def E7(ta:TA):TI:=λσ H R=>ta σ H λvs H1=>∃i j:Int,vs=[.int i,.int j]/\(-(2^62)<=i/\i<2^62 /\ -(2^62)<=j/\j<2^62)/\R (Itr i (j-i).toNat) H1
theorem uE{a:Expr}{p:Pos}(B:Gl X "range")(hm:X.mg "range"=Y)(F:PA X [a] ta)(hs:L8 [a] X.env=[(N3,eval a X.env)]:=by rfl):PI X tg (.Call (.Name "range" p) [a] [] pos) (E6 ta):=by
 intro pins s σ H R I h;refine Call_ (cQ I B hm boot_range (MR (thn (F pos pins s σ H _ I h) λus s1 g9=>?_) hs rfl));obtain⟨vs,H1,G,J,z⟩:=g9;obtain⟨j,e,z,L,q⟩:=z;subst e
 cases J with
 |cons r rr=>
  cases rr
  obtain⟨t,rfl⟩:=r;exact call_range_1 (nY G ∅ ∅ z L (by simpa using q))
theorem uF{a b:Expr}{p:Pos}(F:Gl X "range")(hm:X.mg "range"=Y)(G:PA X [a,b] ta)(hs:L8 [a,b] X.env=[(N3,eval a X.env),(N3,eval b X.env)]:=by rfl)(z:L8 [b] X.env=[(N3,eval b X.env)]:=by rfl):
 PI X tg (.Call (.Name "range" p) [a,b] [] pos) (E7 ta):=by
 intro pins s σ H R I h;refine Call_ (cQ I F hm boot_range (MR (thn (G pos pins s σ H _ I h) λus s1 g9=>?_) (by rw[hs,z]) (by rw[z];rfl)));obtain⟨vs,H1,J,L,B⟩:=g9
 obtain⟨i,j,e,⟨B,O,U,pv⟩,q⟩:=B;subst e
 cases L with
 |cons r rr=>
  cases rr with
  |cons r' rr=>
   cases rr
   obtain⟨t,rfl⟩:=r;obtain⟨t',rfl⟩:=r';exact call_range_2 (nY J B O U pv q)
noncomputable def Cj(wi:TI)(g:TG)(tb:TS):TS:=λD σ H=>wi σ H λJ H1=>∃W:Nat->Nat->St->Hp->Prop,(∃m,W 0 m σ H1)/\∀i m σ H,W i m σ H->
 (J.stop i H/\D.nx σ H)∨(J.go i H/\∃N:St->Hp->Prop,(∀σ' H',N σ' H'->∃m',m'<m/\W (i+1) m' σ' H')/\∀x H',J.yld i H x H'->g x σ H' λσ2 H2=>tb {D with nx:=N,ct:=N,bk:=D.nx} σ2 H2)
noncomputable def jk(fp:List VH)(h:Heap):List (VH×Obj):=fp.filterMap λb=>(h.get? b).map λo=>(b,o)
theorem dg{o:Obj}(hb:b∈fp)(e:h.get? b=Z o):(b,o)∈jk fp h:=Tf.mpr ⟨b,hb,by rw[e];rfl⟩
theorem uG{p:VH×Obj}(j:p∈jk fp h):p.1∈fp/\h.get? p.1=Z p.2:=by
 obtain⟨b,hb,e⟩:=Tf.mp j
 cases q:h.get? b with
 |none=>rw[q]at e;cases e
 |some o=>rw[q]at e;have e':(b,o)=p:=MN.inj e;subst e';exact⟨hb,q⟩
theorem Inv.pinned(I:Inv X pins σ H s)(hf:∀b∈fp,cw X pins H b)(ho:∀b∈fp,∃o,s.heap.get? b=Z o/\∀v,o.data≠.cell v):Inv X (pins++jk fp s.heap) σ H s:=
 I.pins_of λp j=>(Kz.mp j).elim (λz=>I.pin p (KR _ z)) λz=>by obtain⟨hb,e⟩:=uG z;obtain⟨f0,f1,f2,_⟩:=hf p.1 hb;obtain⟨o,e',d⟩:=ho p.1 hb;rw[e]at e';cases e';exact⟨e,f0,f1,f2,d⟩
theorem Inv.unpinned{pl:List (VH×Obj)}(I:Inv X (pins++pl) σ H s):Inv X pins σ H s:=I.pins_of λp j=>I.pin p (KR _ (Lz _ j))
theorem Ck{iter:Expr}{wi:TI}{g:TG}{tb:TS}(G:PassesOwn (model X.prog X.w) X.A X.env X.xe)(hc:X.calm=F2)(hi:PI X tg iter wi)(hg:PG X tg g)(hb:PSs X body tb)(hs:∀x,Ng iter X.env x=pure x:=by intro _;rfl):PS X (.For tg iter body [] pos) (Cj wi g tb):=by
 intro pins s σ H D I h;refine wpAny_For (thn (hi pins s σ H _ I h) λv s1 h1=>thn h1 λitv s2 h2=>?_) hs;obtain⟨it,fp,tn,J,H2,e,I2,T,fv,f2,W,⟨m0,w0⟩,turn⟩:=h2;subst e;have stat:∀{H':Hp},(∀b∈fp,H' b=Y)->∀b∈fp,cw X pins H' b:=λhn b hb=>⟨hn b hb,(f2 b hb).2⟩;refine codeAny_forLoop_any (λn s'=>∃i σ' H',Inv X pins σ' H' s'/\tn i s'.heap/\(∀b∈fp,H' b=Y)/\W i n σ' H') ?_ m0 ⟨0,σ,H2,I2,fv,λb hb=>(f2 b hb).1,w0⟩;rintro n s3 ⟨i,σ3,pv,I3,L,O,w3⟩
 rcases turn i n σ3 pv w3 with⟨stop,qn⟩|⟨go,N,hN,step⟩
 ·refine NO G (thn (T.done X rfl rfl rfl hc i pins s3 σ3 pv X.xe I3 (stat O) L stop) λr s4 B=>?_);obtain⟨hr,I4⟩:=B;subst hr;exact Sd ⟨σ3,pv,I4,qn⟩
 ·refine NO G (thn (T.item X rfl rfl rfl hc i pins s3 σ3 pv X.xe I3 (stat O) L go) fun r s4 B=>?_);obtain⟨u,hr,h4⟩:=B;subst hr;refine NO G (thn h4 fun _ s5 B=>?_);obtain⟨x,H5,I5,r5,y5,F,HY⟩:=B;have HZ:=I5.pinned (stat HY) (T.obj _ _ F);refine NO G (thn (hg _ s5 σ3 H5 x u _ HZ r5 (step x H5 y5)) fun _ s6 B=>?_);obtain⟨σ6,H6,I6,q6⟩:=B;refine NO G (thn (hb _ s6 σ6 H6 _ I6 q6) fun f s7 z=>?_);have again:∀{σ7:St} {j:Hp},Inv X (pins++jk fp s5.heap) σ7 j s7->N σ7 j->∃m,m<n/\∃i σ' H',Inv X pins σ' H' s7/\tn i s7.heap/\(∀b∈fp,H' b=Y)/\W i m σ' H':=fun {σ7 j} q U=>by
   obtain⟨m',hm,w7⟩:=hN σ7 j U;refine⟨m',hm,i+1,σ7,j,q.unpinned,T.keep _ _ _ F λb hb o e=>(q.pin (b,o) (KR _ (KR _ (dg hb e)))).1,λb hb=>?_,w7⟩;obtain⟨o,e,d⟩:=T.obj _ _ F b hb;exact(q.pin (b,o) (KR _ (KR _ (dg hb e)))).2.1
  cases f with
  |next=>obtain⟨σ7,j,q,U⟩:=z;exact again q U
  |cont=>obtain⟨σ7,j,q,U⟩:=z;exact again q U
  |brk=>obtain⟨σ7,j,q,z⟩:=z;exact⟨σ7,j,q.unpinned,z⟩
  |ret v=>obtain⟨x7,σ7,j,q,r7,z⟩:=z;exact⟨x7,σ7,j,q.unpinned,r7,z⟩
end
end
variable{f:hH->hH->Sem hH}
section
noncomputable abbrev R2:=V->V->Hp->VK->Prop
def OpR(X:Cx)(f:hH->hH->Sem hH)(r:R2):Prop:=
 ∀(pins:List (VH×Obj)) (s:p7) (σ:St) (H:Hp) (x y:V) (v u:hH) (Q:VK),Inv X pins σ H s->RelV x v->RelV y u->r x y H Q->
  Kr (model X.prog X.w) X.A (f v u) (EP X pins σ Q) X.xe s
def UnR(X:Cx)(f:hH->Sem hH)(r:V->Hp->VK->Prop):Prop:=
 ∀(pins:List (VH×Obj)) (s:p7) (σ:St) (H:Hp) (x:V) (v:hH) (Q:VK),Inv X pins σ H s->RelV x v->r x H Q->
  Kr (model X.prog X.w) X.A (f v) (EP X pins σ Q) X.xe s
def CallR(X:Cx)(f:hH)(r:List V->Hp->VK->Prop):Prop:=
 ∀(pins:List (VH×Obj)) (s:p7) (σ:St) (H:Hp) (xs:List V) (us:List hH) (Q:VK),Inv X pins σ H s->Vals xs us->r xs H Q->
  Kr (model X.prog X.w) X.A (call f us) (EP X pins σ Q) X.xe s
def Fv(X:Cx)(r:V->Hp->(Bool->Hp->Prop)->Prop):Prop:=
 ∀(pins:List (VH×Obj)) (s:p7) (σ:St) (H:Hp) (x:V) (v:hH) (Q:Bool->Hp->Prop),Inv X pins σ H s->RelV x v->r x H Q->
  Kr (model X.prog X.w) X.A (truthy v) (TP X pins σ Q) X.xe s
noncomputable def tOp(r:R2)(ta tb:TE):TE:=λσ H Q=>ta σ H λx H1=>tb σ H1 λy H2=>r x y H2 Q
noncomputable def tUn(r:V->Hp->VK->Prop)(ta:TE):TE:=λσ H Q=>ta σ H λx H1=>r x H1 Q
noncomputable def rI(C:Int->Int->Prop)(g:Int->Int->V):R2:=λx y H Q=>∃i j,x=.int i/\y=.int j/\C i j/\Q (g i j) H
noncomputable def rI0(g:Int->Int->V):R2:=λx y H Q=>∃i j,x=.int i/\y=.int j/\Q (g i j) H
noncomputable def rU(g:Int->V):V->Hp->VK->Prop:=λx H Q=>∃i,x=.int i/\Q (g i) H
section
variable{X:Cx}{a b c:Expr}{ta tb tc:TE}{pos:Pos}
theorem xu(q:PE X a ta)(hb:PE X b tb){R:V->V->Hp->Prop}(I:Inv X pins σ H s)(h:ta σ H λx H1=>tb σ H1 λy H2=>R x y H2){Q:hH->p7->Prop}(hf:∀v u s2 x y H2,Inv X pins σ H2 s2->RelV x v->RelV y u->R x y H2->Kr (model X.prog X.w) X.A (f v u) Q X.xe s2):
 Kr (model X.prog X.w) X.A (eval a X.env) (λv s₁=>Kr (model X.prog X.w) X.A (eval b X.env) (λu s₂=>Kr (model X.prog X.w) X.A (f v u) Q X.xe s₂) X.xe s₁) X.xe s:=by
 refine thn (q pins s σ H _ I h) λv s1 j=>?_;obtain⟨x,H1,z,B,F⟩:=j;refine thn (hb pins s1 σ H1 _ z F) λu s2 j=>?_;obtain⟨y,H2,G,J,L⟩:=j;exact hf v u s2 x y H2 G B J L
theorem E8{r:R2}(ho:OpR X (MA op) r)(j:PE X a ta)(hb:PE X b tb):PE X (.BinOp a op b pos) (tOp r ta tb):=by intro pins s σ H Q I h;exact wpAny_BinOp (xu j hb I h λv u s2 x y H2 z rx ry q=>ho pins s2 σ H2 x y v u Q z rx ry q)
theorem E9{op:UnaryOp}{r:V->Hp->VK->Prop}(ho:UnR X (unaryOp op) r)(j:PE X a ta):PE X (.UnaryOp op a pos) (tUn r ta):=by intro pins s σ H Q I h;exact UnaryOp_ (thn (j pins s σ H _ I h) λv s1 q=>(by obtain⟨x,H1,z,B,F⟩:=q;exact ho pins s1 σ H1 x v Q z B F))
theorem opI{C:Int->Int->Prop}{g:Int->Int->Int}(rule:∀(i j:Int) (t u:Tok) (s:p7) (Q:hH->p7->Prop) (E:hH->p7->Prop),C i j->Q (.int (g i j) s.toks) {s with toks:=s.toks+1}->Kr (model X.prog X.w) X.A (f (.int i t) (.int j u)) Q E s):
 OpR X f (rI C λi j=>.int (g i j)):=by
 intro pins s σ H x y v u Q I rx ry h;obtain⟨i,j,rfl,rfl,hc,q⟩:=h;obtain⟨t,rfl⟩:=rx;obtain⟨t',rfl⟩:=ry;exact rule i j t t' s _ _ hc ⟨.int (g i j),H,I.tok _,⟨_,rfl⟩,q⟩
theorem sH{g:Int->Int->Int}(rule:∀(i j:Int) (t u:Tok) (s:p7) (Q:hH->p7->Prop) (E:hH->p7->Prop),Q (.int (g i j) s.toks) {s with toks:=s.toks+1}->Kr (model X.prog X.w) X.A (f (.int i t) (.int j u)) Q E s):
 OpR X f (rI0 λi j=>.int (g i j)):=by
 intro pins s σ H x y v u Q I rx ry h;obtain⟨i,j,rfl,rfl,q⟩:=h;obtain⟨t,rfl⟩:=rx;obtain⟨t',rfl⟩:=ry;exact rule i j t t' s _ _ ⟨.int (g i j),H,I.tok _,⟨_,rfl⟩,q⟩
theorem xv{g:Int->Int->Bool}(rule:∀(i j:Int) (t u:Tok) (s:p7) (Q:hH->p7->Prop) (E:hH->p7->Prop),Q (.bool (g i j)) s->Kr (model X.prog X.w) X.A (f (.int i t) (.int j u)) Q E s):
 OpR X f (rI0 λi j=>.bl (g i j)):=by
 intro pins s σ H x y v u Q I rx ry h;obtain⟨i,j,rfl,rfl,q⟩:=h;obtain⟨t,rfl⟩:=rx;obtain⟨t',rfl⟩:=ry;exact rule i j t t' s _ _ ⟨.bl (g i j),H,I,rfl,q⟩
def Fw(i j:Int):Prop:=0<=j/\j<=1000000/\i.natAbs<2^64
theorem op_add:OpR X (MA .Add) (rI0 λi j=>.int (i+j)):=sH λ_ _ _ _ _ _ _ q=>add_int q
theorem Cl:OpR X (MA .Sub) (rI0 λi j=>.int (i-j)):=sH λ_ _ _ _ _ _ _ q=>sub_int q
theorem Cn:OpR X (MA .Mod) (rI (λ_ j=>0<j) λi j=>.int (i%j)):=opI λi j _ _ _ _ _ hc q=>by have h1:(0:Int)<j:=hc;exact mod_int' ∅ (by rw[Int.fmod_eq_emod_of_nonneg i ∅];exact q)
theorem Co:OpR X (MA .Pow) (rI Fw λi j=>.int (i^j.toNat)):=opI λ_ _ _ _ _ _ _ hc q=>pow_int_small hc.1 hc.2.1 hc.2.2 q
theorem Ag:OpR X (NF .Add) (rI0 λi j=>.int (i+j)):=sH λ_ _ _ _ _ _ _ q=>iadd_int q
theorem Ah:OpR X (NF .Sub) (rI0 λi j=>.int (i-j)):=sH λ_ _ _ _ _ _ _ q=>isub_int q
theorem unI{f:hH->Sem hH}{g:Int->Int}(rule:∀(i:Int) (t:Tok) (s:p7) (Q:hH->p7->Prop) (E:hH->p7->Prop),Q (.int (g i) s.toks) {s with toks:=s.toks+1}->Kr (model X.prog X.w) X.A (f (.int i t)) Q E s):
 UnR X f (rU λi=>.int (g i)):=by
 intro pins s σ H x v Q I rx h;obtain⟨i,rfl,q⟩:=h;obtain⟨t,rfl⟩:=rx;exact rule i t s _ _ ⟨.int (g i),H,I.tok _,⟨_,rfl⟩,q⟩
theorem Cp:UnR X (unaryOp .USub) (rU λi=>.int (-i)):=unI λ_ _ _ _ _ q=>neg_int q
end
section
variable{X:Cx}{a b c:Expr}{ta tb tc:TE}{pos:Pos}
theorem Ea:OpR X (Ml .Lt) (rI0 λi j=>.bl (decide (i<j))):=xv λ_ _ _ _ _ _ _ q=>lt_int q
theorem Eb:OpR X (Ml .Gt) (rI0 λi j=>.bl (decide (j<i))):=xv λ_ _ _ _ _ _ _ q=>gt_int q
theorem Ec:OpR X (Ml .GtE) (rI0 λi j=>.bl (decide (j<=i))):=xv λ_ _ _ _ _ _ _ q=>ge_int q
theorem OpR.or{r r':R2}(h:OpR X f r)(h':OpR X f r'):OpR X f (λx y H Q=>r x y H Q∨r' x y H Q):=by
 intro pins s σ H x y v u Q I rx ry q
 rcases q with q|q
 ·exact h pins s σ H x y v u Q I rx ry q
 ·exact h' pins s σ H x y v u Q I rx ry q
theorem Ai{op:CmpOp}{r:R2}(ho:OpR X (Ml op) r)(j:PE X a ta)(hb:PE X b tb)(hm:P4 op b=N3):PE X (.Compare a [op] [b] pos) (tOp r ta tb):=by intro pins s σ H Q I h;exact wpAny_Compare1 (xu j hb I h λv u s2 x y H2 z rx ry q=>ho pins s2 σ H2 x y v u Q z rx ry q) hm
noncomputable def zA(t:TE):TT:=λσ H Q=>t σ H λx H'=>∃k,x=.bl k/\Q k H'
theorem Aj{op:CmpOp}{r:R2}(ho:OpR X (Ml op) r)(j:PE X a ta)(hb:PE X b tb)(hm:P4 op b=N3):PT X (.Compare a [op] [b] pos) (zA (tOp r ta tb)):=by
 intro pins s σ H Q I h;refine wpAny_isTrue_Compare1 (thn (j pins s σ H _ I h) λv s1 ⟨x,H1,q,B,F⟩=>thn (hb pins s1 σ H1 _ q F) λu s2 ⟨y,H2,G,J,L⟩=>thn (ho pins s2 σ H2 x y v u _ G B J L) λc s3 ⟨z,O,U,pv,k,e,fv⟩=>?_) hm
 subst e
 cases pv
 exact NT ⟨O,U,fv⟩
def xw(K:Frag)(x:V)(H:Hp)(k:Bool):Prop:=
 match x with
 |.non=>k=N3
 |.bl b=>k=b
 |.int i=>k=(i != 0)
 |.str y=>y.length<=Kn/\k=((y.length:Int) != 0)
 |.byt y=>y.size<=Kn/\k=((y.size:Int) != 0)
 |.ref p=>(∃xs,SqL K H p xs/\k = !xs.isEmpty)∨(∃xs,SqT K H p xs/\k = !xs.isEmpty)∨∃kvs,H p=Z (.dK kvs)/\k = !kvs.isEmpty
 |_=>False
theorem sJ{κ:Type}{kvs:List (κ×V)}{vs:List (κ×hH)}(r:KV kvs vs):(!vs.isEmpty) = !kvs.isEmpty:=by cases r<;>rfl
theorem jl{xs:List V}{its:List hH}(r:Vals xs its):(!its.toArray.isEmpty) = !xs.isEmpty:=by cases r<;>simp
theorem eW:(Kn:Nat)<2^63:=by rw[z4];decide
theorem Cq:Fv X (λx H Q=>∃k,xw X.K x H k/\Q k H):=by
 intro pins s σ H x v Q I rx h;obtain⟨k,e,q⟩:=h;have hl:=eW;have hs:Kn=16777216:=z4
 cases x with
 |non=>
  cases rx
  have e':k=N3:=e;subst e';exact truthy_none ⟨H,I,q⟩
 |bl b=>
  cases rx
  have e':k=b:=e;subst e';exact NT ⟨H,I,q⟩
 |int i=>obtain⟨t,rfl⟩:=rx;have e':k=(i != 0):=e;subst e';exact PySem.P.truthy_int ⟨H,I,q⟩
 |str y=>obtain⟨t,rfl⟩:=rx;obtain⟨z,e'⟩:y.length<=Kn/\k=((y.length:Int) != 0):=e;subst e';exact PySem.P.truthy_str ∅ ⟨H,I.tok _,q⟩
 |byt y=>obtain⟨t,rfl⟩:=rx;obtain⟨z,e'⟩:y.size<=Kn/\k=((y.size:Int) != 0):=e;subst e';exact PySem.W.truthy_bytes ∅ ⟨H,I.tok _,q⟩
 |ref p=>
  cases rx
  have e':(∃xs,SqL X.K H p xs/\k = !xs.isEmpty)∨(∃xs,SqT X.K H p xs/\k = !xs.isEmpty)∨∃kvs,H p=Z (.dK kvs)/\k = !kvs.isEmpty:=e
  rcases e' with⟨xs,hx,e'⟩|⟨xs,hx,e'⟩|⟨kvs,hx,e'⟩
  ·subst e';obtain⟨its,r,pl,j⟩:=I.list hx;have hlen:=r.length;exact wpAny_truthy_list pl.isList (by simp only[Kq];lia) ⟨H,I.tok _,by rw[jl r];exact q⟩
  ·subst e';obtain⟨its,r,pl,j⟩:=I.tuple hx;have hlen:=r.length;exact truthy_tuple pl (by simp only[Kq];lia) ⟨H,I.tok _,by rw[jl r];exact q⟩
  ·subst e';obtain⟨j,B,vs,r,m⟩:kvs.length<=Kn/\(p==Mv)=N3/\∃vs,KV kvs vs/\s.heap.DictOf (aR X.prog X.w) p vs:=I.hok p _ hx;have hlen:kvs.length=vs.length:=P1 r;exact wpAny_truthy_dict B m ∅ ⟨H,I.tok _,by rw[sJ r];exact q⟩
 |_=>exact(show False from e).elim
theorem xx(j:PE X a ta)(he:∀whole,isTrue a X.env whole=(do let v <-whole;R7 a.pos;holding [v] (truthy v))):
 PT X a (λσ H Q=>ta σ H λx H'=>∃k,xw X.K x H' k/\Q k H'):=by
 intro pins s σ H Q I h;exact isTrue_plain (thn (j pins s σ H _ I h) λv s1 q=>(by obtain⟨x,H1,z,B,F⟩:=q;exact Cq pins s1 σ H1 x v Q z B F)) (he _)
theorem sK:OpR X (MA .Add) (λx y H Q=>∃i j,x=.str i/\y=.str j/\i.length+j.length<=Kn/\Q (.str (i++j)) H):=by intro pins s σ H x y v u Q I rx ry h;obtain⟨i,j,rfl,rfl,z,q⟩:=h;obtain⟨t,rfl⟩:=rx;obtain⟨t',rfl⟩:=ry;exact add_str (λt' tk=>⟨.str (i++j),H,I.tok _,⟨_,rfl⟩,q⟩) z
theorem dh{x:V}(r:Vals [x] us):∃u,us=[u]/\RelV x u:=by
 cases r with
 |cons j q=>cases q;exact⟨_,rfl,j⟩
theorem sL{x y:V}(r:Vals [x,y] us):∃u w',us=[u,w']/\RelV x u/\RelV y w':=by
 cases r with
 |cons j q=>
  cases q with
  |cons z B=>cases B;exact⟨_,_,rfl,j,z⟩
theorem xz:CallR X (.builtin "abs") (λxs H Q=>∃i,xs=[.int i]/\Q (.int (if i<0 then -i else i)) H):=by intro pins s σ H xs us Q I r h;obtain⟨i,rfl,q⟩:=h;obtain⟨u,rfl,t,rfl⟩:=dh r;exact call_abs_int λu tk=>⟨.int (if i<0 then -i else i),H,I.tok _,⟨_,rfl⟩,q⟩
theorem uH(hc:X.calm=F2):CallR X (.builtin "min") (λxs H Q=>∃i j,xs=[.int i,.int j]/\Q (.int (if j<i then j else i)) H):=by
 intro pins s σ H xs us Q I r h;obtain⟨i,j,rfl,q⟩:=h;obtain⟨u,w',rfl,⟨t,rfl⟩,⟨t',rfl⟩⟩:=sL r;refine min_two_ints (I.ok.hd hc) λh' tk k=>⟨_,H,I.kept k,?_,q⟩
 by_cases z:j<i
 ·rw[if_pos z,if_pos z];exact⟨_,rfl⟩
 ·rw[if_neg z,if_neg z];exact⟨_,rfl⟩
theorem uI:CallR X (.type "int") (λxs H Q=>(∃i,xs=[.int i]/\Q (.int i) H)∨∃k,xs=[.bl k]/\Q (.int (if k then 1 else 0)) H):=by
 intro pins s σ H xs us Q I r h
 rcases h with⟨i,rfl,q⟩|⟨k,rfl,q⟩
 ·obtain⟨u,rfl,t,rfl⟩:=dh r;exact call_int_int ⟨.int i,H,I,⟨_,rfl⟩,q⟩
 ·obtain⟨u,rfl,j⟩:=dh r
  cases j
  exact call_int_bool ⟨.int (if k then 1 else 0),H,I.tok _,⟨_,rfl⟩,q⟩
def Fx(K:Frag)(x:V)(H:Hp)(n:Nat):Prop:=
 match x with
 |.str y=>y.length<=Kn/\n=y.length
 |.byt y=>y.size<=Kn/\n=y.size
 |.ref p=>(∃xs,SqL K H p xs/\n=xs.length)∨∃xs,SqT K H p xs/\n=xs.length
 |_=>False
theorem xA:CallR X (.builtin "len") (λxs H Q=>∃x n,xs=[x]/\Fx X.K x H n/\Q (.int n) H):=by
 intro pins s σ H xs us Q I r h;obtain⟨x,n,rfl,e,q⟩:=h;obtain⟨u,rfl,rx⟩:=dh r;have hl:=eW;have hs:Kn=16777216:=z4
 cases x with
 |str y=>obtain⟨t,rfl⟩:=rx;obtain⟨j,e'⟩:y.length<=Kn/\n=y.length:=e;subst e';exact len_str ∅ ⟨.int _,H,I.tok _,⟨_,rfl⟩,q⟩
 |byt y=>obtain⟨t,rfl⟩:=rx;obtain⟨j,e'⟩:y.size<=Kn/\n=y.size:=e;subst e';exact PySem.W.len_bytes ∅ ⟨.int _,H,I.tok _,⟨_,rfl⟩,q⟩
 |ref p=>
  cases rx
  have e':(∃xs,SqL X.K H p xs/\n=xs.length)∨∃xs,SqT X.K H p xs/\n=xs.length:=e
  rcases e' with⟨xs,hx,e'⟩|⟨xs,hx,e'⟩
  ·subst e';obtain⟨its,r',pl,z⟩:=I.list hx;have hlen:=r'.length;exact Calls.call_len_list pl.isList (by simp only[Kq];lia) ⟨.int xs.length,H,I.tok _,⟨_,by simp only[Kq];rw[hlen]⟩,q⟩
  ·subst e';obtain⟨its,r',pl,z⟩:=I.tuple hx;have hlen:=r'.length;exact len_tuple pl (by simp only[Kq];lia) ⟨.int xs.length,H,I.tok _,⟨_,by simp only[Kq];rw[hlen]⟩,q⟩
 |_=>exact(show False from e).elim
end
end
section
structure ObjM(h:Heap)(x dx C:VH)(mA:Str->Option hH):Prop where
 obj:h.get? x=Z (Sb C dx)
 ns:h.Ns1 dx mA
 ne:dx≠x
theorem uJ{dx:VH}{mA:Str->Option hH}(n:h.Ns1 dx mA):∃od,h.get? dx=Z od/\∀name,Ss name od=Z (mA name):=by
 obtain⟨o,es,ep,ho,hd,B,_,hm⟩:=n;refine⟨o,ho,λname=>?_⟩;have e:=hm name;unfold nsFind findBy at e;rw[<-Array.find?_toList]at e;unfold Ss;rw[hd];dsimp only
 split
 ·rename_i y q;rw[q]at e;exact congrArg Z e
 ·rename_i q;rw[q]at e;have a:es.toList.any (·.refKey)=N3:=by
   rw[List.any_eq_false];intro y F;obtain⟨z,t,j⟩:=B y (Array.mem_toList_iff.mp F);simp[DictEntry.refKey,j]
  have a':¬es.toList.any (·.refKey)=F2:=by rw[a];exact Kl
  rw[if_neg a'];exact congrArg Z e
theorem ObjM.look{x dx C:VH}{mA:Str->Option hH}(I:ObjM h x dx C mA):∃od,PySem.W.InstAt h x (Sb C dx) C (Z od)/\∀name,Ss name od=Z (mA name):=
 let⟨od,ho,hl⟩:=uJ I.ns
 ⟨od,⟨I.obj,rfl,rfl,ho⟩,hl⟩
theorem Vz{o:Option hH}(r:RelO (Z v) o):∃u,o=Z u/\RelV v u:=by
 cases o with
 |none=>exact(show False from r).elim
 |some u=>exact⟨u,rfl,r⟩
section
variable{P:KW}{w:Lo}{H H':Hp}{h h':Heap}{a C dx:VH}{fs fs':List (Str×V)}
theorem Ak(hok:HOk P w H h)(e:H a=Z (.ins C dx fs)):∃mA,ObjM h a dx C mA/\(∀f,RelO (fs.lookup f) (mA f))/\PySem.Within mA (fs.map (·.1))/\fs.length<=1000/\H dx=Z (.own a):=by obtain⟨d,z,ne,ob,mA,n,r,q⟩:=(show ObjOk P w H h a (.ins C dx fs)from hok a _ e);exact⟨mA,⟨ob,n,ne⟩,r,q,z,d⟩
end
structure Cls(K:Frag)(C:VH):Prop where
 pg:U7 K C Str.empty=F2
 hd:PySem.W.hasDictIn K C=F2
 po:PySem.W.plainOver K C=F2
 sa:PySem.W.findIn K (.ref C) "__setattr__"=Z (Z (.builtin "object.__setattr__"))
theorem Cls.get{C:VH}(c:Cls K C)(f:Str):U7 K C f=F2:=c.pg
section
variable{X:Cx}{pins:List (VH×Obj)}{σ:St}{H:Hp}{s:p7}{A:Lr}{E:hH->p7->Prop}{Q:hH->p7->Prop}{c:hH}{b:Bool}
inductive cy(K:Frag)(H:Hp):V->hH->Prop where
 |non:cy K H .non (.type "NoneType")
 |bl (x:Bool):cy K H (.bl x) (.type "bool")
 |int (i:Int):cy K H (.int i) (.type "int")
 |str (x:Str):cy K H (.str x) (.type "str")
 |flt (x:UInt64):cy K H (.flt x) (.type "float")
 |lst {a:VH} {xs:List V} (e:H a=Z (.lst xs)):cy K H (.ref a) (.type "list")
 |frz {a:VH} {o:Obj} {xs:List V} (e:H a=Z (.frz o (.lst xs))):cy K H (.ref a) (.type "list")
 |tup {a:VH} {xs:List V} (e:SqT K H a xs):cy K H (.ref a) (.type "tuple")
 |dK {a:VH} {kvs:List (Key×V)} (e:H a=Z (.dK kvs)):cy K H (.ref a) (.type "dict")
 |dT {a:VH} {kvs:List (List Key×V)} (e:H a=Z (.dT kvs)):cy K H (.ref a) (.type "dict")
 | ins {a C dx:VH} {fs:List (Str×V)} (e:H a=Z (.ins C dx fs)) (cl:Cls K C) (ha:PySem.W.findIn K (.ref C) "__class__"=Z (Z (.builtin "object.__class__")))
    (hn:PySem.W.specialIn K (.builtin "object.__class__") "__get__"=Z (Z (.builtin "getset_descriptor.__get__"))) (htk:PySem.W.takesIn K (.builtin "object.__class__")=Z F2)
    (hm:PySem.W.mroIn K C (.type "object")=Z F2):cy K H (.ref a) (.ref C)
theorem uK{x:V}{t:hH}(I:Inv X pins σ H s)(rx:RelV x u)(ty:cy X.K H x t)(e:PySem.W.kitOne X.K t c=Z b)(h:∀tk,Q (.bool b) {s with toks:=tk}):
 Kr (model X.prog X.w) A (call (.builtin "isinstance") [u,c]) Q E s:=by
 cases ty with
 |non=>cases(show u=N6 from rx);exact Mm PySem.W.kitx_none I.kIn Oh e (λz=>nomatch z) h
 |bl y=>cases(show u=RT y from rx);exact Mm PySem.W.kitx_bool I.kIn Oh e (λz=>nomatch z) h
 |int i=>obtain⟨t,q⟩:=(show ∃t,u=U5 i t from rx);cases q;exact Mm PySem.W.kitx_int I.kIn Oh e (λz=>nomatch z) h
 |str y=>obtain⟨t,q⟩:=(show ∃t,u=U6 y t from rx);cases q;exact Mm PySem.W.kitx_str I.kIn Oh e (λz=>nomatch z) h
 |flt y=>obtain⟨t,q⟩:=(show ∃t,u=Value.float y t from rx);cases q;exact Mm PySem.W.kitx_float I.kIn Oh e (λz=>nomatch z) h
 |@lst a xs ea=>
  cases(show u=KZ a from rx)
  obtain⟨_,_,n,_,h1⟩:=(show ObjOk X.prog X.w H s.heap a (.lst xs)from I.hok a _ ea);exact Mm Tv I.kIn ⟨_,h1,rfl⟩ e (λz=>nomatch z) h
 |@frz a ob xs ea=>
  cases(show u=KZ a from rx)
  obtain⟨_,_,_,n,_,h1⟩:=(show ObjOk X.prog X.w H s.heap a (.frz ob (.lst xs))from I.hok a _ ea);exact Mm Tv I.kIn ⟨_,h1,rfl⟩ e (λz=>nomatch z) h
 |@tup a xs ea=>
  cases(show u=KZ a from rx)
  obtain⟨_,_,p,_⟩:=I.tuple ea;obtain⟨o,h1,h2,_⟩:=p;exact Mm PySem.W.kitx_tuple I.kIn ⟨o,h1,h2⟩ e (λz=>nomatch z) h
 |@dK a kvs ea=>
  cases(show u=KZ a from rx)
  obtain⟨_,_,vs,_,p⟩:=(show ObjOk X.prog X.w H s.heap a (.dK kvs)from I.hok a _ ea);obtain⟨o,es,ep,h1,h2,_⟩:=p;exact Mm Tw I.kIn ⟨o,h1,h2.1⟩ e (λz=>nomatch z) h
 |@dT a kvs ea=>
  cases(show u=KZ a from rx)
  obtain⟨_,_,xs,_,o,es,ep,h1,h2,_⟩:=(show ObjOk X.prog X.w H s.heap a (.dT kvs)from I.hok a _ ea);exact Mm Tw I.kIn ⟨o,h1,h2.1⟩ e (λz=>nomatch z) h
 |@ins a C dx fs ea cl ha hn htk hm=>
  cases(show u=KZ a from rx)
  obtain⟨mA,O,_⟩:=Ak I.hok ea;obtain⟨od,J,_⟩:=O.look;exact Mm (PySem.W.kitx_own (cl.get _) cl.hd ha hn htk hm) I.kIn J e (λz=>nomatch z) h
end
end
variable{ps:List Str}
section
structure Room(k:Nat)(A:Lr):Prop where
 hd:A.handled=Y
 dp:A.depth+3*k+5<recursionLimit
 un:A.units+16*k+200<NA
theorem Room.deeper{k:Nat}(r:Room (k+1) A)(env:Env):Room k (A.deeper env):=⟨r.hd,by have:=r.dp;show A.depth+1+3*k+5<_;lia,by have:=r.un;show A.units+3+16*k+200<_;lia⟩
theorem Room.depth{k:Nat}(r:Room k A):A.depth<recursionLimit:=by have:=r.dp;lia
theorem Room.units{k:Nat}(r:Room k A):A.units+64<NA:=by have:=r.un;lia
noncomputable def Cr:TA:=λ_ H Q=>Q [] H
noncomputable def zB(ta:TE)(tr:TA):TA:=λσ H Q=>ta σ H λx H1=>tr σ H1 λxs H2=>Q (x::xs) H2
section
variable{X:Cx}{e:Expr}{es:List Expr}{te:TE}{t:TA}{pos:Pos}
theorem uL:PA X [] Cr:=λ_ _ _ _ H Q I h=>R9 ⟨[],H,I,.nil,h⟩
theorem kA(q:PE X e te)(z:PA X es t)(hs:L8 (e::es) X.env=(N3,eval e X.env)::L8 es X.env:=by rfl):PA X (e::es) (zB te t):=by intro pos pins s σ H Q I h;rw[hs];show Kr _ _ (spliced ((N3,eval e X.env)::P0 pos (L8 es X.env))) _ _ s;refine Pe (thn (q pins s σ H _ I h) λu s1 j=>?_);obtain⟨x,H1,B,F,G⟩:=j;exact thn (z pos pins s1 σ H1 _ B G) λus s2 j=>(by obtain⟨xs,H2,J,L,O⟩:=j;exact⟨x::xs,H2,J,.cons F L,O⟩)
noncomputable def Fy(t:TA):TE:=λσ H Q=>t σ H λxs H1=>xs.length<=Kn/\∀p,H1 p=Y->Q (.ref p) (upd H1 p (.tup xs))
noncomputable def Fz(t:TA):TE:=λσ H Q=>t σ H λxs H1=>xs.length<=Kn/\∀p,H1 p=Y->Q (.ref p) (upd H1 p (.lst xs))
theorem Ct{B}(h:PA X es t):PE X (.Tuple es B pos) (Fy t):=by
 intro pins s σ H Q I hq;refine wpAny_Tuple_spliced (thn (h pos pins s σ H _ I hq) λus s1 ⟨xs,H1,j,r,z,q⟩=>⟨by rw[<-r.length];exact z,?_⟩)
 have hf:H1 s1.heap.objs.size=Y:=j.hok.fresh (Ku _);refine⟨.ref s1.heap.objs.size,upd H1 s1.heap.objs.size (.tup xs),j.laid (t':=s1.toks) (λb u e=>hW _ e) (Ku _) ?_,rfl,q _ hf⟩;exact⟨z,us,r,⟨_,Kj _ rfl,rfl,_,rfl⟩⟩
theorem Cu(h:PA X es t):PE X (.List es pos) (Fz t):=by
 intro pins s σ H Q I hq;refine wpAny_List_spliced (thn (h pos pins s σ H _ I hq) λus s1 ⟨xs,H1,j,r,z,q⟩=>⟨by rw[<-r.length];exact z,?_⟩)
 have hf:H1 s1.heap.objs.size=Y:=j.hok.fresh (Ku _);refine⟨.ref s1.heap.objs.size,upd H1 s1.heap.objs.size (.lst xs),j.laid (t':=s1.toks) (λb u e=>hW _ e) (Ku _) ?_,rfl,q _ hf⟩;exact⟨z,us,0,r,Kj _ rfl⟩
end
noncomputable abbrev Sp:=List V->Hp->VK->XK->Prop
noncomputable abbrev CXT:=List Env->Hp->p7->XK->hH->p7->Prop
structure sM(P:KW)(w:Lo)(K:Frag)(mg:Str->Option hH)(base:Heap)(A:Lr)(outer:List Env)(s:p7)(H:Hp):Prop where
 frames:A.frames=Z outer
 mod:Mod K mg base
 bs:∀b o,base.get? b=Z o->s.heap.get? b=Z o/\H b=Y
 bsz:base.objs.size<=s.heap.objs.size
 funs:s.heap.FunFrames base outer
 frf:∀b∈frs outer,H b=Y
 hok:HOk P w H s.heap
 bare:R6 s.gens
def CE(outer:List Env)(P:KW)(w:Lo)(H:Hp)(s:p7)(Q:VK)(u:hH)(s':p7):Prop:=∃v H',s'.os=s.os/\R6 s'.gens/\Un (frs outer) [] H H' s.heap s'.heap/\HOk P w H' s'.heap/\RelV v u/\Q v H'
def CR(CX:CXT)(outer:List Env)(P:KW)(w:Lo)(H:Hp)(s:p7)(Q:VK)(E:XK)(r:U8)(s':p7):Prop:=
 match r with
 |.ok (.ret u)=>CE outer P w H s Q u s'
 |.ok _=>False
 |.error e=>CX outer H s E e s'
structure dN(P:KW)(w:Lo)(K:Frag)(mg:Str->Option hH)(base:Heap)(CX:CXT)(k:Nat)(f:VH)(fd:OM)(ps:List Str)(sp:Sp):Prop where
 len:∀vs H Q E,sp vs H Q E->vs.length=ps.length
 run:∀(A:Lr) (outer:List Env) (s:p7) (H:Hp) (args:Args) (us:List hH) (vs:List V) (Q:VK) (E:XK),Room k A->sM P w K mg base A outer s H->Tx s fd args (ps.zip us)->Vals vs us->sp vs H Q E->
  OT (model P w) A (.call (.ref f) args) (CR CX outer P w H s Q E) s
section
variable{X:Cx}{pins:List (VH×Obj)}{σ:St}{H:Hp}{s s':p7}
theorem Inv.env0(I:Inv X pins σ H s):sM X.prog X.w X.K X.mg X.base X.A X.stack s H:=⟨I.ok.frames,I.ok.mod,I.bs,LA I.ok.bsz I.sz,I.stack,I.stkFree,I.hok,I.bare⟩
theorem Inv.after{Q:VK}(I:Inv X pins σ H s)(h:CE X.stack X.prog X.w H s Q u s'):EP X pins σ Q u s':=by obtain⟨v,H',os,bare,un,hok,r,q⟩:=h;obtain⟨j,g,d,t,os'⟩:=s';obtain rfl:os'=s.os:=os;exact⟨v,H',I.call (h':=j) (g':=g) (d':=d) (t':=t) (ch:=[]) un hok bare (λb z=>absurd z (by simp)),r,q⟩
end
noncomputable def zC(sp:Sp)(dvs:List V)(E:XK)(t:TA):TE:=λσ H Q=>t σ H λvs H1=>sp (vs++dvs) H1 Q E
def Binds(K:Frag)(fd:OM)(ps:List Str)(ds:List hH):Prop:=∀(s:p7) (us:List hH),K.In s.heap->(us++ds).length=ps.length->Tx s fd ⟨us,[]⟩ (ps.zip (us++ds))
theorem Binds.all{fd:OM}(h:∀us:List hH,us.length=ps.length->bindArgs fd ⟨us,[]⟩=pure (ps.zip us)):Binds K fd ps []:=λs us _ hl=>by rw[Mg]at hl⊢;exact .of_eq (h us hl)
def jm(CX:CXT)(X:Cx)(E:XK):Prop:=∀(pins:List (VH×Obj)) (σ:St) (H:Hp) (s:p7) (e:hH) (s':p7),Inv X pins σ H s->CX X.stack H s E e s'->X.xe e s'
section
variable{X:Cx}{CX:CXT}{k:Nat}{f C:VH}{fd:OM}{ps:List Str}{sp:Sp}{dvs:List V}{ds:List hH}{E:XK}{x m:Str}{p pos apos:Pos}{e o:Expr}{es:List Expr}{ta:TE}{t:TA}
theorem uM{Q:VK}{vs:List V}(F:dN X.prog X.w X.K X.mg X.base CX k f fd ps sp)(z:Room k X.A)(hb:Binds X.K fd ps ds)(hd:Vals dvs ds)(hx:jm CX X E)(I:Inv X pins σ H s)(r:Vals vs us)(h:sp (vs++dvs) H Q E):Kr (model X.prog X.w) X.A (call (.ref f) us) (EP X pins σ Q) X.xe s:=by
 have q:Vals (vs++dvs) (us++ds):=r.append hd;have hl:(us++ds).length=ps.length:=by rw[<-q.length];exact F.len _ _ _ _ h
 refine wpAny_call (OU (F.run X.A X.stack s H ⟨us,[]⟩ (us++ds) (vs++dvs) Q E z I.env0 (hb s us I.kIn hl) q h) λr s' j=>?_)
 cases r with
 |error e=>exact hx pins σ H s e s' I j
 |ok fl=>
  cases fl with
  |ret u=>exact I.after j
  |next=>exact False.elim j
  |brk=>exact False.elim j
  |cont=>exact False.elim j
theorem Al(F:dN X.prog X.w X.K X.mg X.base CX k f fd ps sp)(G:Room k X.A)(J:Gl X x)(hm:X.mg x=Z (.ref f))(L:ON X.K (.ref f)=F2)(hb:Binds X.K fd ps ds)(hd:Vals dvs ds)(hx:jm CX X E)(O:PA X (e::es) t)(j:(x==("__debug__":Str))=N3:=by decide)(he:L8 (e::es) X.env=(N3,eval e X.env)::L8 es X.env:=by rfl)(z:(P0 pos (L8 es X.env)).any (·.1)=N3:=by rfl):
 PE X (.Call (.Name x p) (e::es) [] pos) (zC sp dvs E t):=by
 intro pins s σ H Q I h;refine Oi (ky I J hm ?_ j);refine PySem.W.callWith_K (h₀:=X.base) I.ok.mod.kin L (thn (O pos pins s σ H _ I h) λus s1 ⟨vs,H1,B,r,q⟩=>⟨B.kIn,?_⟩) he z;exact uM F G hb hd hx B r q
theorem xB(F:dN X.prog X.w X.K X.mg X.base CX k f fd ps sp)(q:Room k X.A)(z:Gl X x)(hm:X.mg x=Z (.ref f))(B:ON X.K (.ref f)=F2)(hb:Binds X.K fd ps ds)(hd:Vals dvs ds)(hx:jm CX X E)(j:(x==("__debug__":Str))=N3:=by decide):PE X (.Call (.Name x p) [] [] pos) (zC sp dvs E Cr):=by intro pins s σ H Q I h;refine Oi (ky I z hm ?_ j);exact PySem.W.callWith_K0 I.kIn B (uM (us:=[]) F q hb hd hx I .nil h)
end
structure gR(N P:List Str)(sc:Scope):Prop where
 kind:sc.kind=.function
 co:sc.isCoroutine=N3
 gen:sc.isGenerator=N3
 nd:N.Nodup
 pre:N.take P.length=P
 par:∀x∈P,sc.names.lookup x=Z .local∨sc.names.lookup x=Z .cell
 nofree:∀y∈sc.names,y.2≠.free
theorem lD{Mw:Str->Option Ob}{x:Str}:∀{binds:List (Str×hH)} {m:Str->Option hH},(∀v,(x,v)∉binds)->UX Mw binds m x=m x
 |[],_,_=>rfl
 |(n,v)::r,m,h=>by
  unfold UX;rw[lD λw hw=>h w (KQ _ hw)]
  split
  ·have:x≠n:=by rintro rfl;exact h v Lc
   simp[this]
  ·rfl
theorem lF{Mw:Str->Option Ob}{x:Str}:∀{binds:List (Str×hH)} {m:Str->Option hH},(∀v,(x,v)∉binds)->UY Mw binds m x=m x
 |[],_,_=>rfl
 |(n,v)::r,m,h=>by
  unfold UY;rw[lF λw hw=>h w (KQ _ hw)]
  split
  ·rfl
  ·have:x≠n:=by rintro rfl;exact h v Lc
   simp[this]
theorem lH{Mw:Str->Option Ob}{x:Str}{v:hH}:∀{P:List Str} {vs:List hH} {i:Nat} {m:Str->Option hH},P.Nodup->P[i]?=Z x->vs[i]?=Z v->Mw x=Z .local->
 UX Mw (P.zip vs) m x=Z v
 |[],_,_,_,_,h,_,_=>by simp at h
 |_::_,[],_,_,_,_,h,_=>by simp at h
 |p::P,w::vs,0,m,nd,h1,h2,j=>by simp at h1 h2;subst h1;subst h2;show UX Mw ((p,w)::P.zip vs) m p=_;unfold UX;rw[lD λv q=>(Ma.mp nd).1 (Pa q).1,if_pos j];simp
 |p::P,w::vs,i+1,m,nd,h1,h2,j=>by show UX Mw ((p,w)::P.zip vs) m x=_;unfold UX;exact lH (i:=i) (Ma.mp nd).2 (by simpa using h1) (by simpa using h2) j
theorem lJ{Mw:Str->Option Ob}{x:Str}{v:hH}:∀{P:List Str} {vs:List hH} {i:Nat} {m:Str->Option hH},P.Nodup->P[i]?=Z x->vs[i]?=Z v->Mw x≠Z .local->
 UY Mw (P.zip vs) m x=Z v
 |[],_,_,_,_,h,_,_=>by simp at h
 |_::_,[],_,_,_,_,h,_=>by simp at h
 |p::P,w::vs,0,m,nd,h1,h2,j=>by simp at h1 h2;subst h1;subst h2;show UY Mw ((p,w)::P.zip vs) m p=_;unfold UY;rw[lF λv q=>(Ma.mp nd).1 (Pa q).1,if_neg j];simp
 |p::P,w::vs,i+1,m,nd,h1,h2,j=>by show UY Mw ((p,w)::P.zip vs) m x=_;unfold UY;exact lJ (i:=i) (Ma.mp nd).2 (by simpa using h1) (by simpa using h2) j
noncomputable def cP(N:List Str)(vs:List V):St:=vs.map Z++Kf (N.length-vs.length) Y
noncomputable def iK(CX:CXT)(P:KW)(w:Lo)(K:Frag)(mg:Str->Option hH)(base:Heap)(N:List Str)(qual:Str)(scope:Scope)(f:VH)(cd:hH)(A:Lr)(outer:List Env)(s:p7)(H:Hp)(E:XK):Cx where
 prog:=P
 w:=w
 K:=K
 mg:=mg
 base:=base
 A:=A.deeper (Su qual scope s.heap.objs.size f cd)
 N:=N
 s₀:=s
 H₀:=H
 env:=Su qual scope s.heap.objs.size f cd
 outer:=outer
 stack:=Su qual scope s.heap.objs.size f cd::outer
 ex:=[]
 calm:=F2
 fn:=λ_=>F2
 pn:=[]
 xe:=λe s'=>Kr (model P w) (A.deeper (Su qual scope s.heap.objs.size f cd)) (leaving (Su qual scope s.heap.objs.size f cd) e) (λ_ s''=>CX outer H s E e s'') (λe' s''=>CX outer H s E e' s'') s'
theorem nZ{sc:Scope}{n:Nat}(h:sc.names.lookup x=Z .cell):∃c,(Nh n sc.names []).lookup x=Z c:=by have q:=Py sc.names n [] (.inl h);exact NZ.mp q
theorem uN{CX:CXT}{mg:Str->Option hH}{base:Heap}{qual:Str}{scope:Scope}{f:VH}{cd:hH}{outer:List Env}{s1:p7}{E:XK}{vs:List V}(S:gR N ps scope)(hd:A.handled=Y)(e0:sM P w K mg base A outer s H)(hl:vs.length=ps.length)(r:Vals vs us)(x:InCallC s s.heap.objs.size (UX (Su qual scope s.heap.objs.size f cd).kindOf (ps.zip us) λ_=>Y) (Nh (s.heap.objs.size+1) scope.names []) (UY (Su qual scope s.heap.objs.size f cd).kindOf (ps.zip us) λ_=>Y) s1):
 Inv (iK CX P w K mg base N qual scope f cd A outer s H E) [] (cP N vs) H s1:=by
 have J:ps.length<=N.length:=by have:=congrArg Q9 S.pre;rw[L3]at this;lia
 obtain⟨h1,tk,rfl,F⟩:=x.done;have noA:∀b:VH,b∉(iK CX P w K mg base N qual scope f cd A outer s H E).ex:=λb z=>absurd (show b∈([]:List VH)from z) (by simp)
 refine⟨⟨e0.mod,S.kind,rfl,rfl,Ku _,λy z c h1 h2=>?_,λy j=>?_,λy c _ h=>?_,λ_=>hd,Around.frames_deeper e0.frames,.inr ⟨rfl,rfl⟩,λb z=>absurd z (noA b),e0.bs,e0.bsz,λb _ _=>noA b,λb z=>absurd z (noA b),e0.funs,e0.frf⟩,
  rfl,e0.bare,Un.kept F,⟨_,x.toInCall.ns,λi y v h1 h2 O=>?_⟩,λy c h=>⟨_,x.cell y c h⟩,e0.hok.fresh (Ku _),λy c h=>?_,λp B=>absurd (show p∈([]:List (VH×Obj))from B) (by simp),e0.hok.kept F,?_⟩
 ·exact name_of_addr x.apart (Mx h1) (Mx h2)
 ·have j:scope.names.lookup y=Z .cell∨scope.names.lookup y=Z .free:=j
  rcases j with j|j
  ·exact nZ j
  ·exact absurd rfl (S.nofree _ (Mx j))
 ·exact OS (x.above y c (Mx h))
 ·have hi:i<vs.length:=by
   unfold cP at h2
   by_cases hi:i<vs.length
   ·exact hi
   ·rw[J4 (by simpa using hi)]at h2
    rw[Ru]at h2
    split at h2<;>cases h2
  have L:vs[i]?=Z v:=by
   unfold cP at h2;rw[KA (by simpa using hi),KH]at h2
   cases e:vs[i]? with
   |none=>rw[e]at h2;cases h2
   |some a=>rw[e]at h2;cases h2;rfl
  obtain⟨u,G,rv⟩:=r.get L;have B:ps[i]?=Z y:=by rw[<-S.pre,P5 ∅];exact h1
  have ndP:ps.Nodup:=by rw[<-S.pre];exact S.nd.sublist (List.take_sublist _ _)
  refine⟨u,rv,?_⟩
  rcases S.par y (KU B)with k|k
  ·exact .inl ⟨k,lH ndP B G k⟩
  ·obtain⟨c,e⟩:=nZ (n:=s.heap.objs.size+1) k;refine .inr ⟨.inl k,c,e,?_⟩;have q:=x.cell y c e;rw[lJ ndP B G (by show scope.names.lookup y≠_;rw[k];decide)]at q
   exact q
 ·exact e0.hok.fresh (OS (x.above y c (Mx h)))
 ·unfold cP;show _=N.length;rw[D2,tv,List.length_replicate];lia
theorem Ed {CX:CXT}{mg:Str->Option hH}{base:Heap}{k:Nat}{f:VH}{name qual:Str}{params:Arguments}{scope:Scope}{dV kV doc pm cdv ct oc:hH}{an od:Option VH}{osl:Array (Option hH)}{sp:Sp}(lk:K.lookup f=Z ⟨oc,od,.func (Oj name qual params body scope dV kV doc pm an cdv ct),osl⟩)(F:QH K cdv qual=F2)(S:gR N ps scope)(len:∀vs H Q E,sp vs H Q E->vs.length=ps.length)(j:∀(A:Lr) (outer:List Env) (s:p7) (H:Hp) (vs:List V) (Q:VK) (E:XK),Room k (A.deeper (Su qual scope s.heap.objs.size f cdv))->sp vs H Q E->
   ∃t,PSs (iK CX P w K mg base N qual scope f cdv A outer s H E) body t/\t {nx:=λ_ H'=>Q .non H',rt:=Q} (cP N vs) H):
 dN P w K mg base CX (k+1) f (Oj name qual params body scope dV kV doc pm an cdv ct) ps sp:=by
 refine⟨len,λA outer s H args us vs Q E G e0 hb r B=>?_⟩;have hl:=len _ _ _ _ B;have KX:K.In s.heap:=e0.mod.kin.keeps λb o e=>(e0.bs b o e).1;have lim:s.heap.NoLimit:=e0.mod.nolimit.keeps λb o e=>(e0.bs b o e).1;have z:∀y∈ps.zip us,scope.names.lookup y.1=Z .local∨(scope.names.lookup y.1=Z .cell/\((Nh (s.heap.objs.size+1) scope.names []).lookup y.1).isSome=F2):=λ⟨n,v⟩ hy=>by
  rcases S.par n (Pa hy).1 with q|q
  ·exact .inl q
  ·exact .inr ⟨q,Py _ _ _ (.inl q)⟩
 refine codeAny_call_function G.depth (KX _ _ lk) rfl S.co S.gen rfl (PySem.W.codeRec_of KX F) (hb _ _ _ _ ?_);refine wpAny_newFunctionEnv_cells S.kind z λenv he s1 x=>?_;subst he;refine⟨lim.keeps x.toInCall.keep,codeAny_func ?_⟩;obtain⟨t,L,O⟩:=j A outer s H vs Q E (G.deeper _) B;have I:Inv (iK CX P w K mg base N qual scope f cdv A outer s H E) [] (cP N vs) H s1:=uN S G.hd e0 hl r x;refine LW (L [] s1 (cP N vs) H _ I O) (λfl s' hs=>?_) λe s' hs=>hs;have fin:∀{σ':St} {H':Hp} {v:V} {u:hH},Inv (iK CX P w K mg base N qual scope f cdv A outer s H E) [] σ' H' s'->RelV v u->Q v H'->CE outer P w H s Q u s':=λ{σ' H' v u} J rv q=>⟨v,H',J.os,J.bare,J.base,J.hok,rv,q⟩
 cases fl with
 |ret u=>obtain⟨v,σ',H',J,rv,q⟩:=hs;exact fin J rv q
 |next=>obtain⟨σ',H',J,q⟩:=hs;exact fin (v:=V.non) (u:=N6) J rfl q
 |brk=>obtain⟨_,_,_,q⟩:=hs;exact False.elim q
 |cont=>obtain⟨_,_,_,q⟩:=hs;exact False.elim q
end
section
section
variable{X:Cx}{x:Str}{p pos:Pos}{e:Expr}{es:List Expr}{t:TA}{id T:String}{r:List V->Hp->VK->Prop}
noncomputable def tCB(r:List V->Hp->VK->Prop)(t:TA):TE:=λσ H Q=>t σ H λvs H1=>r vs H1 Q
theorem cq(hc:CallR X (.builtin id) r)(z:Gl X x)(hm:X.mg x=Y)(B:Og x=Z (.builtin id))(F:PA X (e::es) t)(G:x≠"__name__":=by decide)(j:(x==("__debug__":Str))=N3:=by decide)(he:L8 (e::es) X.env=(N3,eval e X.env)::L8 es X.env:=by rfl)(q:(P0 pos (L8 es X.env)).any (·.1)=N3:=by rfl):PE X (.Call (.Name x p) (e::es) [] pos) (tCB r t):=by intro pins s σ H Q I h;refine Oi (cQ I z hm B ?_ G j);exact PV (thn (F pos pins s σ H _ I h) λus s1 J=>(by obtain⟨vs,H1,L,O,U⟩:=J;exact hc pins s1 σ H1 vs us Q L O U)) he q
theorem fY(hc:CallR X (.type T) r)(z:Gl X x)(hm:X.mg x=Y)(B:Og x=Z (.type T))(F:PA X (e::es) t)(G:x≠"__name__":=by decide)(j:(x==("__debug__":Str))=N3:=by decide)(he:L8 (e::es) X.env=(N3,eval e X.env)::L8 es X.env:=by rfl)(q:(P0 pos (L8 es X.env)).any (·.1)=N3:=by rfl):PE X (.Call (.Name x p) (e::es) [] pos) (tCB r t):=by intro pins s σ H Q I h;refine Oi (cQ I z hm B ?_ G j);exact MR (thn (F pos pins s σ H _ I h) λus s1 J=>(by obtain⟨vs,H1,L,O,U⟩:=J;exact hc pins s1 σ H1 vs us Q L O U)) he q
end
end
end L2
namespace HT
open PySem PyProof.Rows
noncomputable def lexLt:List Int->List Int->Bool
 |[],[]=>N3
 |[],_::_=>F2
 |_::_,[]=>N3
 |x::xs,y::ys=>if x=y then lexLt xs ys else decide (x<y)
theorem lexLt_cons(x y:Int)(xs ys:List Int):lexLt (x::xs) (y::ys)=if x=y then lexLt xs ys else decide (x<y):=rfl
theorem ng:lexLt [] []=N3:=rfl
theorem kB(y:Int)(ys:List Int):lexLt [] (y::ys)=F2:=rfl
theorem kC(x:Int)(xs:List Int):lexLt (x::xs) []=N3:=rfl
theorem xC(A:Lr)(s:p7)(a:Int)(t:Tok)(c:Int)(u:Tok):∃e,UZ A s (.int a t) (.int c u) e/\(e=F2↔a=c):=⟨(a==c),Tg a t c u,by simp⟩
theorem xD(A:Lr)(s:p7)(a:Int)(t:Tok)(c:Int)(u:Tok)(prog:KW)(w:Lo)(E Q:hH->p7->Prop)(h:Q (.bool (decide (a<c))) s):
 Kr (model prog w) A (Qa .Lt (.int a t) (.int c u)) Q E s:=
 (PyProof.Rows.lt_int h:Kr (model prog w) A (Ml .Lt (.int a t) (.int c u)) Q E s)
section
open PySem.SeqAt
open PySem.AutoSeq1 (wpAny_loadPart')
open PySem.MeetsSeq PySem.MeetsSeq2 PySem.MeetsSeq3
theorem nh(l b:VH)(items j:Array hH)(n n2:Nat)(dd HY:Option VH)(sl HZ:Array (Option hH))(ns ms:List Int)(hi:Pb items.toList ns)(hj:Pb j.toList ms):
 Meets (Mp.«tuple.__lt__» ⟨[.ref l,.ref b],[]⟩)
  (fun _ R s=>s.heap.get? l=Z {cls:=.type "tuple",dict:=dd,data:=.seq items n,slots:=sl}/\s.heap.get? b=Z {cls:=.type "tuple",dict:=HY,data:=.seq j n2,slots:=HZ} /\
    R (.ok (.ret (.bool (lexLt ns ms)))) s):=
 .of_wp λprog w A R s h=>by
  obtain⟨fv,g,d,tk,os⟩:=s;obtain⟨hl,hb,h⟩:=h;have f2:=AutoSeq1.sub_tuple_tuple;have z1:items.size=ns.length:=by rw[<-hi.length];simp
  have z2:j.size=ms.length:=by rw[<-hj.length];simp
  wp_walk using Nj hl,Nj hb,wpAny_forIn_list _ (λrest b s'=>b.1=Y/\s'=⟨fv,g,d,tk,os⟩/\∃(vs ws:List hH) (ns' ms':List Int),rest=vs.zip ws /\
   Pb vs ns'/\Pb ws ms'/\ns'.length+j.size=ms'.length+items.size/\R (.ok (.ret (.bool (lexLt ns' ms')))) ⟨fv,g,d,tk,os⟩) _
  case turn=>
   rintro⟨y,x⟩ rest b s' ⟨J,rfl,vs,ws,ns',ms',z,L,B,hlen,F⟩
   cases L with
   |nil=>rw[List.zip_nil_left]at z;cases z
   |cons a t U=>
    cases B with
    |nil=>rw[List.zip_nil_right]at z;cases z
    |cons c u pv=>
     rw[QI]at z
     injection z with hyx O
     injection hyx with hy hx
     subst hy hx;rw[lexLt_cons]at F;simp only[L4]at hlen;obtain⟨e,he,G⟩:=xC A.in1 ⟨fv,g,d,tk,os⟩ a t c u;refine gV (he prog w _ _ ?_)
     cases e with
     |true=>
      rw[if_pos (G.mp rfl)]at F
      wp_walk
      exact⟨rfl,rfl,_,_,_,_,O,U,pv,∅,F⟩
     |false=>
      rw[if_neg (λq=>absurd (G.mpr q) Kl)]at F;have I0:=xD A.in1 ⟨fv,g,d,tk,os⟩ a t c u prog w
      wp_walk using I0
      exact⟨_,rfl,by simpa using F⟩
  case fin=>
   rintro⟨b1,b2⟩ s' ⟨J,rfl,vs,ws,ns',ms',z,L,B,hlen,F⟩;simp only at J;subst J;have hv:lexLt ns' ms'=decide (items.size<j.size):=by
    cases L with
    |nil=>
     cases B with
     |nil=>simp only[Mb]at hlen;rw[ng];exact(decide_eq_false ∅).symm
     |cons c u hw=>simp only[Mb,L4]at hlen;rw[kB];exact(decide_eq_true ∅).symm
    |cons a t hv=>
     cases B with
     |nil=>simp only[Mb,L4]at hlen;rw[kC];exact(decide_eq_false ∅).symm
     |cons c u hw=>
      rw[QI]at z
      cases z
   rw[hv]at F
   wp_walk
   exact⟨_,rfl,by simpa[O9]using F⟩
  case h=>exact⟨rfl,rfl,items.toList,j.toList,ns,ms,rfl,hi,hj,∅,h⟩
end
section
variable{prog:KW}{w:Lo}{A:Lr}{E:hH->p7->Prop}{s:p7}
theorem lt_tupInts{l b:VH}{items j:Array hH}{ns ms:List Int}{Q:hH->p7->Prop}(hl:Uy s.heap l items)(hb:Uy s.heap b j)(hi:Pb items.toList ns)(L:Pb j.toList ms)(O:A.units<NA)(h:Q (.bool (lexLt ns ms)) s):Kr (model prog w) A (Ml .Lt (.ref l) (.ref b)) Q E s:=by
 obtain⟨⟨cls,dd,data,sl⟩,ho,hc,n,hd⟩:=id hl;obtain⟨⟨J,B,data2,G⟩,q,z,U,hd2⟩:=id hb;simp only at hc hd z hd2;subst hc hd z hd2;exact richCompare_meets_room (op:=.Lt) ⟨_,ho,rfl⟩ ⟨_,q,rfl⟩ PySem.F.slot_tuple_lt PySem.F.entry_tuple_lt (PySem.F.args_tuple_lt_2 _ _) (nh l b items j n U dd B sl G ns ms hi L)
  ⟨ho,q,show RT (lexLt ns ms)≠Sv/\Q (.bool (lexLt ns ms)) s from⟨(λx=>nomatch x),h⟩⟩ O
theorem cat_tup{t b:VH}{vs ws:List hH}{Q:hH->p7->Prop}(O:Uy s.heap t vs.toArray)(hb:Uy s.heap b ws.toArray)(G:vs≠[])(h1:ws=[]->Q (.ref t) s)(h2:ws≠[]->Q (.ref s.heap.objs.size) {s with heap:=s.heap.push {cls:=.type "tuple",data:=.seq (vs++ws).toArray}})(hsz:vs.length+ws.length<=Kn):Kr (model prog w) A (MA .Add (.ref t) (.ref b)) Q E s:=by
 obtain⟨⟨cls,dd,data,sl⟩,ho,hc,n,hd⟩:=id O;obtain⟨⟨J,q,data2,z⟩,j,B,L,hd2⟩:=id hb;simp only at hc hd B hd2;subst hc hd B hd2;have e:vs.toArray++ws.toArray=(vs++ws).toArray:=by simp
 by_cases hw:ws=[]
 ·exact Tz ⟨_,ho,rfl⟩ ⟨_,j,rfl⟩ Rx T5 Pz Pu (P6 _ _)
   (tuple_addW1 t b vs.toArray ws.toArray n L dd q sl z (by simpa using G) (by simp[hw])) ⟨ho,j,h1 hw⟩
 ·refine Tz ⟨_,ho,rfl⟩ ⟨_,j,rfl⟩ Rx T5 Pz Pu (P6 _ _)
   (tuple_addW2 t b vs.toArray ws.toArray n L dd q sl z (by simpa using G) (by simpa using hw) (by rw[Kq,Kq];exact hsz)) ⟨ho,j,?_⟩
  rw[e];exact h2 hw
noncomputable def sIx(n d:Nat):Option Int->Nat
 |none=>d
 |some v=>if v<0 then(v+(n:Int)).toNat else min v.toNat n
theorem sIx_none(n d:Nat):sIx n d Y=d:=rfl
theorem sIx_nat(n d k:Nat):sIx n d (Z (k:Int))=min k n:=by
 show(if(k:Int)<0 then((k:Int)+(n:Int)).toNat else min (k:Int).toNat n)=min k n
 rw[if_neg ∅,KL]
theorem Cv(n d:Nat)(hd:d<=n)(o:Option Int):sIx n d o<=n:=by
 cases o with
 |none=>exact hd
 |some v=>
  show(if v<0 then(v+(n:Int)).toNat else min v.toNat n)<=n
  by_cases hv:v<0
  ·rw[if_pos hv];lia
  ·rw[if_neg hv];exact Nat.min_le_right _ _
theorem qW(v:Int)(n d:Nat):(if v<0 then max (v+(n:Int)) 0 else min v (n:Int))=((sIx n d (Z v):Nat):Int):=by
 show(if v<0 then max (v+(n:Int)) 0 else min v (n:Int))=(((if v<0 then(v+(n:Int)).toNat else min v.toNat n):Nat):Int)
 by_cases hv:v<0
 ·simp only[if_pos hv];lia
 ·simp only[if_neg hv];lia
theorem sN(lo hi:Option Int)(n:Nat):OZ lo hi 1 (n:Int)=(((sIx n 0 lo:Nat):Int),((sIx n n hi:Nat):Int)):=by
 have h1:¬((1:Int)<0):=∅
 unfold OZ;simp only[h1,if_false];refine QJ ?_ ?_
 ·cases lo with
  |none=>rfl
  |some v=>exact qW v n 0
 ·cases hi with
  |none=>rfl
  |some v=>exact qW v n n
theorem sP(i j:Nat):NM (i:Int) (j:Int) 1=j-i:=by
 unfold NM;have h1:(1:Int) > 0:=∅
 simp only[h1,if_true,Int.ediv_one]
 split<;>lia
theorem jo{v:hH}{o:Option Int}{Q:Option Int->p7->Prop}(p:RV v o)(h:Q o s):Kr (model prog w) A (Builtin.Slice.slicePartIndex v) Q E s:=by
 cases p with
 |none=>exact slicePart_none h
 |int i t=>exact slicePart_int h
theorem dO{sl:VH}{vl vu:hH}{lo hi:Option Int}{n:Nat}{Q:Int×Int×Nat->p7->Prop}(hs:s.heap.IsSliceOf sl vl vu .none)(pl:RV vl lo)(pu:RV vu hi)(h:Q (((sIx n 0 lo:Nat):Int),1,sIx n n hi-sIx n 0 lo) s):Kr (model prog w) A (QK (.ref sl) (pure (n:Int))) Q E s:=by
 obtain⟨os,j,z,q⟩:=id hs;unfold QK Builtin.Slice.sliceFields;refine gV (gV (Lg j q (x:=vl) rfl (gV (Lg j q (x:=vu) rfl (gV (Lg j q (x:=.none) rfl (D0 ?_)))))));refine gV (slicePart_none ?_);show Kr _ _ (if((1:Int)==0)=F2 then _ else _) _ _ s
 rw[if_neg (by decide)]
 refine gV (jo pl (gV (jo pu (gV (D0 ?_)))));show Kr _ _ (match OZ lo hi 1 (n:Int)with|(lo,hi)=>pure (lo,(1:Int),NM lo hi 1)) _ _ s
 rw[sN lo hi n];show Kr _ _ (pure (((sIx n 0 lo:Nat):Int),(1:Int),NM ((sIx n 0 lo:Nat):Int) ((sIx n n hi:Nat):Int) 1)) _ _ s;rw[sP];exact D0 h
theorem xE(xs:Array hH)(i k:Nat):((D1 k).filterMap λ(m:Nat)=>xs[((i:Int)+(m:Int)*1).toNat]?).toArray=((xs.toList.drop i).take k).toArray:=by
 have e:(λ(m:Nat)=>xs[((i:Int)+(m:Int)*1).toNat]?)=λm=>xs[i+m]?:=by
  funext m
  have:((i:Int)+(m:Int)*1).toNat=i+m:=∅
  rw[this]
 rw[e];have:=pick_run xs i k;rw[List.filterMap_map]at this;have e2:((λx=>xs[x]?)∘λx=>i+x)=λm=>xs[i+m]?:=rfl;rw[e2]at this;rw[this]
theorem getItem_tuple_cut{t sl:VH}{items:Array hH}{vl vu:hH}{lo hi:Option Int}{Q:hH->p7->Prop}(z:Uy s.heap t items)(hs:s.heap.IsSliceOf sl vl vu .none)(pl:RV vl lo)(pu:RV vu hi)(hw:¬(sIx items.size 0 lo=0/\sIx items.size items.size hi=items.size))(h:Q (.ref s.heap.objs.size) {s with heap:=s.heap.push {cls:=.type "tuple",data:=.seq ((items.toList.drop (sIx items.size 0 lo)).take (sIx items.size items.size hi-sIx items.size 0 lo)).toArray}})(hsz:items.size<=Kn):Kr (model prog w) A (R8 (.ref t) (.ref sl)) Q E s:=by
 have j:sizeOk (.seq ((items.toList.drop (sIx items.size 0 lo)).take (sIx items.size items.size hi-sIx items.size 0 lo)).toArray):=by show((items.toList.drop (sIx items.size 0 lo)).take (sIx items.size items.size hi-sIx items.size 0 lo)).toArray.size<=Kn;rw[Kq,L3,MP,L6];lia
 have O:sIx items.size items.size hi<=items.size:=Cv _ _ (Ku _) hi;obtain⟨os,B,F,L⟩:=id hs;have G:s.TypeIs (.ref sl) "slice":=⟨os,B,F⟩;unfold R8
 try with_reducible refine LN ?_
 first|refine gV (D0 ?_)|skip
 refine gV (TB z.typeIs (by decide) ?_)
 refine gV (La (name:=LI "__getitem__") z.typeIs N1
  (Le N1 z.typeIs SV ?_ (Th _ _)))
 show Kr _ _ (QL (.ref t)>>=_) _ _ s;refine gV (tupleItemsOf_ z ?_);refine gV (Ol G ?_);rw[if_pos (by decide)]
 refine gV (dO hs pl pu ?_);have J:¬((((sIx items.size 0 lo:Nat):Int)==0&&(1:Int)==1&&(sIx items.size items.size hi-sIx items.size 0 lo)==items.size)=F2):=by intro q;rw[q7,q7]at q;have U:((sIx items.size 0 lo:Nat):Int)=0:=NP q.1.1;have pv:sIx items.size items.size hi-sIx items.size 0 lo=items.size:=NP q.2;exact hw ⟨∅,∅⟩
 show Kr _ _ (if(((sIx items.size 0 lo:Nat):Int)==0&&(1:Int)==1&&(sIx items.size items.size hi-sIx items.size 0 lo)==items.size)=F2 then _ else _) _ _ s
 rw[if_neg J,xE]
 first
  |exact gV (m:=O0 _) (LQ (D0 ⟨_,rfl,D0 h⟩) j)
  |exact gV (m:=O0 _) (LQ (gV (D0 (D0 ⟨_,rfl,D0 h⟩))) j)
  |exact gV (gV (m:=O0 _) (LQ (D0 (D0 ⟨_,rfl,D0 h⟩)) j))
  |exact gV (gV (m:=O0 _) (LQ (D0 ⟨_,rfl,D0 h⟩) j))
end
end HT
namespace L2
open PySem PySem.Spec PyProof.Rows
section
noncomputable abbrev TO:=St->Hp->(Option Int->Hp->Prop)->Prop
def PO(X:Cx)(e:Option Expr)(t:TO):Prop:=
 ∀(pins:List (VH×Obj)) (s:p7) (σ:St) (H:Hp) (Q:Option Int->Hp->Prop),Inv X pins σ H s->t σ H Q->
  Kr (model X.prog X.w) X.A (evalPart e X.env) (λu s'=>∃o H',Inv X pins σ H' s'/\RV u o/\Q o H') X.xe s
noncomputable def Am:TO:=λ_ H Q=>Q Y H
noncomputable def Ee(t:TE):TO:=λσ H Q=>t σ H λx H1=>∃i,x=.int i/\Q (Z i) H1
theorem sQ{ns:List Int}:∀{us:List hH},Vals (ns.map V.int) us->Pb us ns:=by
 induction ns with
 |nil=>intro us r;rw[Om]at r;cases r;exact .nil
 |cons n ns ih=>
  intro us r;rw[Ks]at r
  cases r with
  |cons j q=>obtain⟨t,e⟩:=j;subst e;exact .cons n t (ih q)
section
variable{X:Cx}{e:Expr}{te:TE}{lo hi:Option Expr}{tl th:TO}{pos p2:Pos}
theorem An:PO X Y Am:=by intro pins s σ H Q I h;rw[evalPart_none];exact D0 ⟨Y,H,I,.none,h⟩
theorem Ao(h:PE X e te):PO X (Z e) (Ee te):=by intro pins s σ H Q I hw;rw[evalPart_some];refine thn (h pins s σ H _ I hw) λu s1 j=>?_;obtain⟨x,H1,z,B,F⟩:=j;obtain⟨i,rfl,q⟩:=F;obtain⟨t,rfl⟩:=B;exact⟨Z i,H1,z,.int i t,q⟩
def SlR(X:Cx)(r:V->Option Int->Option Int->Hp->VK->Prop):Prop:=
 ∀(pins:List (VH×Obj)) (s:p7) (σ:St) (H:Hp) (x:V) (v vl vu:hH) (lo hi:Option Int) (sl:VH) (Q:VK),Inv X pins σ H s->RelV x v->s.heap.IsSliceOf sl vl vu .none->RV vl lo->RV vu hi->r x lo hi H Q->
  ∃T id,V0 (.type T) "__getitem__"=pure (Z (.builtin id))/\s.TypeIs v T/\Kr (model X.prog X.w) X.A (R8 v (.ref sl)) (EP X pins σ Q) X.xe s
theorem SlR.or{r r':V->Option Int->Option Int->Hp->VK->Prop}(h:SlR X r)(h':SlR X r'):SlR X (λx lo hi H Q=>r x lo hi H Q∨r' x lo hi H Q):=by
 intro pins s σ H x v vl vu lo hi sl Q I rx hs pl pu q
 rcases q with q|q
 ·exact h pins s σ H x v vl vu lo hi sl Q I rx hs pl pu q
 ·exact h' pins s σ H x v vl vu lo hi sl Q I rx hs pl pu q
noncomputable def tSl(r:V->Option Int->Option Int->Hp->VK->Prop)(te:TE)(tl th:TO):TE:=λσ H Q=>te σ H λx H1=>tl σ H1 λl H2=>th σ H2 λu H3=>r x l u H3 Q
theorem xF{r:V->Option Int->Option Int->Hp->VK->Prop}(B:SlR X r)(he:PE X e te)(hl:PO X lo tl)(F:PO X hi th):PE X (.Subscript e (.Slice lo hi Y p2) pos) (tSl r te tl th):=by
 intro pins s σ H Q I h;refine Subscript_ (thn (he pins s σ H _ I h) λv s1 j=>?_);obtain⟨x,H1,G,J,L⟩:=j;refine wpAny_Slice (thn (hl pins s1 σ H1 _ G L) λvl s2 ⟨l,H2,O,pl,U⟩=>thn (F pins s2 σ H2 _ O U) λvu s3 j=>?_);obtain⟨u,z,pv,pu,fv⟩:=j;rw[evalPart_none];refine D0 ?_;have I4:Inv X pins σ z {s3 with heap:=s3.heap.push {cls:=.type "slice",data:=.fields #[vl,vu,.none]}}:=pv.kept (t':=s3.toks) λb ob q=>hW _ q
 obtain⟨T,id,hT,ht,hg⟩:=B pins {s3 with heap:=s3.heap.push {cls:=.type "slice",data:=.fields #[vl,vu,.none]}} σ z x v vl vu l u s3.heap.objs.size Q I4 J (Heap.IsSliceOf.new ..) pl pu fv
 show Kr (model X.prog X.w) X.A (subscriptTail e (.Slice lo hi Y p2) v (.ref s3.heap.objs.size)) (EP X pins σ Q) X.xe {s3 with heap:=s3.heap.push {cls:=.type "slice",data:=.fields #[vl,vu,.none]}}
 exact tail_any (ops:=[.ref s3.heap.objs.size,v]) ht hT hg (by with_unfolding_all rfl)
noncomputable def fZ(xs:List V)(lo hi:Option Int):List V:=(xs.drop (HT.sIx xs.length 0 lo)).take (HT.sIx xs.length xs.length hi-HT.sIx xs.length 0 lo)
theorem iz(xs:List V)(lo hi:Option Int):(fZ xs lo hi).length<=xs.length:=by unfold fZ;rw[L3,MP];lia
noncomputable def FA(K:Frag):V->Option Int->Option Int->Hp->VK->Prop:=λx lo hi H Q=>∃a xs,x=.ref a/\SqT K H a xs /\
 ¬(HT.sIx xs.length 0 lo=0/\HT.sIx xs.length xs.length hi=xs.length)/\∀p,H p=Y->Q (.ref p) (upd H p (.tup (fZ xs lo hi)))
theorem sl_tup:SlR X (FA X.K):=by
 intro pins s σ H x v vl vu lo hi sl Q I rx hs pl pu h;obtain⟨a,xs,rfl,hx,hw,q⟩:=h
 cases rx
 obtain⟨its,r,j,z⟩:=I.tuple hx;have hlen:its.toArray.size=xs.length:=by rw[Kq];exact r.length.symm
 refine⟨"tuple",_,PyProof.Rows.slot_tuple_getitem.lookup,j.typeIs,?_⟩;refine HT.getItem_tuple_cut j hs pl pu (by rw[hlen];exact hw) ?_ (by rw[hlen];exact z)
 rw[hlen];refine⟨.ref s.heap.objs.size,_,I.laid (t':=s.toks) (o:=.tup (fZ xs lo hi)) (λb ob q=>hW _ q) (Ku _) ?_,rfl,q _ (I.hok.fresh (Ku _))⟩;exact⟨LA (iz xs lo hi) z,_,(r.drop (HT.sIx xs.length 0 lo)).take (HT.sIx xs.length xs.length hi-HT.sIx xs.length 0 lo),PU _ _⟩
noncomputable def zD(K:Frag):R2:=λx y H Q=>∃a b xs ys,x=.ref a/\y=.ref b/\SqT K H a xs/\SqT K H b ys/\xs≠[]/\xs.length+ys.length<=Kn /\
 (ys=[]->Q (.ref a) H)/\(ys≠[]->∀p,H p=Y->Q (.ref p) (upd H p (.tup (xs++ys))))
theorem Vals.nil_iff{xs:List V}{us:List hH}(r:Vals xs us):us=[]↔xs=[]:=by
 cases r with
 |nil=>simp
 |cons _ _=>simp
theorem op_catT:OpR X (MA .Add) (zD X.K):=by
 intro pins s σ H x y v u Q I rx ry h;obtain⟨a,b,xs,ys,rfl,rfl,J,hb,hx,F,L,O⟩:=h
 cases rx
 cases ry
 obtain⟨its,B,U,_⟩:=I.tuple J;obtain⟨G,j,p2,_⟩:=I.tuple hb;refine HT.cat_tup U p2 (λz=>hx (B.nil_iff.mp z)) (λz=>⟨.ref a,H,I,rfl,L (j.nil_iff.mp z)⟩) (λz=>?_) (by rw[<-B.length,<-j.length];exact F)
 refine⟨.ref s.heap.objs.size,_,I.laid (t':=s.toks) (o:=.tup (xs++ys)) (λb ob q=>hW _ q) (Ku _) ?_,rfl,O (λw=>z (j.nil_iff.mpr w)) _ (I.hok.fresh (Ku _))⟩;exact⟨by rw[D2];exact F,_,B.append j,PU _ _⟩
end
end
variable{n:Nat}{s:p7}{its:List hH}{x:V}
section
noncomputable def ixN(n:Nat)(i:Int):Option Nat:=if 0<=i then(if i<n then Z i.toNat else Y)else if -(n:Int)<=i then Z (i+n).toNat else Y
noncomputable def atI{α:Type}(xs:List α)(i:Int):Option α:=(ixN xs.length i).bind λj=>xs[j]?
theorem qX{i:Int}{j:Nat}(h:ixN n i=Z j):seqIndex? i n=Z j/\j<n /\ -(n:Int)<=i/\i<n:=by
 unfold ixN at h
 by_cases h0:0<=i
 ·rw[if_pos h0]at h
  by_cases h1:i<n
  ·rw[if_pos h1]at h;have e:i.toNat=j:=MN.inj h;exact⟨by rw[Sw h0 h1,e],∅,∅,h1⟩
  ·rw[if_neg h1]at h;cases h
 ·rw[if_neg h0]at h
  by_cases h1:-(n:Int)<=i
  ·rw[if_pos h1]at h;have e:(i+n).toNat=j:=MN.inj h;exact⟨by rw[RW ∅ h1,e],∅,h1,∅⟩
  ·rw[if_neg h1]at h;cases h
theorem kD{α:Type}{xs:List α}{i:Int}{v:α}(h:atI xs i=Z v):∃j,seqIndex? i xs.length=Z j/\xs[j]?=Z v/\j<xs.length /\ -(xs.length:Int)<=i/\i<xs.length:=by
 unfold atI at h
 cases e:ixN xs.length i with
 |none=>rw[e]at h;cases h
 |some j=>rw[e]at h;obtain⟨h1,h2,q,z⟩:=qX e;exact⟨j,h1,h,h2,q,z⟩
def kE(b:Expr):Prop:=∀o i,subscripted b N3 o i=operate [o,i] (R8 o i)
def IxR(X:Cx)(r:R2):Prop:=
 ∀(value slice:Expr) (pins:List (VH×Obj)) (s:p7) (σ:St) (H:Hp) (x y:V) (v u:hH) (Q:VK),Inv X pins σ H s->RelV x v->RelV y u->r x y H Q->
  subscripted slice N3 v u=operate [v,u] (R8 v u)->Kr (model X.prog X.w) X.A (subscriptTail value slice v u) (EP X pins σ Q) X.xe s
def MtR(X:Cx)(id:String)(r:V->List V->Hp->VK->Prop):Prop:=
 ∀(pins:List (VH×Obj)) (s:p7) (σ:St) (H:Hp) (x:V) (xs:List V) (v:hH) (us:List hH) (Q:VK),Inv X pins σ H s->RelV x v->Vals xs us->r x xs H Q->
  Kr (model X.prog X.w) X.A (call (.builtin id) (v::us)) (EP X pins σ Q) X.xe s
section
variable{X:Cx}{a b:Expr}{ta tb:TE}{pos:Pos}
theorem IxR.or{r r':R2}(h:IxR X r)(h':IxR X r'):IxR X (λx y H Q=>r x y H Q∨r' x y H Q):=by
 intro value slice pins s σ H x y v u Q I rx ry q hs
 rcases q with q|q
 ·exact h value slice pins s σ H x y v u Q I rx ry q hs
 ·exact h' value slice pins s σ H x y v u Q I rx ry q hs
theorem Ef{r:R2}(j:IxR X r)(z:PE X a ta)(hb:PE X b tb)(hs:kE b):PE X (.Subscript a b pos) (tOp r ta tb):=by intro pins s σ H Q I h;exact Subscript_ (xu z hb I h λv u s2 x y H2 B rx ry q=>j a b pins s2 σ H2 x y v u Q B rx ry q (hs _ _))
noncomputable def FB(K:Frag):R2:=λx y H Q=>∃p xs i v,x=.ref p/\y=.int i/\SqL K H p xs/\atI xs i=Z v/\Q v H
noncomputable def FC(K:Frag):R2:=λx y H Q=>∃p xs i v,x=.ref p/\y=.int i/\SqT K H p xs/\atI xs i=Z v/\Q v H
theorem ix_list:IxR X (FB X.K):=by
 intro value slice pins s σ H x y v u Q I rx ry h hs;obtain⟨p,xs,i,z,rfl,rfl,F,he,q⟩:=h
 cases rx
 obtain⟨t,rfl⟩:=ry;obtain⟨its,r,pl,L⟩:=I.list F;obtain⟨j,h1,h2,O,G,J⟩:=kD he;obtain⟨w,ew,rw'⟩:=r.get h2;have hl:=r.length;have U:=eW;have fin:EP X pins σ Q w s:=⟨z,H,I,rw',q⟩
 by_cases h0:0<=i
 ·have B:i.toNat=j:=by
   rw[Sw h0 J]at h1;exact MN.inj h1
  exact item_listR pl.isList h0 ∅ (by rw[B];simpa using ew) fin hs
 ·have B:(i+(its.toArray.size:Int)).toNat=j:=by
   rw[RW ∅ G]at h1
   rw[Kq,<-hl];exact MN.inj h1
  exact RX (x:=w) pl.isList.typeIs slot_list_getitem.lookup
   (RY (Q:=λr s'=>r=w/\EP X pins σ Q r s') pl.isList ∅ (by rw[Kq]<;>lia) ∅ (by rw[B];simpa using ew) ⟨rfl,fin⟩) hs
theorem ix_tup:IxR X (FC X.K):=by
 intro value slice pins s σ H x y v u Q I rx ry h hs;obtain⟨p,xs,i,z,rfl,rfl,B,he,q⟩:=h
 cases rx
 obtain⟨t,rfl⟩:=ry;obtain⟨its,r,pl,F⟩:=I.tuple B;obtain⟨j,h1,h2,G,J,L⟩:=kD he;obtain⟨w,ew,rw'⟩:=r.get h2;have hl:=r.length;have O:=eW;have fin:EP X pins σ Q w s:=⟨z,H,I,rw',q⟩;exact RX (x:=w) pl.typeIs slot_tuple_getitem.lookup
  (getItem_tuple (j:=j) (Q:=λr s'=>r=w/\EP X pins σ Q r s') pl ∅ ∅ (by rw[Kq,<-hl];exact h1) (by simpa using ew) ⟨rfl,fin⟩) hs
theorem sR(its:List hH)(n j:Nat)(u:hH):My (·.setIfInBounds j u) {cls:=.type "list",data:=.seq its.toArray n}={cls:=.type "list",data:=.seq (its.set j u).toArray n}:=by simp[My]
theorem Inv.lst{pins:List (VH×Obj)}{σ:St}{H:Hp}{s:p7}{p:VH}{xs:List V}(I:Inv X pins σ H s)(h:H p=Z (.lst xs)):
 ∃(its:List hH) (n:Nat),Vals xs its/\s.heap.get? p=Z {cls:=.type "list",data:=.seq its.toArray n}/\xs.length<=Kn:=by
 obtain⟨z,its,n,r,e⟩:=I.hok p _ h;exact⟨its,n,r,e,z⟩
theorem Inv.lstUpd{pins:List (VH×Obj)}{σ:St}{H:Hp}{p:VH}{xs ys:List V}{its':List hH}{n':Nat}{f:Obj->Obj}(I:Inv X pins σ H s)(h:H p=Z (.lst xs))(ho:s.heap.get? p=Z {cls:=.type "list",data:=.seq its.toArray n})(hf:f {cls:=.type "list",data:=.seq its.toArray n}={cls:=.type "list",data:=.seq its'.toArray n'})(r:Vals ys its')(j:ys.length<=Kn)(t:Nat):
 Inv X pins σ (upd H p (.lst ys)) {s with heap:=s.heap.update p f,toks:=t}:=by
 have e:(s.heap.update p f).get? p=Z {cls:=.type "list",data:=.seq its'.toArray n'}:=by rw[OF f ho (by rw[hf]<;>rfl),hf]
 refine I.write (x:=p) (e:=p) (by rw[h];trivial) (.inl rfl) (λb u hb q=>(Mq _ _ (Ne.symm hb)).trans q) ⟨_,e⟩ ?_
 exact⟨j,its',n',r,e⟩
noncomputable def zE:V->V->V->Hp->(Hp->Prop)->Prop:=λo i v H Q=>∃p xs k j,o=.ref p/\i=.int k/\H p=Z (.lst xs)/\ixN xs.length k=Z j/\Q (upd H p (.lst (xs.set j v)))
theorem og:PSet X zE:=by
 intro pins s σ H o i v ov iv u Q I ro ri rv h;obtain⟨p,xs,k,j,rfl,rfl,B,J,q⟩:=h
 cases ro
 obtain⟨t,rfl⟩:=ri;obtain⟨its,n,r,ho,L⟩:=I.lst B;obtain⟨h1,h2,F,G⟩:=qX J;have hl:=r.length;have O:=eW;have I':Inv X pins σ (upd H p (.lst (xs.set j v))) {s with heap:=s.heap.update p (My (·.setIfInBounds j u))}:=I.lstUpd B ho (sR its n j u) (r.set rv j) (by rw[Ox];exact L) s.toks
 by_cases h0:0<=k
 ·have z:k.toNat=j:=by
   rw[Sw h0 G]at h1;exact MN.inj h1
  exact PySem.W.ki_setAt ho h0 ∅ (by rw[Kq,<-hl];exact G) (by rw[z];exact⟨_,I',q⟩)
 ·have z:(k+(its.toArray.size:Int)).toNat=j:=by
   rw[RW ∅ F]at h1
   rw[Kq,<-hl];exact MN.inj h1
  exact PySem.W.ki_setBack ho ∅ (by rw[Kq,<-hl];exact F) ∅ (by rw[z];exact⟨_,I',q⟩)
theorem oh(lo hi:Option Int)(n:Nat):(Pw lo hi Y n).1=((HT.sIx n 0 lo:Nat):Int)/\(Pw lo hi Y n).2.1=((HT.sIx n n hi:Nat):Int)/\(Pw lo hi Y n).2.2=1:=by
 refine⟨?_,?_,rfl⟩
 ·cases lo with
  |none=>simp[Pw,HT.sIx]
  |some i=>
   simp only[Pw,HT.sIx,U9,show(1:Int) > 0 by decide,if_true]
   by_cases h:i<0
   ·simp only[h,if_true]<;>lia
   ·simp only[h,if_false]<;>lia
 ·cases hi with
  |none=>simp[Pw,HT.sIx]
  |some i=>
   simp only[Pw,HT.sIx,U9,show(1:Int) > 0 by decide,if_true]
   by_cases h:i<0
   ·simp only[h,if_true]<;>lia
   ·simp only[h,if_false]<;>lia
theorem ni(its:List hH)(lo hi:Option Int):slicePick its.toArray lo hi Y=((its.drop (HT.sIx its.length 0 lo)).take (HT.sIx its.length its.length hi-HT.sIx its.length 0 lo)).toArray:=by obtain⟨h1,h2,j⟩:=oh lo hi its.toArray.size;unfold slicePick;rw[h1,h2,j];simp only[sliceRange_one,pick_run,Kq]<;>rfl
noncomputable def FE(K:Frag):V->Option Int->Option Int->Hp->VK->Prop:=λx lo hi H Q=>∃a xs,x=.ref a/\SqL K H a xs/\∀p,H p=Y->Q (.ref p) (upd H p (.lst (fZ xs lo hi)))
theorem sl_list:SlR X (FE X.K):=by
 intro pins s σ H x v vl vu lo hi sl Q I rx hs pl pu h;obtain⟨a,xs,rfl,hx,q⟩:=h
 cases rx
 obtain⟨its,r,j,z⟩:=I.list hx;have hlen:=r.length;refine⟨"list",_,slot_list_getitem.lookup,j.isList.typeIs,?_⟩;refine wpAny_getItem_list_slice j.isList hs pl pu .none (by simp) ?_ (by rw[Kq]<;>lia)
 rw[ni,<-hlen];refine⟨.ref s.heap.objs.size,_,I.laid (t':=s.toks) (o:=.lst (fZ xs lo hi)) (λb ob q=>hW _ q) (Ku _) ?_,rfl,q _ (I.hok.fresh (Ku _))⟩;exact⟨LA (iz xs lo hi) z,_,0,(r.drop (HT.sIx xs.length 0 lo)).take (HT.sIx xs.length xs.length hi-HT.sIx xs.length 0 lo),Kj _ rfl⟩
noncomputable def di:V->Bool
 |.non=>F2
 |.bl _=>F2
 |.int _=>F2
 |.str _=>F2
 |_=>N3
noncomputable def eqV:V->V->Bool
 |.non,.non=>F2
 |.bl a,.bl b=>a==b
 |.bl a,.int b=>(if a then 1 else 0)==b
 |.int a,.bl b=>a==(if b then 1 else 0)
 |.int a,.int b=>a==b
 |.str a,.str b=>a==b
 |_,_=>N3
theorem Cw{A:Lr}{y:V}{u v:hH}(ry:RelV y u)(rx:RelV x v)(fy:di y=F2)(fx:di x=F2):UZ A s u v (eqV y x):=by
 cases y with
 |non=>
  cases ry
  cases x with
  |non=>cases rx;exact SeqAt.EqAt.same _
  |bl b=>cases rx;exact SeqAt.EqAt.none_bool b
  |int b=>obtain⟨t,rfl⟩:=rx;exact SeqAt.EqAt.none_int b t
  |str b=>obtain⟨t,rfl⟩:=rx;exact SeqAt.EqAt.none_str b t
  |_=>exact absurd (show N3=F2 from fx) Kl
 |bl a=>
  cases ry
  cases x with
  |non=>cases rx;exact SeqAt.EqAt.bool_none a
  |bl b=>cases rx;exact SeqAt.EqAt.bool_bool a b
  |int b=>obtain⟨t,rfl⟩:=rx;exact SeqAt.EqAt.bool_int a b t
  |str b=>obtain⟨t,rfl⟩:=rx;exact SeqAt.EqAt.bool_str a b t
  |_=>exact absurd (show N3=F2 from fx) Kl
 |int a=>
  obtain⟨t',rfl⟩:=ry
  cases x with
  |non=>cases rx;exact SeqAt.EqAt.int_none a t'
  |bl b=>cases rx;exact SeqAt.EqAt.int_bool a t' b
  |int b=>obtain⟨t,rfl⟩:=rx;exact Tg a t' b t
  |str b=>obtain⟨t,rfl⟩:=rx;exact Td a t' b t
  |_=>exact absurd (show N3=F2 from fx) Kl
 |str a=>
  obtain⟨t',rfl⟩:=ry
  cases x with
  |non=>cases rx;exact SeqAt.EqAt.str_none a t'
  |bl b=>cases rx;exact SeqAt.EqAt.str_bool a t' b
  |int b=>obtain⟨t,rfl⟩:=rx;exact Te a t' b t
  |str b=>obtain⟨t,rfl⟩:=rx;exact SeqAt.EqAt.str_str a t' b t
  |_=>exact absurd (show N3=F2 from fx) Kl
 |_=>exact absurd (show N3=F2 from fy) Kl
noncomputable def eqU(x:V)(u:hH):Bool:=match u with
 |.none=>eqV .non x
 |.bool b=>eqV (.bl b) x
 |.int i _=>eqV (.int i) x
 |.str z _=>eqV (.str z) x
 |_=>N3
theorem uO{y:V}{u:hH}(r:RelV y u)(f:di y=F2):eqU x u=eqV y x:=by
 cases y with
 |non=>cases r;rfl
 |bl b=>cases r;rfl
 |int i=>obtain⟨t,rfl⟩:=r;rfl
 |str z=>obtain⟨t,rfl⟩:=r;rfl
 |_=>exact absurd (show N3=F2 from f) Kl
theorem kF{x:V}:∀{xs:List V} {us:List hH},Vals xs us->xs.all di=F2->us.any (eqU x)=xs.any λy=>eqV y x
 |_,_,.nil,_=>rfl
 |y::xs,u::us,.cons r t,f=>by rw[OC,q7]at f;rw[MU,MU,uO r f.1,kF t f.2]
theorem iL{A:Lr}{s:p7}{x:V}{v:hH}(rx:RelV x v)(fx:di x=F2):∀{xs:List V} {us:List hH},Vals xs us->xs.all di=F2->∀u∈us,UZ A s u v (eqU x u)
 |_,_,.nil,_=>λu j=>by cases j
 |y::xs,u::us,.cons r t,f=>fun u' j=>by
  rw[OC,q7]at f
  rcases Km.mp j with rfl|j
  ·rw[uO r f.1];exact Cw r rx f.1 fx
  ·exact iL rx fx t f.2 u' j
noncomputable def inV(x:V)(xs:List V):Bool:=xs.any λy=>eqV y x
noncomputable def rIn(K:Frag)(neg:Bool):R2:=λx y H Q=>∃p xs,y=.ref p/\(SqL K H p xs∨SqT K H p xs)/\di x=F2/\xs.all di=F2/\Q (.bl (if neg then !inV x xs else inV x xs)) H
theorem uP:OpR X (Ml .In) (rIn X.K N3):=by
 intro pins s σ H x y v u Q I rx ry h;obtain⟨p,xs,rfl,j,fx,fs,q⟩:=h
 cases ry
 rcases j with j|j
 ·obtain⟨its,r,pl,z⟩:=I.list j;refine SeqAt.in_listAt (eqU x) pl.isList (λw hw=>iL rx fx r fs w (by simpa using hw)) ⟨.bl _,H,I,rfl,?_⟩
  rw[show its.toArray.any (eqU x)=its.any (eqU x) by simp,kF r fs]
  exact q
 ·obtain⟨its,r,pl,z⟩:=I.tuple j;refine SeqAt.in_tupleAt (eqU x) pl (λw hw=>iL rx fx r fs w (by simpa using hw)) ⟨.bl _,H,I,rfl,?_⟩
  rw[show its.toArray.any (eqU x)=its.any (eqU x) by simp,kF r fs]
  exact q
theorem oi:CallR X (.type "list") (λxs H Q=>∃p ys,xs=[.ref p]/\(SqL X.K H p ys∨SqT X.K H p ys)/\∀l,H l=Y->Q (.ref l) (upd H l (.lst ys))):=by
 intro pins s σ H xs us Q I r h;obtain⟨p,ys,rfl,j,q⟩:=h;obtain⟨u,rfl,rx⟩:=dh r
 cases rx
 have fin:∀(its:List hH),Vals ys its->ys.length<=Kn->∀(h':Heap) (c':Nat),(∀b o',s.heap.get? b=Z o'->h'.get? b=Z o')->
  h'.get? s.heap.objs.size=Z {cls:=.type "list",dict:=Y,data:=.seq its.toArray c',slots:=#[]}->EP X pins σ Q (.ref s.heap.objs.size) {s with heap:=h'}:=λits r' z h' c' kp e=>
  ⟨.ref s.heap.objs.size,_,I.laid (t':=s.toks) kp (Ku _) (show ObjOk X.prog X.w _ h' _ (.lst ys)from⟨z,its,c',r',e⟩),rfl,q _ (I.hok.fresh (Ku _))⟩
 rcases j with j|j
 ·obtain⟨its,r',pl,z⟩:=I.list j;have hlen:=r'.length;obtain⟨o,ho,hc,n,hd⟩:=pl.isList;exact call_list_seq p (.inl rfl) ho hc hd (λh' c' kp e=>fin its r' z h' c' kp e) (by simp only[Kq]<;>lia)
 ·obtain⟨its,r',pl,z⟩:=I.tuple j;have hlen:=r'.length;obtain⟨o,ho,hc,n,hd⟩:=pl;exact call_list_seq p (.inr rfl) ho hc hd (λh' c' kp e=>fin its r' z h' c' kp e) (by simp only[Kq]<;>lia)
theorem nj:CallR X (.type "tuple") (λxs H Q=>∃p ys,xs=[.ref p]/\((SqL X.K H p ys/\∀l,H l=Y->Q (.ref l) (upd H l (.tup ys)))∨(SqT X.K H p ys/\Q (.ref p) H))):=by
 intro pins s σ H xs us Q I r h;obtain⟨p,ys,rfl,h⟩:=h;obtain⟨u,rfl,rx⟩:=dh r
 cases rx
 rcases h with⟨j,q⟩|⟨j,q⟩
 ·obtain⟨its,r',pl,z⟩:=I.list j;have hlen:=r'.length;refine call_tuple_list pl.isList (λh' kp=>?_) (by simp only[Kq]<;>lia)
  have B:Inv X pins σ H {s with heap:=h'}:=I.kept (t':=s.toks) kp
  have F:Inv X pins σ (upd H h'.objs.size (.tup ys)) {s with heap:=h'.push {cls:=.type "tuple",data:=.seq its.toArray}}:=B.laid (t':=s.toks) (λb o e=>hW _ e) (Ku _) (show ObjOk X.prog X.w _ _ _ (.tup ys)from⟨z,its,r',PU _ _⟩)
  exact⟨.ref h'.objs.size,_,F,rfl,q _ (B.hok.fresh (Ku _))⟩
 ·obtain⟨its,r',pl,z⟩:=I.tuple j;exact call_tuple_same pl ⟨.ref p,H,I,rfl,q⟩
def tyV(K:Frag)(T:String)(x:V)(H:Hp):Prop:=match x with
 |.str _=>T="str"
 |.int _=>T="int"
 |.ref p=>(T="list"/\∃xs,SqL K H p xs)∨(T="tuple"/\∃o,K.lookup p=Z o/\o.cls=.type "tuple"/\o.dict=Y) ∨
  (T="dict"/\((∃kvs,H p=Z (.dK kvs))∨∃kvs,H p=Z (.dT kvs)))∨(T="set"/\∃S n,H p=Z (.set S n))
 |_=>False
theorem Cy{pins:List (VH×Obj)}{σ:St}{H:Hp}{T:String}{v:hH}(I:Inv X pins σ H s)(r:RelV x v)(ty:tyV X.K T x H):
 s.TypeIs v T/\∀a,v=.ref a->∃ob,s.heap.get? a=Z ob/\ob.dict=Y:=by
 cases x with
 |str z=>
  obtain⟨t,rfl⟩:=r
  cases(show T="str" from ty)
  exact⟨typeIs_str s z t,λ_ e=>nomatch e⟩
 |int i=>
  obtain⟨t,rfl⟩:=r
  cases(show T="int" from ty)
  exact⟨RZ s i t,λ_ e=>nomatch e⟩
 |ref p=>
  cases r
  rcases ty with⟨rfl,xs,q⟩|⟨rfl,o,j,hc,hd⟩|⟨rfl,j⟩|⟨rfl,S,n,j⟩
  ·obtain⟨its,_,pl,_⟩:=I.list q;refine⟨pl.isList.typeIs,λa e=>?_⟩
   cases e
   obtain⟨o,n,e,c,hd,_⟩:=pl;exact⟨o,e,hd⟩
  ·refine⟨⟨o,I.kIn p o j,hc⟩,λa e=>?_⟩
   cases e
   exact⟨o,I.kIn _ o j,hd⟩
  ·have z:∃o,s.heap.get? p=Z o/\o.ExactDict:=by
    rcases j with⟨kvs,j⟩|⟨kvs,j⟩
    ·obtain⟨_,_,_,_,o,_,_,e,ex,_⟩:=I.hok p _ j;exact⟨o,e,ex⟩
    ·obtain⟨_,_,_,_,o,_,_,e,ex,_⟩:=I.hok p _ j;exact⟨o,e,ex⟩
   obtain⟨o,e,ex⟩:=z;refine⟨⟨o,e,ex.1⟩,λa e2=>?_⟩
   cases e2
   exact⟨o,e,ex.2.1⟩
  ·obtain⟨o,_,_,_,e,ex,_⟩:=I.hok p _ j;refine⟨⟨o,e,ex.1⟩,λa e2=>?_⟩
   cases e2
   exact⟨o,e,ex.2.1⟩
 |_=>exact False.elim ty
noncomputable def tBM(K:Frag)(T:String)(r:V->List V->Hp->VK->Prop)(to:TE)(t:TA):TE:=λσ H Q=>to σ H λx H1=>tyV K T x H1/\t σ H1 λxs H2=>r x xs H2 Q
variable{o e:Expr}{es:List Expr}{to:TE}{t:TA}{name:Str}{apos cpos:Pos}{T id:String}{r:V->List V->Hp->VK->Prop}
theorem zF (pa:PlainAttrs T)(slot:Slot T name id)(F:typeOf (.builtin id)=pure (.type "method_descriptor"))(hm:MtR X id r)(ho:PE X o to)(U:PA X (e::es) t)(q:Q6 o name X.env (eval o X.env)=eval o X.env:=by rfl)(B:((P0 cpos (L8 (e::es) X.env)).all (fun x=>!x.1)&&(V1 cpos (Sx [] X.env)).all (fun x=>x.1.isSome)
   && decide ((e::es).length+([]:List Qv).length+(if([]:List Qv).isEmpty then 0 else 1)<30))=F2:=by rfl)(z:(apos.endLine==cpos.line)=F2:=by rfl)(hs:L8 (e::es) X.env=(N3,eval e X.env)::L8 es X.env:=by rfl)(j:(P0 cpos (L8 es X.env)).any (·.1)=N3:=by rfl):
 PE X (.Call (.Attribute o name apos) (e::es) [] cpos) (tBM X.K T r to t):=by
 intro pins s σ H Q I h;refine wpAny_Call_method_late q B z rfl (thn (ho pins s σ H _ I h) λv s1 G=>?_);obtain⟨x,H1,J,L,ty,pv⟩:=G;obtain⟨h1,h2⟩:=Cy J L ty;refine⟨T,id,pa,slot,F,h1,h2,?_⟩;have O:=U cpos pins s1 σ H1 _ J pv;rw[hs]at O⊢;refine Oo (by show(N3 || (P0 cpos (L8 es X.env)).any (·.1))=N3;rw[j]<;>rfl) (Sy ?_)
 exact thn O λus s2 G=>(by obtain⟨vs,H2,fv,r2,q2⟩:=G;exact hm pins s2 σ H2 x vs v us Q fv L r2 q2)
end
end
section
def MtM(X:Cx)(id:String)(r:V->List V->Hp->VK->Prop):Prop:=
 ∀(pins:List (VH×Obj)) (s:p7) (σ:St) (H:Hp) (x:V) (xs:List V) (v:hH) (us:List hH) (Q:VK),Inv X pins σ H s->RelV x v->Vals xs us->r x xs H Q->
  Kr (model X.prog X.w) X.A (call (.builtin id) (v::us)) (EP X pins σ Q) X.xe s
theorem Vals.one:∀{x:V} {us:List hH},Vals [x] us->∃u,us=[u]/\RelV x u
 |_,_,.cons r .nil=>⟨_,rfl,r⟩
theorem Vals.rep{xs:List V}{us:List hH}(h:Vals xs us):∀k:Nat,Vals (Kf k xs).flatten (Kf k us).flatten
 |0=>.nil
 |k+1=>by rw[Mh,Mh,LS,LS];exact Vals.append h (Vals.rep h k)
theorem gc(its:List hH):∀(k:Nat) (acc:List hH),
 PX (λj q=>j++q) acc.toArray (Kf k its.toArray)=(acc++(Kf k its).flatten).toArray
 |0,acc=>by simp
 |k+1,acc=>by
  have e:acc.toArray++its.toArray=(acc++its).toArray:=by simp
  have e2:(acc++its)++(Kf k its).flatten=acc++(Kf (k+1) its).flatten:=by rw[Mh,LS,KD]
  rw[<-e2,<-gc its k (acc++its),<-e,Mh,Se]
section
variable{X:Cx}{pins:List (VH×Obj)}{σ:St}{H:Hp}{s:p7}{l b:VH}{xs ys zs:List V}
theorem Inv.lset{its':List hH}{f:Array hH->Array hH}{t':Nat}(I:Inv X pins σ H s)(j:H l=Z (.lst xs))(e:s.heap.get? l=Z {cls:=.type "list",data:=.seq its.toArray n})(hf:f its.toArray=its'.toArray)(z:Vals ys its')(B:ys.length<=Kn):
 Inv X pins σ (upd H l (.lst ys)) {s with heap:=s.heap.update l (My f),toks:=t'}:=by
 have q:=PySem.IsL.update e f;rw[hf]at q;refine I.write (x:=l) (e:=l) (by rw[j];exact trivial) (.inl rfl) (λb' u hb F=>(Mq s.heap (My f) (Ne.symm hb)).trans F) ⟨_,q⟩ ?_
 exact⟨B,its',_,z,q⟩
theorem Inv.lnew{t':Nat}(I:Inv X pins σ H s)(j:Vals ys its)(z:ys.length<=Kn):
 Inv X pins σ (upd H s.heap.objs.size (.lst ys)) {s with heap:=s.heap.push {cls:=.type "list",data:=.seq its.toArray},toks:=t'}:=
 I.laid (λ_ _ q=>hW _ q) (Ku _) ⟨z,its,0,j,Kj _ rfl⟩
theorem Inv.fresh(I:Inv X pins σ H s):H s.heap.objs.size=Y:=I.hok.fresh (Ku _)
theorem Inv.lstM(I:Inv X pins σ H s)(j:H l=Z (.lst xs)):xs.length<=Kn/\∃(its:List hH) (n:Nat),Vals xs its/\xs.length=its.length/\s.heap.get? l=Z {cls:=.type "list",data:=.seq its.toArray n}:=by obtain⟨z,its,n,r,e⟩:=I.hok l _ j;exact⟨z,its,n,r,r.length,e⟩
theorem oj(h:n<=Kn):O1 n=N3:=by unfold O1;exact decide_eq_false ∅
end
section
variable{X:Cx}
noncomputable def qY:V->List V->Hp->VK->Prop:=λx vs H Q=>∃l xs y,x=.ref l/\vs=[y]/\H l=Z (.lst xs)/\xs.length<Kn/\Q .non (upd H l (.lst (xs++[y])))
theorem lK:MtM X "list.append" qY:=by
 intro pins s σ H x vs v us Q I rx rv h;obtain⟨l,xs,y,rfl,rfl,j,B,q⟩:=h
 cases rx
 obtain⟨u,rfl,ru⟩:=rv.one;obtain⟨z,its,n,r,hl,e⟩:=I.lstM j;refine PY F.slot_list_append ⟨_,e,rfl⟩ F.entry_list_append (F.args_list_append_2 _ _) (PySem.list_append l its.toArray n u (by rw[Kq];lia)) ⟨e,?_⟩
 refine⟨.non,_,I.lset (its':=its++[u]) j e (by simp) (r.append (.cons ru .nil)) ?_,rfl,q⟩
 rw[D2,LJ];lia
noncomputable def FF:R2:=λx y H Q=>∃l b xs zs,x=.ref l/\y=.ref b/\H l=Z (.lst xs)/\H b=Z (.lst zs)/\xs.length+zs.length<=Kn/\∀p,H p=Y->Q (.ref p) (upd H p (.lst (xs++zs)))
theorem op_cat:OpR X (MA .Add) FF:=by
 intro pins s σ H x y v u Q I rx ry h;obtain⟨l,b,xs,zs,rfl,rfl,B,F,L,q⟩:=h
 cases rx
 cases ry
 obtain⟨z,its,n,r,hl,e⟩:=I.lstM B;obtain⟨O,j,U,G,J,e2⟩:=I.lstM F;refine PySem.P.add_list e e2 ?_ (by rw[Kq,Kq];lia)
 have ea:its.toArray++j.toArray=(its++j).toArray:=by simp
 rw[ea];exact⟨.ref _,_,I.lnew (t':=s.toks) (r.append G) (by rw[D2];lia),rfl,q _ I.fresh⟩
noncomputable def FG:R2:=λx y H Q=>∃l k xs,x=.ref l/\y=.int k/\H l=Z (.lst xs) /\ -(2^63)<=k/\k<2^63/\xs.length*k.toNat<=Kn /\
 ∀p,H p=Y->Q (.ref p) (upd H p (.lst (Kf k.toNat xs).flatten))
theorem qZ{α:Type}(xs:List α)(k:Nat):(Kf k xs).flatten.length=k*xs.length:=by
 induction k with
 |zero=>simp
 |succ k ih=>rw[Mh,LS,D2,ih,Mr,Nat.add_comm]
theorem op_rep:OpR X (MA .Mult) FG:=by
 intro pins s σ H x y v u Q I rx ry h;obtain⟨l,k,xs,rfl,rfl,fv,h1,h2,pv,q⟩:=h
 cases rx
 obtain⟨t,rfl⟩:=ry;obtain⟨z,its,n,r,hl,e⟩:=I.lstM fv;have hlen:its.toArray.size*k.toNat<=Kn:=by rw[Kq,<-hl];exact pv
 have B:¬its.toArray.size*k.toNat > (2^63-1) / 8:=by
  have:(Kn:Nat)<=(2^63-1) / 8:=by decide
  lia
 have G:¬(!Builtin.List.listFitsIndex k)=F2:=by rw[fitsIndex_both h1 h2];exact Kl
 have j:¬O1 (its.toArray.size*k.toNat)=F2:=by rw[oj hlen];exact Kl
 have J:PX (λL O=>L++O) #[] (Kf (if its.toArray.isEmpty=F2 then 0 else k.toNat) its.toArray)=(Kf k.toNat its).flatten.toArray:=by
  have f0:∀m:Nat,PX (λL O=>L++O) #[] (Kf m its.toArray)=(Kf m its).flatten.toArray:=λm=>by have:=gc its m [];rw[Qj]at this;exact this
  rw[f0]
  cases its with
  |nil=>simp
  |cons a r'=>rw[if_neg (by simp)]
 refine QX (T:="list") (U:="int") (by decide) ⟨_,e,rfl⟩ (λs'=>RZ s' k t) noFill_list_mul UL Qk repeat_list F.slot_int_index.lookup
  (PY Qk (RZ s k t) Ua (TF _ _) (int___rmul___int_list k t l its.toArray n)
    ⟨e,rfl,⟨_,e,rfl⟩,PY F.slot_list_mul ⟨_,e,rfl⟩ F.entry_list_mul (F.args_list_mul_2 _ _) (AutoListH.list___mul___list_int_3 l its.toArray n k t G B j) ⟨e,?_⟩⟩)
 rw[J];exact⟨.ref _,_,I.lnew (t':=s.toks) (r.rep k.toNat) (by rw[qZ,Nat.mul_comm];exact pv),rfl,q _ I.fresh⟩
end
end
end L2
namespace Att
open PySem PySem.W PySem.Calls PyProof.Rows
theorem jq{P:Params}{h:Heap}:∀(ns:List Int) (vs:List hH),WellAll P h vs (ns.map WData.int)->Pb vs ns:=by
 intro ns
 induction ns with
 |nil=>
  intro vs w;rw[Om]at w
  cases w
  exact .nil
 |cons n ns ih=>
  intro vs w;rw[Ks]at w
  cases w with
  |cons a b=>
   cases a
   exact .cons _ _ (ih _ b)
theorem uQ{l:OpenLaw}{n:Nat}(L:l.most=Z n){P:Params}{h:Heap}{args:List WData}{vals:List hH}(j:l.row.toRowW.claim.pre args=F2)(G:WellAll P h vals args):
 ∃a vs ns,vals=[KZ a]/\args=[WData.list (ns.map WData.int)]/\h.get? a=Z {cls:=.type "list",data:=.seq vs.toArray}/\Pb vs ns/\ns.length<=n:=by
 have J:WShape.hasAll [] args [.list .int]=F2:=(pre_splitW j).1;have hc:l.pre.holds [] {args:=args}=F2:=(pre_splitW j).2;obtain⟨d,r,rfl,h1,h2⟩:=hasAllW_cons J;obtain rfl:=hasAllW_nil h2;obtain⟨xs,rfl,O⟩:=hasW_list h1;obtain⟨ns,rfl⟩:=items_int O;have hlen:ns.length<=n:=by
  unfold OpenLaw.pre at hc;have B:(WTm.not (.lt (.lit (.int (n:Int))) (.len (.arg 0)))).holds [] {args:=[.list (ns.map .int)]}=F2:=by have B:=(holds_andW hc).1;rw[L]at B;exact B
  have F:=condW_of B (w_not (w_lt w_lit (w_len_list (w_arg rfl))));rw[tv]at F;refine Nat.le_of_not_lt λq=>?_;have q':(n:Int)<((ns.length:Nat):Int):=∅
  first
   |(rw[decide_eq_true q']at F;exact absurd F (by decide))
   |(simp at F;lia)
 cases G with
 |cons U pv=>
  cases pv
  cases U with
  |list ho z=>exact⟨_,_,ns,rfl,rfl,ho,jq ns _ z,hlen⟩
theorem uR(l:OpenLaw)(args:List WData):l.row.toRowW.claim.post args (.bool F2) args=F2:=
 postW_of (r:=l.row.toRowW) (X:=(F2==F2))
  (show WShape.has [] (.bool F2) .bool=F2 by first|rfl|decide|simp[WShape.has,WShape.arms,WShape.armsAll])
  (show(WTm.eq .res (.lit (.bool F2))).value [] {args:=args,res:=Z (.bool F2),after:=args}=Z (.bool (F2==F2))from w_eq_bool (w_res rfl) w_lit) rfl
theorem attach_call {l:OpenLaw}{n:Nat}{q:KW}{loose:List Str}{XP:(Str->Option hH)->Heap->Prop}{YP:Lo->Heap->Prop}{d:DefRec}(fv:l.most=Z n)(B:d.params.defaults=[])(call:∀(w:Lo) (s₀ s₁:p7) (mg mb:Str->Option hH) (fa:VH) (o:Obj) (pm cd doc:hH) (a:VH) (vs:List hH) (ns:List Int),
   Ground q loose [] XP w s₀ mg mb s₁.heap->YP w s₁.heap->
   s₁.heap.get? fa=Z o->o.data=.func (docDef d.name d.params d.body d.scope pm cd doc)->s₁.heap.CodeRec cd d.name->mg d.name=Z (.ref fa)->
   s₁.heap.get? a=Z {cls:=.type "list",data:=.seq vs.toArray}->Pb vs ns->ns.length<=n->s₁.gens=#[]->
   OT (model l.prog w) SQ (.call (.ref fa) ⟨[.ref a],[]⟩) (λr s'=>r=.ok (.ret (.bool F2))/\OldK s₁.heap s'.heap/\s'.os=s₁.os/\R6 s'.gens) s₁):
 WalkO q loose XP YP l.row.toRowW d [] (λf vs=>V2 f vs):=by
 intro w s₀ s₁ mg mb G pv fa o pm cd doc dV kV ho hd F O J hg args vals as j U HY L HZ;obtain rfl:dV=.none:=Dflts.none O B;obtain rfl:kV=.none:=Dflts.noKw O;obtain⟨a,vs,ns,rfl,rfl,z,hints,hlen⟩:=uQ fv j L;refine enter_call (OU (call w s₀ s₁ mg mb fa o pm cd doc a vs ns G pv ho (fd_plain hd) F J z hints hlen hg) λr s' hq=>?_);obtain⟨rfl,h2,h3,h4⟩:=hq;exact⟨.inl ⟨.bool F2,.bool F2,[],rfl,λ_=>rfl,.bool F2,uR l _,λ_=>⟨Ra,λ_ hm=>(nomatch hm)⟩⟩,h2,h3,h4⟩
section
variable{prog:KW}{w:Lo}{A:Lr}{E:hH->p7->Prop}{s:p7}{K:Frag}
noncomputable def GM(h:Heap)(L d:VH):List (VH×Obj):=(D1 h.objs.size).filterMap λa=>if a=L∨a=d then Y else(h.get? a).map λo=>(a,o)
end
end Att
namespace L2
open PySem PySem.Spec PyProof.Rows
variable{fd:OM}{x:Str}
section
theorem lL:∀{vs:List hH} {ns:List Int},Pb vs ns->Vals (ns.map V.int) vs
 |_,_,.nil=>.nil
 |_,_,.cons n t h=>.cons ⟨t,rfl⟩ (lL h)
def sU(H:Hp):Prop:=∀b,H b=Y∨∃o xs,H b=Z (.frz o (.lst xs))
theorem xG{P:KW}{w:Lo}{K:Frag}{mg mb:Str->Option hH}{CX:CXT}{k:Nat}{fa a:VH}{sp:Sp}{s₁:p7}{vs:List hH}{ns:List Int}(KX:K.In s₁.heap)(B:s₁.heap.Ns Mf mg)(hb:s₁.heap.Ns US mb)(U:∀x:Str,x≠"__name__"->mb x=Og x)(G:s₁.heap.NoLimit)(hg:s₁.gens=#[])(O:s₁.heap.get? a=Z {cls:=.type "list",data:=.seq vs.toArray})(hi:Pb vs ns)(hl:ns.length<=Kn)(hr:Room k SQ)(F:∀base:Heap,K.In base->base.Ns Mf mg->dN P w K mg base CX k fa fd [x] sp)(j:∀(s:p7) (u:hH),Tx s fd ⟨[u],[]⟩ [(x,u)])(pv:∀H:Hp,sU H->SqL K H a (ns.map V.int)->sp [.ref a] H (λv _=>v=.bl F2) λ_ _ _=>False)(fv:∀H e s',CX [] H s₁ (λ_ _ _=>False) e s'->False):
 OT (model P w) SQ (.call (.ref fa) ⟨[.ref a],[]⟩) (λr s'=>r=.ok (.ret (.bool F2))/\OldK s₁.heap s'.heap/\s'.os=s₁.os/\R6 s'.gens) s₁:=by
 have rv:=lL hi;have lenV:=hi.length;have core:∀H:Hp,sU H->SqL K H a (ns.map V.int)->HOk P w H s₁.heap->(∀b,H b≠Y->b=a)->(H a≠Y->K.lookup a=Y)->
  OT (model P w) SQ (.call (.ref fa) ⟨[.ref a],[]⟩) (λr s'=>r=.ok (.ret (.bool F2))/\OldK s₁.heap s'.heap/\s'.os=s₁.os/\R6 s'.gens) s₁:=by
  intro H hO hS hok hA hK;have base_of:∀{b:VH} {o:Obj},s₁.heap.get? b=Z o->H b=Y->(fq s₁.heap H).get? b=Z o:=λe n=>xm e n;have noA:∀{b:VH} {o:Obj} {es:Array Ly} {ep:Nat},s₁.heap.get? b=Z o->o.data=.dict es ep->H b=Y:=λ{b o es ep} e d=>by
   cases q:H b with
   |none=>rfl
   |some u=>
    have e':b=a:=hA b (by rw[q];simp)
    subst e';rw[O]at e;cases e;have d':Oc vs.toArray _=Data.dict es ep:=d
    cases d'
  have nsK:∀{b:VH} {m:Str->Option hH},s₁.heap.Ns b m->(fq s₁.heap H).Ns b m:=λ{b m} g9=>(by obtain⟨o,es,ep,e,d,r⟩:=g9;exact⟨o,es,ep,base_of e (noA e d),d,r⟩)
  have J:K.In (fq s₁.heap H):=λb o e=>base_of (KX b o e) (by
   cases q:H b with
   |none=>rfl
   |some u=>
    have e':b=a:=hA b (by rw[q];simp)
    subst e';rw[hK (by rw[q];simp)]at e;cases e)
  have hM:Mod K mg (fq s₁.heap H):=⟨J,nsK B,⟨mb,nsK hb,U⟩,let⟨mc,h1,h2⟩:=G; ⟨mc,nsK h1,h2⟩⟩;have e0:sM P w K mg (fq s₁.heap H) SQ [] s₁ H:=⟨rfl,hM,λb o e=>A6 e,Nat.le_of_eq (uw _ _),trivial,λb hb=>absurd (show b∈([]:List VH)from hb) (by simp),hok,.of_eq hg⟩
  refine OU ((F _ J (nsK B)).run SQ [] s₁ H ⟨[.ref a],[]⟩ [.ref a] [.ref a] _ _ hr e0 (j s₁ (.ref a)) (.cons rfl .nil) (pv H hO hS)) λr s' h=>?_
  cases r with
  |error e=>exact(fv H e s' h).elim
  |ok fl=>
   cases fl with
   |next=>exact False.elim h
   |brk=>exact False.elim h
   |cont=>exact False.elim h
   |ret u=>
    obtain⟨v,H',os,bare,un,L,r',q⟩:=h;have q':v=.bl F2:=q;subst q';obtain rfl:u=RT F2:=r';refine⟨rfl,OldK.of_keep λb o e=>?_,os,bare⟩
    cases q:H b with
    |none=>exact un.keep b o e q (by intro z;exact absurd (show b∈([]:List VH)from z) (by simp)) (by simp)
    |some u=>
     rcases hO b with z|⟨ob,xs,z⟩
     ·rw[q]at z;cases z
     ·have z2:=un.frzs b ob _ z;obtain⟨e1,_⟩:=hok b _ z;obtain⟨e2,_⟩:=L b _ z2;rw[e]at e1;cases e1;exact e2
 cases hk:K.lookup a with
 |some o=>
  have e:=KX a o hk;rw[O]at e
  cases e
  refine core (λ_=>Y) (λ_=>.inl rfl) (.inr ⟨_,vs.toArray,_,hk,rfl,rfl,rfl,by rw[Kq,lenV];exact hl,by simpa using rv⟩) (λb u z=>by have z':(Y:Option HO)=Z u:=z;cases z') (λb z=>absurd rfl z) λz=>absurd rfl z
 |none=>
  refine core (λb=>if b=a then Z (.frz {cls:=.type "list",data:=.seq vs.toArray} (.lst (ns.map V.int)))else Y) (λb=>?_) (.inl (.inr ⟨{cls:=.type "list",data:=.seq vs.toArray},if_pos rfl⟩)) (λb u z=>?_) (λb z=>?_) λ_=>hk
  ·by_cases hb:b=a
   ·exact .inr ⟨_,_,if_pos hb⟩
   ·exact .inl (if_neg hb)
  ·by_cases hb:b=a
   ·have z':=(if_pos hb).symm.trans z
    cases z'
    subst hb;exact⟨O,by rw[tv];exact hl,vs,_,rv,O⟩
   ·have z':=(if_neg hb).symm.trans z
    cases z'
  ·by_cases hb:b=a
   ·exact hb
   ·exact absurd (if_neg hb) z
end
section
theorem walk_of {l:Sf}{n k:Nat}{q:KW}{loose:List Str}{XP:(Str->Option hH)->Heap->Prop}{YP:Lo->Heap->Prop}{d:DefRec}{K:Params->Frag}{CX:Lo->CXT}{sp:Lo->Sp}(U:l.most=Z n)(z:n<=Kn)(B:d.params.defaults=[])(fv:Room k SQ)(hY:∀(w:Lo) (h:Heap),YP w h->(K w.params).In h)(F:∀(w:Lo) (mg:Str->Option hH) (fa:VH) (h:Heap),(K w.params).In h->h.Ns Mf mg->mg d.name=Z (.ref fa)->
   ∃fd:OM,(∀(s:p7) (u:hH),Tx s fd ⟨[u],[]⟩ [(x,u)]) /\
    ∀base:Heap,(K w.params).In base->base.Ns Mf mg->dN l.prog w (K w.params) mg base (CX w) k fa fd [x] (sp w))(J:∀(w:Lo) (H:Hp) (a:VH) (ns:List Int),ns.length<=n->sU H->SqL (K w.params) H a (ns.map V.int)->sp w [.ref a] H (λv _=>v=.bl F2) λ_ _ _=>False)(L:∀(w:Lo) (H:Hp) (s:p7) (e:hH) (s':p7),CX w [] H s (λ_ _ _=>False) e s'->False):
 PySem.W.WalkO q loose XP YP l.row.toRowW d [] (λf vs=>V2 f vs):=by
 refine Att.attach_call U B λw s₀ s₁ mg mb fa o pm cd doc a vs ns G pv ho hd HY O j hints hlen hg=>?_;have KX:=hY w _ pv;obtain⟨fd,hb,hF⟩:=F w mg fa _ KX G.T.g O;exact xG KX G.T.g G.T.b G.T.builtins G.T.nolimit hg j hints (LA hlen z) fv hF hb (λH hO hS=>J w H a ns hlen hO hS) λH e s'=>L w H s₁ e s'
end
variable{qual:Str}{st:Stmt}{f:VH}
section
noncomputable def dA(s:Stmt):Arguments:=match s with
 |.FunctionDef _ a _ _ _ _ _ _ _ _=>a
 |_=>{posonlyargs:=[],args:=[],vararg:=Y,kwonlyargs:=[],kw_defaults:=[],kwarg:=Y,defaults:=[]}
noncomputable def bY(s:Stmt):List Stmt:=match s with
 |.FunctionDef _ _ b _ _ _ _ _ _ _=>b
 |_=>[]
noncomputable def aC(s:Stmt):Scope:=match s with
 |.FunctionDef _ _ _ _ _ _ sc _ _ _=>sc
 |_=>{kind:=.function,names:=[],isGenerator:=N3,isCoroutine:=N3}
noncomputable abbrev CX0:CXT:=λ_ _ _ _ _ _=>False
noncomputable abbrev E0:XK:=λ_ _ _=>False
theorem zG{X:Cx}:jm CX0 X E0:=λ_ _ _ _ _ _ _ h=>h.elim
structure Fun(K:Frag)(x qual:Str)(st:Stmt)(f:VH)(fd:OM):Prop where
 ex:∃(oc:hH) (od:Option VH) (kV doc pm:hH) (an:Option VH) (cdv ct:hH) (osl:Array (Option hH)),
  fd=Oj x qual (dA st) (bY st) (aC st) .none kV doc pm an cdv ct/\K.lookup f=Z ⟨oc,od,.func fd,osl⟩/\QH K cdv qual=F2
 kp:ON K (.ref f)=F2
section
variable{P:KW}{w:Lo}{K:Frag}{mg:Str->Option hH}{base:Heap}
theorem Fun.ok {N ps:List Str}{k:Nat}{sp:Sp}(F:Fun K x qual st f fd)(S:gR N ps (aC st))(len:∀vs H Q E,sp vs H Q E->vs.length=ps.length)(j:∀(cdv:hH) (A:Lr) (outer:List Env) (s:p7) (H:Hp) (vs:List V) (Q:VK) (E:XK),Room k (A.deeper (Su qual (aC st) s.heap.objs.size f cdv))->sp vs H Q E->
   ∃t,PSs (iK CX0 P w K mg base N qual (aC st) f cdv A outer s H E).nox (bY st) t/\t {nx:=λ_ H'=>Q .non H',rt:=Q} (cP N vs) H):dN P w K mg base CX0 (k+1) f fd ps sp:=by
 obtain⟨oc,od,kV,doc,pm,an,cdv,ct,osl,rfl,lk,z⟩:=F.ex;refine Ed lk z S len λA outer s H vs Q E G B=>?_;obtain⟨t,h,q⟩:=j cdv A outer s H vs Q E G B;exact⟨t,h.nox,q⟩
theorem Fun.binds{ps:List Str}(F:Fun K x qual st f fd)(h:∀(kV doc pm:hH) (an:Option VH) (cdv ct:hH) (us:List hH),us.length=ps.length->bindArgs (Oj x qual (dA st) (bY st) (aC st) .none kV doc pm an cdv ct) ⟨us,[]⟩=pure (ps.zip us)):Binds K fd ps []:=by obtain⟨oc,od,kV,doc,pm,an,cdv,ct,osl,rfl,lk,j⟩:=F.ex;exact .all (h kV doc pm an cdv ct)
theorem ah{oc:hH}{od an:Option VH}{osl:Array (Option hH)}{kV doc pm cdv ct:hH}(l:K.lookup f=Z ⟨oc,od,.func (Oj x qual (dA st) (bY st) (aC st) .none kV doc pm an cdv ct),osl⟩)(c:QH K cdv qual=F2)(k:ON K (.ref f)=F2):Fun K x qual st f (Oj x qual (dA st) (bY st) (aC st) .none kV doc pm an cdv ct):=⟨⟨oc,od,kV,doc,pm,an,cdv,ct,osl,rfl,l,c⟩,k⟩
end
end
end L2
namespace HT
open PySem PySem.Spec PyProof.Rows
section
variable{prog:KW}{w:Lo}{A:Lr}{E:hH->p7->Prop}{s:p7}
theorem getItem_tuple_whole{t sl:VH}{items:Array hH}{vl vu:hH}{lo hi:Option Int}{Q:hH->p7->Prop}(j:Uy s.heap t items)(hs:s.heap.IsSliceOf sl vl vu .none)(pl:RV vl lo)(pu:RV vu hi)(hw:sIx items.size 0 lo=0/\sIx items.size items.size hi=items.size)(h:Q (.ref t) s):Kr (model prog w) A (R8 (.ref t) (.ref sl)) Q E s:=by
 obtain⟨os,q,z,G⟩:=id hs;have B:s.TypeIs (.ref sl) "slice":=⟨os,q,z⟩;unfold R8
 try with_reducible refine LN ?_
 first|refine gV (D0 ?_)|skip
 refine gV (TB j.typeIs (by decide) ?_)
 refine gV (La (name:=LI "__getitem__") j.typeIs N1
  (Le N1 j.typeIs SV ?_ (Th _ _)))
 show Kr _ _ (QL (.ref t)>>=_) _ _ s;refine gV (tupleItemsOf_ j ?_);refine gV (Ol B ?_);rw[if_pos (by decide)]
 refine gV (dO hs pl pu ?_);have F:(((sIx items.size 0 lo:Nat):Int)==0&&(1:Int)==1&&(sIx items.size items.size hi-sIx items.size 0 lo)==items.size)=F2:=by rw[hw.1,hw.2];simp
 show Kr _ _ (if(((sIx items.size 0 lo:Nat):Int)==0&&(1:Int)==1&&(sIx items.size items.size hi-sIx items.size 0 lo)==items.size)=F2 then _ else _) _ _ s
 rw[if_pos F];refine gV (m:=QM (.ref t)) ?_;unfold QM;refine gV (Ol j.typeIs (D0 ?_));show Kr _ _ (if F2=F2 then _ else _) _ _ s
 rw[if_pos rfl];exact gV (MW (D0 ⟨_,rfl,D0 h⟩))
end
end HT
namespace L2
open PySem PySem.Spec PyProof.Rows
section
section
variable{X:Cx}
noncomputable def FH(K:Frag):V->Option Int->Option Int->Hp->VK->Prop:=λx lo hi H Q=>∃a xs,x=.ref a/\SqT K H a xs/\(HT.sIx xs.length 0 lo=0/\HT.sIx xs.length xs.length hi=xs.length)/\Q x H
theorem xH:SlR X (FH X.K):=by
 intro pins s σ H x v vl vu lo hi sl Q I rx hs pl pu h;obtain⟨a,xs,rfl,hx,hw,q⟩:=h
 cases rx
 obtain⟨its,r,j,z⟩:=I.tuple hx;have hlen:=r.length;refine⟨"tuple",_,slot_tuple_getitem.lookup,j.typeIs,?_⟩;refine HT.getItem_tuple_whole j hs pl pu (by rw[Kq,<-hlen];exact hw) ⟨.ref a,H,I,rfl,q⟩
end
end
variable{u:hH}{y:V}{P:KW}{w:Lo}{H H':Hp}{kvs:List (List Key×V)}{xs:List (List Key×VH×hH)}{b a:VH}{h':Heap}{t':Nat}{X:Cx}{pins:List (VH×Obj)}{σ:St}{s:p7}
section
section
variable{κ:Type}[DecidableEq κ]
noncomputable def bU(kvs:List (κ×V))(k:κ):Option V:=(kvs.find? λkv=>decide (kv.1=k)).map (·.2)
noncomputable def cc(kvs:List (κ×V))(k:κ)(v:V):List (κ×V):=if(kvs.any λkv=>decide (kv.1=k))=F2 then kvs.map (λkv=>if kv.1=k then(kv.1,v)else kv)else kvs++[(k,v)]
theorem fw{p:κ×V}{r:List (κ×V)}{k:κ}(e:p.1=k):bU (p::r) k=Z p.2:=by simp[bU,Mn,e]
theorem fA{p:κ×V}{r:List (κ×V)}{k:κ}(e:¬p.1=k):bU (p::r) k=bU r k:=by simp[bU,Mn,e]
theorem oo(k:κ):∀kvs:List (κ×V),(kvs.any λkv=>decide (kv.1=k))=(bU kvs k).isSome
 |[]=>rfl
 |p::r=>by
  rw[MU]
  by_cases e:p.1=k
  ·simp only[fw e,decide_eq_true e,Bool.true_or,Ti]
  ·rw[fA e,decide_eq_false e,Q7];exact oo k r
theorem iA(kvs:List (κ×V))(k:κ)(v:V):(cc kvs k v).length<=kvs.length+1:=by
 unfold cc
 split
 ·rw[tv];lia
 ·rw[D2,L4,Mb];lia
theorem RelO.isSome_eq{o:Option V}{u:Option hH}(r:RelO o u):o.isSome=u.isSome:=by
 cases o with
 | none=>cases u with
   |none=>rfl
   |some _=>exact(show False from r).elim
 | some _=>cases u with
   |none=>exact(show False from r).elim
   |some _=>rfl
theorem RelO.getD{o:Option V}{u:Option hH}{d:V}{d':hH}(r:RelO o u)(rd:RelV d d'):RelV (o.getD d) (u.getD d'):=by
 cases o with
 | none=>cases u with
   |none=>exact rd
   |some _=>exact(show False from r).elim
 | some _=>cases u with
   |none=>exact(show False from r).elim
   |some _=>exact r
theorem KV.val{kvs:List (κ×V)}{vs:List (κ×hH)}(r:KV kvs vs)(k:κ):RelO (bU kvs k) (SR vs k):=by
 unfold KV at r
 induction r with
 |nil=>exact Oh
 |@cons p q ps qs h t ih=>
  obtain⟨h1,h2⟩:=h
  by_cases e:p.1=k
  ·have e':q.1=k:=h1.symm.trans e;have b:SR (q::qs) k=Z q.2:=by simp[SR,Mn,e']
   rw[fw e,b];exact h2
  ·have e':¬q.1=k:=λz=>e (h1.trans z);have b:SR (q::qs) k=SR qs k:=by simp[SR,Mn,e']
   rw[fA e,b];exact ih
theorem KV.any{kvs:List (κ×V)}{vs:List (κ×hH)}(r:KV kvs vs)(k:κ):(kvs.any λkv=>decide (kv.1=k))=vs.any λkv=>decide (kv.1=k):=by
 unfold KV at r
 induction r with
 |nil=>rfl
 |cons h t ih=>rw[MU,MU,ih,h.1]
theorem KV.repl{kvs:List (κ×V)}{vs:List (κ×hH)}(r:KV kvs vs)(k:κ)(ry:RelV y u):
 KV (kvs.map λkv=>if kv.1=k then(kv.1,y)else kv) (vs.map λkv=>if kv.1=k then(kv.1,u)else kv):=by
 unfold KV at r⊢
 induction r with
 |nil=>exact .nil
 |@cons p q ps qs h t ih=>
  rw[Ks,Ks];refine .cons ?_ ih;obtain⟨h1,h2⟩:=h
  by_cases e:p.1=k
  ·rw[if_pos e,if_pos (h1.symm.trans e)];exact⟨h1,ry⟩
  ·rw[if_neg e,if_neg (λz=>e (h1.trans z))];exact⟨h1,h2⟩
theorem KV.put{kvs:List (κ×V)}{vs:List (κ×hH)}(r:KV kvs vs)(k:κ)(ry:RelV y u):KV (cc kvs k y) (stored vs k u):=by
 unfold cc stored;rw[r.any k]
 by_cases e:(vs.any λkv=>decide (kv.1=k))=F2
 ·rw[if_pos e,if_pos e];exact r.repl k ry
 ·rw[if_neg e,if_neg e];exact Paired.snoc r ⟨rfl,ry⟩
theorem KV.length{kvs:List (κ×V)}{vs:List (κ×hH)}(r:KV kvs vs):kvs.length=vs.length:=P1 r
end
theorem jr{k:Key}(r:RelV (kV k) u):(aR P w).is k u=F2:=by
 cases k with
 |inl i=>obtain⟨t,e⟩:=(show ∃t,u=U5 i t from r);subst e;exact qH P w i t
 |inr x=>obtain⟨t,e⟩:=(show ∃t,u=U6 x t from r);subst e;exact qI P w x t
theorem lM{P:KW}{w:Lo}:∀{ks:List Key} {us:List hH},Vals (ks.map kV) us->ItemsAre (aR P w) ks us
 |[],_,r=>by rw[Om]at r;cases r;exact .nil
 |k::ks,_,r=>by
  rw[Ks]at r
  cases r with
  |cons h t=>exact .cons (jr h) (lM t)
noncomputable abbrev KT(H:Hp):List (List Key×V)->List (List Key×VH×hH)->Prop:=LP λp q=>p.1=q.1/\H q.2.1=Z (.tup (p.1.map kV))/\RelV p.2 q.2.2
theorem KT.val(r:KT H kvs xs)(k:List Key):RelO (bU kvs k) ((Uz xs k).map (·.2)):=by
 induction r with
 |nil=>exact Oh
 |@cons p q ps qs h t ih=>
  obtain⟨h1,_,h2⟩:=h
  by_cases e:p.1=k
  ·have e':q.1=k:=h1.symm.trans e;have b:Uz (q::qs) k=Z q.2:=by simp[Uz,Mn,e']
   rw[fw e,b];exact h2
  ·have e':¬q.1=k:=λz=>e (h1.trans z);have b:Uz (q::qs) k=Uz qs k:=by simp[Uz,Mn,e']
   rw[fA e,b];exact ih
theorem KT.repl(r:KT H kvs xs)(k:List Key)(ry:RelV y u):
 KT H (kvs.map λkv=>if kv.1=k then(kv.1,y)else kv) (xs.map (putAt k u)):=by
 induction r with
 |nil=>exact .nil
 |@cons p q ps qs h t ih=>
  rw[Ks,Ks];refine .cons ?_ ih;obtain⟨h1,h2,j⟩:=h;unfold putAt
  by_cases e:p.1=k
  ·rw[if_pos e,if_pos (h1.symm.trans e)];exact⟨h1,h2,ry⟩
  ·rw[if_neg e,if_neg (λz=>e (h1.trans z))];exact⟨h1,h2,j⟩
theorem KT.put(r:KT H kvs xs)(k:List Key)(hb:H b=Z (.tup (k.map kV)))(ry:RelV y u):
 KT H (cc kvs k y) (storedH xs k b u):=by
 have e:(kvs.any λkv=>decide (kv.1=k))=(Uz xs k).isSome:=by rw[oo,(r.val k).isSome_eq,TH]
 unfold cc storedH;rw[e]
 by_cases q:(Uz xs k).isSome=F2
 ·rw[if_pos q,if_pos q];exact r.repl k ry
 ·rw[if_neg q,if_neg q];exact Paired.snoc r ⟨rfl,hb,ry⟩
theorem KT.keeps(r:KT H kvs xs)(j:∀b ys,H b=Z (.tup ys)->H' b=Z (.tup ys)):KT H' kvs xs:=Vq r λ_ _ z=>⟨z.1,j _ _ z.2.1,z.2.2⟩
section
variable{P:KW}{w:Lo}{H:Hp}{h:Heap}{a:VH}
theorem zH{u:HO}(ok:HOk P w H h)(e:Rd H a u):ObjOk P w H h a u:=e.ok ok
theorem jt{kvs:List (Key×V)}(ok:HOk P w H h)(e:Rd H a (.dK kvs)):kvs.length<=Kn/\(a==Mv)=N3/\∃vs,KV kvs vs/\h.DictOf (aR P w) a vs:=show ObjOk P w H h a (.dK kvs)from zH ok e
theorem Eg{kvs:List (Key×V)}(ok:HOk P w H h)(e:H a=Z (.dK kvs)):kvs.length<=Kn/\(a==Mv)=N3/\∃vs,KV kvs vs/\h.DictOf (aR P w) a vs:=jt ok (.inl e)
theorem gf{ks:List Key}(ok:HOk P w H h)(e:H a=Z (.tup (ks.map kV))):(QE (aR P w)).is h ks a:=by obtain⟨_,its,r,o,h1,h2,n,j⟩:=(show ObjOk P w H h a (.tup (ks.map kV))from ok a _ e);exact⟨o,its.toArray,n,h1,h2,j,by simpa using lM r⟩
theorem ju(ok:HOk P w H h)(e:Rd H a (.dT kvs)):kvs.length<=Kn/\(a==Mv)=N3 /\
 ∃xs,KT H kvs xs/\h.DictOfH (QE (aR P w)) a xs:=by
 obtain⟨z,y,xs,r,o,es,ep,h1,h2,j,B,F⟩:=(show ObjOk P w H h a (.dT kvs)from zH ok e);refine⟨z,y,xs,r,o,es,ep,h1,h2,j,B,λx hx=>?_,F⟩;have all:∀{l:List (List Key×V)} {m:List (List Key×VH×hH)},KT H l m->∀x∈m,(QE (aR P w)).is h x.1 x.2.1:=by
  intro l m q
  induction q with
  |nil=>intro x hx;exact nomatch hx
  |@cons p q ps qs hq t ih=>
   intro x hx
   rcases Km.mp hx with e|hx
   ·subst e;exact gf ok (by rw[<-hq.1];exact hq.2.1)
   ·exact ih x hx
 exact all r x hx
theorem Eh(ok:HOk P w H h)(e:H a=Z (.dT kvs)):kvs.length<=Kn/\(a==Mv)=N3 /\
 ∃xs,KT H kvs xs/\h.DictOfH (QE (aR P w)) a xs:=ju ok (.inl e)
end
def DGet(H:Hp)(a:VH)(y:V)(r:Option V):Prop:=(∃kvs k,Rd H a (.dK kvs)/\y=kV k/\r=bU kvs k)∨∃kvs k b,Rd H a (.dT kvs)/\y=.ref b/\H b=Z (.tup (k.map kV))/\r=bU kvs k
def DPut(H:Hp)(a:VH)(y v:V)(H':Hp):Prop:=
 (∃kvs k,H a=Z (.dK kvs)/\y=kV k/\kvs.length<Kn/\H'=upd H a (.dK (cc kvs k v))) ∨
 ∃kvs k b,H a=Z (.dT kvs)/\y=.ref b/\H b=Z (.tup (k.map kV))/\kvs.length<Kn/\H'=upd H a (.dT (cc kvs k v))
theorem DGet.k{kvs:List (Key×V)}{k:Key}(e:H a=Z (.dK kvs)):DGet H a (kV k) (bU kvs k):=.inl ⟨kvs,k,.inl e,rfl,rfl⟩
theorem DPut.k{kvs:List (Key×V)}{k:Key}{v:V}(e:H a=Z (.dK kvs))(hl:kvs.length<Kn):DPut H a (kV k) v (upd H a (.dK (cc kvs k v))):=.inl ⟨kvs,k,e,rfl,hl,rfl⟩
theorem DPut.t{k:List Key}{v:V}(e:H a=Z (.dT kvs))(eb:H b=Z (.tup (k.map kV)))(hl:kvs.length<Kn):DPut H a (.ref b) v (upd H a (.dT (cc kvs k v))):=.inr ⟨kvs,k,b,e,rfl,eb,hl,rfl⟩
section
variable{X:Cx}{pins:List (VH×Obj)}{σ:St}{H:Hp}{s:p7}{a:VH}{y v:V}{u r:hH}{o:Option V}{A:Lr}{E:hH->p7->Prop}
theorem Inv.big(I:Inv X pins σ H s):Mv<s.heap.objs.size:=by have h:Mf<s.heap.objs.size:=(I.mod.glob.keeps I.bk).lt;exact Nat.lt_trans (by decide) h
theorem uS{Q:hH->p7->Prop}(q:A.units+1<NA)(I:Inv X pins σ H s)(g:DGet H a y (Z v))(ry:RelV y u)(h:∀w' s',Inv X pins σ H s'->RelV v w'->Q w' s'):
 Kr (model X.prog X.w) A (R8 (.ref a) u) Q E s:=by
 rcases g with⟨kvs,k,e,ey,l⟩|⟨kvs,k,b,e,ey,eb,l⟩
 ·subst ey;obtain⟨z,hd,vs,rel,dd⟩:=jt I.hok e;obtain⟨w',hw,rw'⟩:=Vz (v:=v) (o:=SR vs k) (by rw[l];exact rel.val k)
  exact wpAny_getItem_of (jr ry) dd.mapOf hw (h w' _ (I.tok _) rw')
 ·subst ey
  cases(show u=KZ b from ry)
  obtain⟨z,hd,xs,rel,dd⟩:=ju I.hok e;obtain⟨w',hw,rw'⟩:=Vz (v:=v) (o:=(Uz xs k).map (·.2)) (by rw[l];exact rel.val k)
  obtain⟨p,B,j⟩:=Option.map_eq_some_iff.mp hw;refine wpAny_getItem_heap (Pg q) (gf I.hok eb) dd B ?_;rw[j];exact h w' _ (I.tok _) rw'
theorem Ap{Q:hH->p7->Prop}(j:A.units+1<NA)(I:Inv X pins σ H s)(g:DGet H a y o)(ry:RelV y u)(h:∀s',Inv X pins σ H s'->Q (.bool (!o.isSome)) s'):
 Kr (model X.prog X.w) A (Ml .NotIn u (.ref a)) Q E s:=by
 rcases g with⟨kvs,k,e,ey,l⟩|⟨kvs,k,b,e,ey,eb,l⟩
 ·subst ey;obtain⟨z,hd,vs,rel,dd⟩:=jt I.hok e;refine wpAny_notIn_of (jr ry) hd dd.mapOf ?_;rw[<-(rel.val k).isSome_eq,<-l];exact h _ (I.tok _)
 ·subst ey
  cases(show u=KZ b from ry)
  obtain⟨z,hd,xs,rel,dd⟩:=ju I.hok e;refine wpAny_notIn_heap (Pg j) (gf I.hok eb) hd dd ?_;have q:=(rel.val k).isSome_eq;rw[TH]at q;rw[<-q,<-l];exact h _ (I.tok _)
theorem r6{ob:HO}(I:Inv X pins σ H s)(mu:Mut (H a))(hs:Mo a s.heap h')(he:∃q,h'.get? a=Z q)(new:ObjOk X.prog X.w (upd H a ob) h' a ob):
 Inv X pins σ (upd H a ob) {s with heap:=h',toks:=t'}:=
 I.write (x:=a) (e:=a) mu (.inl rfl) (λb q hb z=>(hs.2 b hb).trans z) he new
theorem Cz{kvs:List (Key×V)}{vs:List (Key×hH)}(z:kvs.length<=Kn)(hd:(a==Mv)=N3)(rel:KV kvs vs)(dd:h'.DictOf (aR P w) a vs):ObjOk P w H' h' a (.dK kvs):=⟨z,hd,vs,rel,dd⟩
theorem uT{Q:Unit->p7->Prop}(F:A.units+1<NA)(I:Inv X pins σ H s)(g:DPut H a y v H')(ry:RelV y u)(rv:RelV v r)(h:∀s',Inv X pins σ H' s'->Q () s'):
 Kr (model X.prog X.w) A (SO (.ref a) u r) Q E s:=by
 rcases g with⟨kvs,k,e,ey,l,eH⟩|⟨kvs,k,b,e,ey,eb,l,eH⟩
 ·subst ey eH;obtain⟨z,hd,vs,rel,dd⟩:=Eg I.hok e;have B:vs.length<=Kn:=by rw[<-rel.length];exact z
  have hl:(cc kvs k v).length<=Kn:=by have:=iA kvs k v;lia
  refine wpAny_setItem_pairs (hsz:=B) (jr ry) dd λh' dd' hs=>h _ ?_;have he:∃q,h'.get? a=Z q:=let⟨q,_,_,j,_⟩:=dd'; ⟨q,j⟩;exact r6 I (by rw[e];exact Oh) hs he (Cz hl hd (rel.put k rv) dd')
 ·subst ey eH
  cases(show u=KZ b from ry)
  obtain⟨z,hd,xs,rel,dd⟩:=Eh I.hok e;have B:xs.length<=Kn:=by rw[<-P1 rel];exact z
  have hl:(cc kvs k v).length<=Kn:=by have:=iA kvs k v;lia
  refine wpAny_setItem_heap (hsz:=B) (Pg F) (gf I.hok eb) dd λh' dd' hs=>h _ ?_;obtain⟨q,es,ep,j,h2,G,J,_,L⟩:=dd';refine r6 I (by rw[e];exact Oh) hs ⟨q,j⟩ ⟨hl,hd,_,(rel.put k eb rv).keeps λc ys ec=>?_,q,es,ep,j,h2,G,J,L⟩
  rw[ao (DW ec e (λz=>nomatch z))];exact ec
end
theorem xI(h:Heap)(hb:Mv<h.objs.size):ObjOk P w H (h.push {cls:=.type "dict",data:=.dict #[]}) h.objs.size (.dK []):=⟨Mj _,beq_eq_false_iff_ne.mpr (Ne.symm (Lb hb)),[],.nil,Heap.DictOf.new h⟩
theorem xJ(h:Heap)(hb:Mv<h.objs.size):ObjOk P w H (h.push {cls:=.type "dict",data:=.dict #[]}) h.objs.size (.dT []):=⟨Mj _,beq_eq_false_iff_ne.mpr (Ne.symm (Lb hb)),[],.nil,_,#[],0,Kj _ rfl,⟨rfl,rfl,rfl⟩,rfl,rfl,List.nodup_nil⟩
noncomputable def CA:TE:=λ_ H Q=>∀p,H p=Y->Q (.ref p) (upd H p (.dK []))
noncomputable def CB:TE:=λ_ H Q=>∀p,H p=Y->Q (.ref p) (upd H p (.dT []))
section
variable{X:Cx}{pos:Pos}
theorem xK:PE X (.Dict [] [] pos) CA:=λpins s σ H Q I h=>Ub ⟨.ref s.heap.objs.size,_,I.laid (a:=s.heap.objs.size) (o:=.dK []) (t':=s.toks) (λ_ _ q=>hW _ q) (Ku _) (xI s.heap I.big),rfl,h _ (I.hok.fresh (Ku _))⟩
theorem xL:PE X (.Dict [] [] pos) CB:=λpins s σ H Q I h=>Ub ⟨.ref s.heap.objs.size,_,I.laid (a:=s.heap.objs.size) (o:=.dT []) (t':=s.toks) (λ_ _ q=>hW _ q) (Ku _) (xJ s.heap I.big),rfl,h _ (I.hok.fresh (Ku _))⟩
end
structure M2(X:Cx)(o:Expr)(m:Str)(apos:Pos)(e f:Expr)(cpos:Pos):Prop where
 base:Q6 o m X.env (eval o X.env)=eval o X.env
 few:((P0 cpos (L8 [e,f] X.env)).all (λx=>!x.1)&&(V1 cpos (Sx [] X.env)).all (λx=>x.1.isSome)
  && decide (([e,f]:List Expr).length+([]:List Qv).length+(if([]:List Qv).isEmpty then 0 else 1)<30))=F2
 line:(apos.endLine==cpos.line)=F2
 trees:P0 cpos (L8 [e,f] X.env)=[(N3,eval e X.env),(N3,eval f X.env)]
def IsD(H:Hp)(a:VH):Prop:=(∃kvs,Rd H a (.dK kvs))∨∃kvs,Rd H a (.dT kvs)
theorem gh(I:Inv X pins σ H s)(d:IsD H a):
 s.TypeIs (.ref a) "dict"/\(∀b,KZ a=.ref b->∃ob,s.heap.get? b=Z ob/\ob.dict=Y)/\(a==Mv)=N3:=by
 rcases d with⟨kvs,e⟩|⟨kvs,e⟩
 ·obtain⟨_,hd,vs,_,dd⟩:=jt I.hok e;refine⟨dd.typeIs,λb q=>?_,hd⟩
  cases q
  obtain⟨ob,_,_,h1,h2,_⟩:=dd;exact⟨ob,h1,h2.2.1⟩
 ·obtain⟨_,hd,xs,_,dd⟩:=ju I.hok e;refine⟨dd.typeIs,λb q=>?_,hd⟩
  cases q
  obtain⟨ob,_,_,h1,h2,_⟩:=dd;exact⟨ob,h1,h2.2.1⟩
section
variable{X:Cx}{pins:List (VH×Obj)}{σ:St}{H:Hp}{s:p7}{a:VH}{y d:V}{u r:hH}{o:Option V}{A:Lr}{E:hH->p7->Prop}
theorem CC{Q:hH->p7->Prop}(j:A.units+1<NA)(I:Inv X pins σ H s)(g:DGet H a y o)(ry:RelV y u)(rd:RelV d r)(h:∀w' s',Inv X pins σ H s'->RelV (o.getD d) w'->Q w' s'):
 Kr (model X.prog X.w) A (call (.builtin "dict.get") [.ref a,u,r]) Q E s:=by
 rcases g with⟨kvs,k,e,ey,l⟩|⟨kvs,k,b,e,ey,eb,l⟩
 ·subst ey;obtain⟨z,hd,vs,rel,dd⟩:=jt I.hok e;refine call_meetsIn PQ dd.typeIs S0 (Ry _ _ _) (meets_dict_get_default (aR X.prog X.w) a (jr ry) hd r) ⟨_,dd.mapOf,h _ _ (I.tok _) ?_⟩;rw[l];exact(rel.val k).getD rd
 ·subst ey
  cases(show u=KZ b from ry)
  obtain⟨z,hd,xs,rel,dd⟩:=ju I.hok e;refine call_meetsIn PQ dd.typeIs S0 (Ry _ _ _) (meetsH_dict_get_default (QE (aR X.prog X.w)) a b hd r) ⟨Pg j,k,xs,gf I.hok eb,dd,h _ _ (I.tok _) ?_⟩;rw[l];exact(rel.val k).getD rd
end
noncomputable def CD(td ty tx:TE):TE:=λσ H Q=>td σ H λx H1=>∃a,x=.ref a/\IsD H1 a/\ty σ H1 λy H2=>tx σ H2 λz H3=>∃o,DGet H3 a y o/\Q (o.getD z) H3
section
variable{X:Cx}{o e f:Expr}{apos cpos:Pos}{td ty tx:TE}
theorem xM(q:X.A.units+1<NA)(ho:PE X o td)(he:PE X e ty)(hf:PE X f tx)(m:M2 X o "get" apos e f cpos):PE X (.Call (.Attribute o "get" apos) [e,f] [] cpos) (CD td ty tx):=by
 intro pins s σ H Q I h;refine wpAny_Call_method m.base m.few m.line PySem.F.plainAttrs_dict PQ PySem.F.type_dict_get (thn (ho pins s σ H _ I h) λu s1 B=>?_);obtain⟨x,H1,j,rx,a,ex,d,G⟩:=B;subst ex;obtain rfl:u=KZ a:=rx;obtain⟨t1,J,_⟩:=gh j d;refine⟨t1,J,?_⟩;rw[m.trees];refine Oo rfl (Sy (Pe (thn (he pins s1 σ H1 _ j G) λiv s2 ⟨y,H2,L,ry,O⟩=>Pe (thn (hf pins s2 σ H2 _ L O) λfv s3 ⟨z,U,pv,rz,ov,g,fv⟩=>R9 ?_))))
 exact CC q pv g ry rz λw' s4 I4 rw'=>⟨_,U,I4,rw',fv⟩
end
end
variable{d:Nat}{ifs:List Expr}{elt target iter:Expr}{gens:List LO}{scope:Scope}{pos pos':Pos}{acc:hH}{g:TG}{A:Lr}{wi:TI}
section
noncomputable def b7(elt:Expr)(gens:List LO)(scope:Scope)(pos:Pos)(d:Nat)(acc:hH)(env:Env)(k:Sem Fin):Sem Fin:=
 match gens[d+1]? with
 |some g'=>eval g'.iter env>>=fun x=>R7 g'.iter.pos>>=fun _=>Ng g'.iter env x>>=fun x=>holding [x] (Rg x)>>=fun it'=>runOwn (.compStart (.ListComp elt gens scope pos) (d+1) it' acc env) env>>=λ_=>k
 |none=>(eval elt env>>=λx=>call (.builtin "list.append") [acc,x]>>=λ_=>pure ())>>=λ_=>k
noncomputable def bm(ifs:List Expr)(env:Env):Sem Bool:=forIn ifs F2 λc r=>if r=F2 then do let ok <-isTrue c env (eval c env);pure (Oy ok)else pure (Oy r)
theorem ot(elt target iter:Expr)(ifs:List Expr)(gens:List LO)(scope:Scope)(pos:Pos)(d:Nat)(it acc:hH)(env:Env)(hd:gens[d]?=Z ⟨target,iter,ifs,0⟩)(j:∀g',gens[d+1]?=Z g'->g'.is_async=0):
 compTurn (.ListComp elt gens scope pos) d it acc env=(R7 iter.pos>>=λ_=>MZ it>>=λr=>match r with
  |none=>pure (.done .next)
  |some v=>Qi target it v>>=fun _=>assign target env v>>=fun _=>bm ifs env>>=fun ok=>(if ok=F2 then b7 elt gens scope pos d acc env (again (.compLoop (.ListComp elt gens scope pos) d it acc env))else again (.compLoop (.ListComp elt gens scope pos) d it acc env))):=by
 unfold compTurn;simp only[hd];unfold b7 bm
 cases hn:gens[d+1]? with
 |none=>rfl
 |some g'=>obtain⟨t',i',f',a'⟩:=g';have e:a'=0:=j _ hn;subst e;rfl
noncomputable abbrev TC:=St->Hp->(St->Hp->Prop)->Prop
def cz(J:It)(g:TG)(tb:TC)(N:St->Hp->Prop)(σ:St)(H:Hp):Prop:=
 ∃W:Nat->Nat->St->Hp->Prop,(∃m,W 0 m σ H)/\∀i m σ H,W i m σ H->
  (J.stop i H/\N σ H)∨(J.go i H/\∃N':St->Hp->Prop,(∀σ' H',N' σ' H'->∃m',m'<m/\W (i+1) m' σ' H')/\∀x H',J.yld i H x H'->g x σ H' λσ2 H2=>tb σ2 H2 N')
def PB(X:Cx)(F:Sem Fin->Sem Fin)(t:TC):Prop:=
 ∀(pins:List (VH×Obj)) (s:p7) (σ:St) (H:Hp) (N:St->Hp->Prop) (k:Sem Fin) (Q:Fin->p7->Prop) (E:hH->p7->Prop),Inv X pins σ H s->t σ H N->
  (∀s' σ' H',Inv X pins σ' H' s'->N σ' H'->Kr (model X.prog X.w) X.A k Q E s')->Kr (model X.prog X.w) X.A (F k) Q E s
section
variable{X:Cx}
theorem nox{α:Type}{m:Sem α}{Q:α->p7->Prop}{E:hH->p7->Prop}(hx:∀e s,X.xe e s->False)(h:Kr (model X.prog X.w) X.A m Q X.xe s):Kr (model X.prog X.w) X.A m Q E s:=LW h (λ_ _ q=>q) λe s' q=>(hx e s' q).elim
noncomputable def jv(ts:List TT)(tb:TC):TC:=match ts with
 |[]=>tb
 |t::r=>λσ H N=>t σ H λb H1=>if b=F2 then jv r tb σ H1 N else N σ H1
theorem jw{env:Env}{M:Po}{A:Lr}{Q:Bool->p7->Prop}{E:hH->p7->Prop}{s:p7}(h:Q N3 s):∀ifs:List Expr,
 Kr M A (forIn ifs N3 λc r=>if r=F2 then do let ok <-isTrue c env (eval c env);pure (Oy ok)else pure (Oy r)) Q E s
 |[]=>D0 h
 |c::r=>by rw[Oz];simp only[MK,if_false];exact gV (D0 (jw h r))
theorem ou(hx:∀e s,X.xe e s->False){tb:TC}{N:St->Hp->Prop}:∀{ifs:List Expr} {ts:List TT},LP (λc t=>PT X c t) ifs ts->
 ∀(pins:List (VH×Obj)) (s:p7) (σ:St) (H:Hp) (E:hH->p7->Prop),Inv X pins σ H s->jv ts tb σ H N->
 Kr (model X.prog X.w) X.A (bm ifs X.env) (λok s'=>∃H',Inv X pins σ H' s'/\if ok=F2 then tb σ H' N else N σ H') E s
 |_,_,.nil=>λpins s σ H E I h=>D0 ⟨H,I,by rw[if_pos rfl];exact h⟩
 |c::ifs,_,.cons (b:=t) hc hr=>by
  intro pins s σ H E I h;have ih:=ou hx hr (tb:=tb) (N:=N) pins;unfold bm at ih⊢;rw[Oz];simp only[if_true];refine gV (gV (nox hx (thn (hc pins s σ H _ I h) λb s1 z=>?_)));obtain⟨H1,q,j⟩:=z;refine D0 ?_
  cases b with
  |false=>rw[if_neg Kl]at j;exact jw ⟨H1,q,by rw[if_neg Kl];exact j⟩ ifs
  |true=>rw[if_pos rfl]at j;exact ih s1 σ H1 E q j
theorem xN(hx:∀e s,X.xe e s->False){F:Sem Fin->Sem Fin}{tb:TC}(hb:PB X F tb){ts:List TT}(z:LP (λc t=>PT X c t) ifs ts):
 PB X (λk=>bm ifs X.env>>=λok=>if ok=F2 then F k else k) (jv ts tb):=by
 intro pins s σ H N k Q E I h hk;refine gV (thn (ou hx z pins s σ H E I h) λok s1 B=>?_);obtain⟨H1,q,j⟩:=B
 cases ok with
 |false=>rw[if_neg Kl]at j⊢;exact hk s1 σ H1 q j
 |true=>rw[if_pos rfl]at j⊢;exact hb pins s1 σ H1 N k Q E q j hk
noncomputable def zI(p:VH)(te:TE):TC:=λσ H N=>te σ H λx H1=>∃xs,H1 p=Z (.lst xs)/\xs.length<Kn/\N σ (upd H1 p (.lst (xs++[x])))
theorem kG(hx:∀e s,X.xe e s->False){p:VH}{te:TE}(he:PE X elt te)(hd:gens[d+1]?=Y):
 PB X (b7 elt gens scope pos d (.ref p) X.env) (zI p te):=by
 intro pins s σ H N k Q E I h q;unfold b7;rw[hd];refine gV (gV (nox hx (thn (he pins s σ H _ I h) λu s1 j=>?_)));obtain⟨x,H1,z,B,xs,e1,l1,F⟩:=j;refine gV (nox hx (thn (lK (X:=X) pins s1 σ H1 (.ref p) [x] (.ref p) [u] (λ_ H2=>N σ H2) z rfl (.cons B .nil) ⟨p,xs,x,rfl,rfl,e1,l1,F⟩) λv s2 j=>?_));obtain⟨_,H2,G,_,J⟩:=j;exact D0 (q s2 σ H2 G J)
theorem lN(hx:∀e s,X.xe e s->False)(hc:X.calm=F2)(hd:gens[d]?=Z ⟨target,iter,ifs,0⟩)(ha:∀g',gens[d+1]?=Z g'->g'.is_async=0)(hg:PG X target g){tb:TC}(hb:PB X (λk=>bm ifs X.env>>=λok=>if ok=F2 then b7 elt gens scope pos d acc X.env k else k) tb){N:St->Hp->Prop}{it:VH}{fp:List VH}{tn:Nat->Heap->Prop}{J:It}(I:Inv X pins σ H s)(T:fX X.prog X.w X.K target J fp it tn)(t0:tn 0 s.heap)(f2:∀b∈fp,cw X pins H b)(h:cz J g tb N σ H):
 OT (model X.prog X.w) X.A (.compLoop (.ListComp elt gens scope pos) d (.ref it) acc X.env) (λr s'=>match r with|.ok _=>∃σ' H',Inv X pins σ' H' s'/\N σ' H'|.error _=>False) s:=by
 obtain⟨W,⟨m0,w0⟩,turn⟩:=h;have stat:∀{H':Hp},(∀b∈fp,H' b=Y)->∀b∈fp,cw X pins H' b:=λhn b hb=>⟨hn b hb,(f2 b hb).2⟩;refine codeAny_loop rfl (λn s'=>∃i σ' H',Inv X pins σ' H' s'/\tn i s'.heap/\(∀b∈fp,H' b=Y)/\W i n σ' H') ?_ m0 ⟨0,σ,H,I,t0,λb hb=>(f2 b hb).1,w0⟩;rintro n s3 ⟨i,σ3,F,pv,z,B,w3⟩;show Kr _ _ ((compTurn (.ListComp elt gens scope pos) d (.ref it) acc X.env).onRaise (λx=>do noteFrame x X.env;theTreesLotGoes x)) _ _ s3
 refine wpAny_noted ?_;rw[ot elt target iter ifs gens scope pos d (.ref it) acc X.env hd ha];refine gV (OB (gV ?_));show Kr (model X.prog X.w) X.A _ _ _ s3
 rcases turn i n σ3 F w3 with⟨stop,qn⟩|⟨go,N',hN,step⟩
 ·refine thn (T.done X rfl rfl rfl hc i pins s3 σ3 F _ pv (stat B) z stop) λr s4 j=>?_;obtain⟨G,I4⟩:=j;subst G;exact D0 ⟨σ3,F,I4,qn⟩
 ·refine thn (T.item X rfl rfl rfl hc i pins s3 σ3 F _ pv (stat B) z go) λr s4 j=>?_;obtain⟨u,G,h4⟩:=j;subst G;refine gV (thn h4 λ_ s5 j=>?_);obtain⟨x,fv,I5,r5,y5,q,L⟩:=j;have O:=I5.pinned (stat L) (T.obj _ _ q);refine gV (nox hx (thn (hg _ s5 σ3 fv x u _ O r5 (step x fv y5)) λ_ s6 j=>?_));obtain⟨σ6,H6,I6,q6⟩:=j;refine hb _ s6 σ6 H6 N' (again (.compLoop (.ListComp elt gens scope pos) d (.ref it) acc X.env)) _ _ I6 q6 λs7 σ7 H7 U n7=>?_;obtain⟨m',hm,w7⟩:=hN σ7 H7 n7;refine D0 ⟨rfl,m',hm,i+1,σ7,H7,U.unpinned,T.keep _ _ _ q λb hb o e=>(U.pin (b,o) (KR _ (KR _ (dg hb e)))).1,λb hb=>?_,w7⟩;obtain⟨o,e,dd⟩:=T.obj _ _ q b hb;exact(U.pin (b,o) (KR _ (KR _ (dg hb e)))).2.1
theorem jx {it:hH}{env:Env}{prog:KW}{R:U8->p7->Prop}(hd:gens[d]?=Z ⟨target,iter,ifs,0⟩)(h0:OT (model prog w) A (.compLoop (.ListComp elt gens scope pos) d it acc env) R s)(h:Kr (model prog w) A (Rg it) (fun it' s'=>OT (model prog w) A (.compLoop (.ListComp elt gens scope pos) d it' acc env) R s')
   (notedBy (model prog w) A env λx s'=>R (.error x) s') s):
 OT (model prog w) A (.compStart (.ListComp elt gens scope pos) d it acc env) R s:=by
 refine codeAny_of_tree ?_;show Kr _ _ ((compStart (.ListComp elt gens scope pos) d it acc env).onRaise (λx=>do noteFrame x env;R7 theWindowsPlace)) _ _ s
 refine wpAny_notedAt ?_;unfold compStart;have hc:(clausesOf (.ListComp elt gens scope pos))[d]?=Z ⟨target,iter,ifs,0⟩:=hd;rw[hc];show Kr _ _ (ask>>=_) _ _ s;refine gV (wpAny_askSetting (wpAny_ite ?_))
 split
 ·first
   |exact gV (D0 (D0 (PZ rfl h0)))
   |exact D0 (PZ rfl h0)
 ·first
   |exact gV (MW (gV (OB (gV (LW h (λit' s' h'=>D0 (PZ rfl h')) λ_ _ x=>x)))))
   |(refine gV (MW ?_);show Kr _ _ (R7 iter.pos>>=_) _ _ s;exact gV (OB (gV (LW h (λit' s' h'=>D0 (PZ rfl h')) λ_ _ x=>x))))
theorem lP(hx:∀e s,X.xe e s->False)(hc:X.calm=F2)(hd:gens[d+1]?=Z ⟨target,iter,ifs,0⟩)(z:∀g',gens[d+1+1]?=Z g'->g'.is_async=0)(hi:PI X target iter wi)(B:PG X target g){tb:TC}(hb:PB X (λk=>bm ifs X.env>>=λok=>if ok=F2 then b7 elt gens scope pos (d+1) acc X.env k else k) tb)(hs:∀x,Ng iter X.env x=pure x):
 PB X (b7 elt gens scope pos d acc X.env) (λσ H N=>wi σ H λJ H1=>cz J g tb N σ H1):=by
 intro pins s σ H N k Q E I h hk;unfold b7;rw[hd];refine gV (nox hx (thn (hi pins s σ H _ I h) λv s1 h1=>?_));refine gV (OB (gV (NB (hs v) ?_)));refine gV (LN (nox hx (thn h1 λitv s2 h2=>?_)));obtain⟨it,fp,tn,J,H2,e,F,T,j,f2,hw⟩:=h2;subst e;have loop:=lN (acc:=acc) hx hc hd z B hb F T j f2 hw;refine gV (wpAny_runOwn (OU (jx (R:=λr s'=>match r with|.ok _=>∃σ' H',Inv X pins σ' H' s'/\N σ' H'|.error _=>False) hd loop (T.self _ 0 _ _ _ j loop)) λr s3 q=>?_))
 cases r with
 |error e=>exact q.elim
 |ok f=>obtain⟨σ3,G,L,O⟩:=q;exact hk s3 σ3 G L O
noncomputable def aW(cells:List (Str×VH)):List (Str×Ob)->List (Str×VH)->List (Str×VH)
 |[],acc=>acc
 |(n,k)::r,acc=>if k==.free then(match cells.lookup n with|some c=>aW cells r ((n,c)::acc)|none=>aW cells r acc)else aW cells r acc
theorem iB{env:Env}:∀(names:List (Str×Ob)) (acc:List (Str×VH)),(∀x∈names,x.2=.free->(env.cells.lookup x.1).isSome=F2)->
 (forIn names acc λ(x:Str×Ob) (r:List (Str×VH))=>(match x with|(name,kind)=>if(kind==Ll)=F2 then do let c <-cellOf env name;pure (Oy ((name,c)::r))else pure (Oy r):Sem (ForInStep (List (Str×VH)))))=(pure (aW env.cells names acc):Sem (List (Str×VH)))
 |[],acc,_=>rfl
 |(n,k)::r,acc,h=>by
  rw[Oz];have ih:=λacc'=>iB r acc' λx hx=>h x (KQ _ hx);unfold aW
  by_cases hk:(k==Ll)=F2
  ·obtain⟨c,hc⟩:=NZ.mp (h (n,k) Lc (beq_iff_eq.mp hk));have j:env.cells.lookup n=Z c:=hc;have e1:cellOf env n=pure c:=by unfold cellOf;rw[j]
   simp only[hk,if_true,e1,j,pure_bind];exact ih _
  ·simp only[hk,if_false,pure_bind];exact ih _
theorem jy{env:Env}(h:∀x∈scope.names,x.2=.free->(env.cells.lookup x.1).isSome=F2):closureFor scope env=pure (aW env.cells scope.names []):=by unfold closureFor;have e:=iB (env:=env) scope.names [] h;simp only[bind_pure];exact e
theorem dj{cells:List (Str×VH)}{y:Str}{c:VH}:∀{names:List (Str×Ob)} {acc:List (Str×VH)},(y,c)∈aW cells names acc->(y,c)∈acc∨(cells.lookup y=Z c/\(y,Ll)∈names)
 |[],acc,h=>.inl h
 |(n,k)::r,acc,h=>by
  unfold aW at h
  by_cases hk:(k==Ll)=F2
  ·rw[if_pos hk]at h;have B:k=.free:=beq_iff_eq.mp hk;subst B
   cases hl:cells.lookup n with
   |none=>
    rw[hl]at h
    rcases dj h with z|⟨j,q⟩
    ·exact .inl z
    ·exact .inr ⟨j,KQ _ q⟩
   |some c'=>
    rw[hl]at h
    rcases dj h with z|⟨j,q⟩
    ·rcases Km.mp z with e|z
     ·cases e
      exact .inr ⟨hl,Lc⟩
     ·exact .inl z
    ·exact .inr ⟨j,KQ _ q⟩
  ·rw[if_neg hk]at h
   rcases dj h with z|⟨j,q⟩
   ·exact .inl z
   ·exact .inr ⟨j,KQ _ q⟩
theorem dl{cells:List (Str×VH)}{y:Str}{c:VH}(hc:cells.lookup y=Z c):∀{names:List (Str×Ob)} {acc:List (Str×VH)},((y,c)∈acc∨(y,Ll)∈names)->(y,c)∈aW cells names acc
 |[],acc,h=>by
  rcases h with h|h
  ·exact h
  ·simp at h
 |(n,k)::r,acc,h=>by
  unfold aW
  by_cases hk:(k==Ll)=F2
  ·rw[if_pos hk];have j:k=.free:=beq_iff_eq.mp hk;subst j
   cases hl:cells.lookup n with
   |none=>
    refine dl hc ?_
    rcases h with h|h
    ·exact .inl h
    ·rcases Km.mp h with e|h
     ·cases e;rw[hl]at hc;cases hc
     ·exact .inr h
   |some c'=>
    refine dl hc ?_
    rcases h with h|h
    ·exact .inl (KQ _ h)
    ·rcases Km.mp h with e|h
     ·cases e;rw[hl]at hc;cases hc;exact .inl Lc
     ·exact .inr h
  ·rw[if_neg hk];refine dl hc ?_
   rcases h with h|h
   ·exact .inl h
   ·rcases Km.mp h with e|h
    ·cases e;exact absurd rfl hk
    ·exact .inr h
theorem cY:∀(names:List (Str×Ob)) (n:Nat) (acc acc':List (Str×VH)),Nh n names (acc++acc')=Nh n names acc++acc'
 |[],_,_,_=>rfl
 |(x,k)::r,n,acc,acc'=>by
  unfold Nh
  by_cases j:(k==Na)=F2
  ·rw[if_pos j,if_pos j];exact cY r (n+1) ((x,n)::acc) acc'
  ·rw[if_neg j,if_neg j];exact cY r n acc acc'
theorem cZ:∀{names:List (Str×Ob)} {n:Nat} {acc:List (Str×VH)} {y:Str} {c:VH},(y,c)∈Nh n names acc->(y,c)∈acc∨(n<=c/\(y,Na)∈names)
 |[],_,_,_,_,h=>.inl h
 |(x,k)::r,n,acc,y,c,h=>by
  unfold Nh at h
  by_cases hk:(k==Na)=F2
  ·rw[if_pos hk]at h;have j:k=.cell:=beq_iff_eq.mp hk;subst j
   rcases cZ h with z|⟨q,B⟩
   ·rcases Km.mp z with e|z
    ·cases e;exact .inr ⟨Ku _,Lc⟩
    ·exact .inl z
   ·exact .inr ⟨Nat.le_of_succ_le q,KQ _ B⟩
  ·rw[if_neg hk]at h
   rcases cZ h with z|⟨q,B⟩
   ·exact .inl z
   ·exact .inr ⟨q,KQ _ B⟩
structure b8(sc osc:Scope)(oN N':List Str)(fr:List (Option Nat)):Prop where
 kind:sc.kind=.function
 nd:(sc.names.map (·.1)).Nodup
 ndN:N'.Nodup
 free:∀x∈sc.names,x.2=.free->osc.names.lookup x.1=Z .cell∨osc.names.lookup x.1=Z .free
 len:fr.length=N'.length
 fr:∀(i j:Nat) (x:Str),N'[i]?=Z x->fr[i]?=Z (Z j)->oN[j]?=Z x/\(x,Ll)∈sc.names
noncomputable def inh(fr:List (Option Nat))(σ:St):St:=fr.map λo=>o.bind λj=>(σ[j]?).join
noncomputable def b9(X:Cx)(sc:Scope)(L:VH):Env:={scope:=relabel sc X.env,locals:=L,globals:=X.env.globals,cells:=Nh (L+1) sc.names (aW X.env.cells sc.names []),qual:=X.env.qual,func:=Y,code:=X.env.code,frame:=X.env.frame,builtins:=X.env.builtins}
noncomputable def aK(X:Cx)(sc:Scope)(N':List Str)(s:p7)(H:Hp)(fp:List VH):Cx:={X with N:=N',s₀:=s,H₀:=H,env:=b9 X sc s.heap.objs.size,outer:=X.stack,stack:=X.stack,ex:=fp,fn:=λx=>sc.names.lookup x==Z .cell,pn:=[],xe:=λ_ _=>False}
theorem aV:∀{l:List (Str×Ob)} {x:Str} {k:Ob},(l.map (·.1)).Nodup->(x,k)∈l->l.lookup x=Z k
 |(y,k')::r,x,k,nd,h=>by
  have nd':(y::r.map (·.1)).Nodup:=nd;obtain⟨q,z⟩:=Ma.mp nd';rw[NG]
  rcases Km.mp h with e|hm
  ·cases e;simp
  ·have j:(x==y)=N3:=by
    refine beq_eq_false_iff_ne.mpr λe=>?_;subst e;exact q (Ki.mpr ⟨(x,k),hm,rfl⟩)
   rw[j];exact aV z hm
theorem cA{env:Env}:∀{names:List (Str×Ob)} {x:Str},
 (names.map fun (n,k)=>if(k==Ll&&env.scope.kind==.function&&env.kindOf n==Z .cell)then(n,Na)else(n,k)).lookup x =
   (names.lookup x).map λk=>if(k==Ll&&env.scope.kind==.function&&env.kindOf x==Z .cell)then Na else k
 |[],_=>rfl
 |(n,k)::r,x=>by
  have ih:=cA (env:=env) (names:=r) (x:=x);show List.lookup x ((if(k==Ll&&env.scope.kind==.function&&env.kindOf n==Z .cell)=F2 then(n,Na)else(n,k))::_)=_
  rw[NG (a:=x) (b:=k)]
  by_cases hx:x=n
  ·subst hx;simp only[beq_self_eq_true];show _=Z (if(k==Ll&&env.scope.kind==.function&&env.kindOf x==Z .cell)=F2 then Na else k)
   by_cases hc:(k==Ll&&env.scope.kind==.function&&env.kindOf x==Z .cell)=F2
   ·rw[if_pos hc,if_pos hc,NG];simp only[beq_self_eq_true]
   ·rw[if_neg hc,if_neg hc,NG];simp only[beq_self_eq_true]
  ·have hb:(x==n)=N3:=beq_eq_false_iff_ne.mpr hx;rw[hb]
   by_cases hc:(k==Ll&&env.scope.kind==.function&&env.kindOf n==Z .cell)=F2
   ·rw[if_pos hc,NG,hb];exact ih
   ·rw[if_neg hc,NG,hb];exact ih
section
variable{pins:List (VH×Obj)}{σ:St}{H:Hp}{s:p7}{sc:Scope}{N':List Str}{fr:List (Option Nat)}{fp:List VH}
theorem gj(I:Inv X pins σ H s)(B:b8 sc X.env.scope X.N N' fr):∀x∈sc.names,x.2=.free->(X.env.cells.lookup x.1).isSome=F2:=λx hx e=>by obtain⟨c,hc⟩:=I.ok.has x.1 (B.free x hx e);rw[hc];rfl
theorem uU(I:Inv X pins σ H s)(f2:∀b∈fp,cw X pins H b)(L:∀b∈fp,b<s.heap.objs.size)(B:b8 sc X.env.scope X.N N' fr):
 Inv (aK X sc N' s H fp) [] (inh fr σ) H {s with heap:=Uc (s.heap.push {cls:=.type "dict",data:=.dict #[]}) sc.names}:=by
 have F:∀b o,s.heap.get? b=Z o->(Uc (s.heap.push {cls:=.type "dict",data:=.dict #[]}) sc.names).get? b=Z o:=λb o e=>Sg _ _ b o (hW _ e);have ok:=cellsFrom_ok sc.names (s.heap.push {cls:=.type "dict",data:=.dict #[]}) (s.heap.objs.size+1) [] ⟨λ_ _ hm=>(nomatch hm),Ra⟩ (by rw[Mc];exact Ku _)
 rw[Mc]at ok;have capp:Nh (s.heap.objs.size+1) sc.names (aW X.env.cells sc.names [])=Nh (s.heap.objs.size+1) sc.names []++aW X.env.cells sc.names []:=cY sc.names _ [] _;have cof:∀x c,(b9 X sc s.heap.objs.size).cells.lookup x=Z c->((x,c)∈Nh (s.heap.objs.size+1) sc.names []/\s.heap.objs.size<c)∨(X.env.cells.lookup x=Z c/\(x,Ll)∈sc.names):=λx c e=>by
  have m:=Mx e;have m':(x,c)∈Nh (s.heap.objs.size+1) sc.names (aW X.env.cells sc.names []):=m;rw[capp]at m'
  rcases Kz.mp m' with z|z
  ·exact .inl ⟨z,(ok.empty x c z).2⟩
  ·rcases dj z with q|q
   ·simp at q
   ·exact .inr q
 have cOld:∀x c,X.env.cells.lookup x=Z c->c<s.heap.objs.size:=λx c e=>by obtain⟨v,q⟩:=I.cell x c e;exact q.lt
 have kindF:∀x,(x,Ll)∈sc.names->(b9 X sc s.heap.objs.size).kindOf x=Z .cell∨(b9 X sc s.heap.objs.size).kindOf x=Z .free:=λx hx=>by
  have e1:sc.names.lookup x=Z .free:=aV B.nd hx;have e2:(b9 X sc s.heap.objs.size).kindOf x=_:=cA (env:=X.env) (names:=sc.names) (x:=x);rw[e1]at e2;rw[e2]
  by_cases hc:(Ll==Ll&&X.env.scope.kind==.function&&X.env.kindOf x==Z .cell)=F2
  ·exact .inl (by simp only[NQ,if_pos hc])
  ·exact .inr (by simp only[NQ,if_neg hc])
 have cellF:∀x c,(x,Ll)∈sc.names->X.env.cells.lookup x=Z c->(b9 X sc s.heap.objs.size).cells.lookup x=Z c:=λx c hx hc=>by
  have m:=dl (acc:=[]) hc (.inr hx);have m2:(x,c)∈(b9 X sc s.heap.objs.size).cells:=by show(x,c)∈Nh (s.heap.objs.size+1) sc.names (aW X.env.cells sc.names []);rw[capp];exact KR _ m
  cases hl:(b9 X sc s.heap.objs.size).cells.lookup x with
  |none=>
   exfalso
   have:∀{l:List (Str×VH)},(x,c)∈l->l.lookup x=Y->False:=by
    intro l
    induction l with
    |nil=>intro h;simp at h
    |cons a r ih=>
     intro h e;obtain⟨y,d⟩:=a;rw[NG]at e
     rcases Km.mp h with z|z
     ·cases z;simp at e
     ·by_cases hxy:(x==y)=F2
      ·rw[hxy]at e;cases e
      ·simp only[Q0]at hxy;rw[hxy]at e;exact ih z e
   exact this m2 hl
  |some c'=>
   rcases cof x c' hl with⟨z,_⟩|⟨z,_⟩
   ·rcases cZ z with q|⟨_,q⟩
    ·simp at q
    ·have a1:=aV B.nd hx;have a2:=aV B.nd q;rw[a1]at a2;cases a2
   ·rw[hc]at z;rw[z]
 have kindC:∀x,(b9 X sc s.heap.objs.size).kindOf x=Z .cell->(x,Na)∈sc.names∨(x,Ll)∈sc.names:=λx e=>by
  have e2:(b9 X sc s.heap.objs.size).kindOf x=_:=cA (env:=X.env) (names:=sc.names) (x:=x);rw[e2]at e
  cases hl:sc.names.lookup x with
  |none=>rw[hl]at e;cases e
  |some k=>
   rw[hl]at e;have m:=Mx hl
   cases k with
   |cell=>exact .inl m
   |free=>exact .inr m
   |«local»=>simp at e
   |globalImplicit=>simp at e
   |globalExplicit=>simp at e
 have kindFr:∀x,(b9 X sc s.heap.objs.size).kindOf x=Z .free->(x,Ll)∈sc.names:=λx e=>by
  have e2:(b9 X sc s.heap.objs.size).kindOf x=_:=cA (env:=X.env) (names:=sc.names) (x:=x);rw[e2]at e
  cases hl:sc.names.lookup x with
  |none=>rw[hl]at e;cases e
  |some k=>
   rw[hl]at e;have m:=Mx hl
   cases k with
   |free=>exact m
   |cell=>simp at e
   |«local»=>simp at e
   |globalImplicit=>simp at e
   |globalExplicit=>simp at e
 refine⟨⟨I.ok.mod,B.kind,I.ok.glob,I.ok.blt,Ku _,λy z c h1 h2=>?_,λy O=>?_,λy c hf h=>?_,I.ok.hd,I.ok.frames,.inl rfl,λb hb=>⟨?_,λx c e=>?_⟩,λb o e=>I.bs b o e,?_,λb o e hb=>?_,λb hb=>?_,I.stack,I.stkFree⟩,
  rfl,I.bare,Un.kept F,⟨_,(Heap.Ns.new s.heap (.type "dict")).keeps (Sg _ _),λi x v h1 h2 h3=>?_⟩,λy c h=>?_,I.hok.fresh (Ku _),λy c h=>?_,λp hp=>absurd (show p∈([]:List (VH×Obj))from hp) (by simp),I.hok.kept F,?_⟩
 ·rcases cof y c h1 with⟨a1,a2⟩|⟨a1,a2⟩
  ·rcases cof z c h2 with⟨b1,b2⟩|⟨b1,b2⟩
   ·exact name_of_addr ok.apart a1 b1
   ·exact absurd (cOld z c b1) (V3.mpr (OS a2))
  ·rcases cof z c h2 with⟨b1,b2⟩|⟨b1,b2⟩
   ·exact absurd (cOld y c a1) (V3.mpr (OS b2))
   ·exact I.ok.inj y z c a1 b1
 ·have HY:(y,Na)∈sc.names∨(y,Ll)∈sc.names:=by
   rcases O with O|O
   ·exact kindC y O
   ·exact .inr (kindFr y O)
  rcases HY with q|q
  ·exact NZ.mp (Py sc.names _ _ (.inl (aV B.nd q)))
  ·obtain⟨c,hc⟩:=NZ.mp (gj I B _ q rfl);exact⟨c,cellF y c q hc⟩
 ·have HZ:(sc.names.lookup y==Z .cell)=F2:=hf;have U:sc.names.lookup y=Z .cell:=by simpa using HZ
  rcases cof y c h with⟨_,a2⟩|⟨_,a2⟩
  ·exact OS a2
  ·rw[aV B.nd a2]at U;cases U
 ·exact Lb (L b hb)
 ·rcases cof x c e with⟨_,a2⟩|⟨a1,_⟩
  ·exact LR (Nat.lt_trans (L b hb) a2)
  ·exact(f2 b hb).2.2.2.2.1 x c a1
 ·exact LA I.ok.bsz I.sz
 ·obtain⟨f0,f1,f3,f4,f5,f6⟩:=f2 b hb
  rcases f4 with z|z
  ·exact I.ok.noex b o e z
  ·exact absurd (Li (Li (Kg e) I.ok.bsz) z) (LD _)
 ·obtain⟨f0,f1,f3,f4,f5,f6⟩:=f2 b hb;exactλz=>(Km.mp (I.stkSub b z)).elim f1 f3
 ·have hi:∃j,fr[i]?=Z (Z j)/\σ[j]?=Z (Z v):=by
   unfold inh at h2;rw[KH]at h2
   cases e:fr[i]? with
   |none=>rw[e]at h2;cases h2
   |some o=>
    rw[e]at h2
    cases o with
    |none=>cases h2
    |some j=>
     refine⟨j,rfl,?_⟩;have G:Z ((σ[j]?).join)=Z (Z v):=h2
     cases e':σ[j]? with
     |none=>rw[e']at G;cases G
     |some w=>rw[e']at G;cases G;rfl
  obtain⟨j,e1,e2⟩:=hi;obtain⟨n1,fv⟩:=B.fr i j x h1 e1;obtain⟨m,hn,hl⟩:=I.loc;have hv:Vis X.env.scope x:=.inr (B.free (x,.free) fv rfl);obtain⟨u,ru,lk⟩:=hl j x v n1 e2 hv;refine⟨u,ru,.inr ⟨kindF x fv,?_⟩⟩
  rcases lk with⟨k1,_⟩|⟨_,c,hc,J⟩
  ·have pv:X.env.scope.names.lookup x=Z .local:=k1
   rcases B.free (x,.free) fv rfl with z|z
   ·rw[pv]at z;cases z
   ·rw[pv]at z;cases z
  ·exact⟨c,cellF x c fv hc,J.keeps F⟩
 ·rcases cof y c h with⟨a1,a2⟩|⟨a1,a2⟩
  ·exact⟨_,(ok.empty y c a1).1⟩
  ·obtain⟨v,q⟩:=I.cell y c a1;exact⟨v,q.keeps F⟩
 ·rcases cof y c h with⟨a1,a2⟩|⟨a1,a2⟩
  ·exact I.hok.fresh (OS a2)
  ·exact I.freeC y c a1
 ·show(inh fr σ).length=N'.length;unfold inh;rw[tv];exact B.len
theorem lQ{σ':St}{s':p7}(I:Inv X pins σ H s)(f2:∀b∈fp,cw X pins H b)(J:Inv (aK X sc N' s H fp) [] σ' H' s')(hs:Mo s.heap.objs.size s'.heap h'):
 Inv X pins σ H' {s' with heap:=h'}:=by
 have u:Un (frs X.stack) fp H H' s.heap s'.heap:=J.base;have ne:∀b o,s.heap.get? b=Z o->b≠s.heap.objs.size:=λb o e=>Lb (Kg e);refine I.call' (s':={s' with heap:=h'}) (ch:=fp) J.os ⟨λb o e n hb hx=>?_,λb o e n hb hx=>?_,u.free,λb o e hx=>?_,u.tups,u.frzs,u.tbls⟩ (λb v e=>?_) J.bare λb hb=>?_
 ·exact(hs.2 b (ne b o e)).trans (u.keep b o e n hb hx)
 ·obtain⟨sl,q⟩:=u.slot b o e n hb hx;exact⟨sl,(hs.2 b (ne b o e)).trans q⟩
 ·obtain⟨o',q⟩:=u.there b o e hx;exact⟨o',(hs.2 b (ne b o e)).trans q⟩
 ·refine(J.hok b v e).stay (λc w hc q=>(hs.2 c ?_).trans q) (λ_ q=>q) λ_ _ q=>q;have fr:H' s.heap.objs.size=Y:=J.free
  rcases hc with z|z
  ·rw[z];intro j;rw[j,fr]at e;cases e
  ·intro j;rw[j,fr]at z;cases z
 ·obtain⟨f0,f1,G,f4,B,F⟩:=f2 b hb;exact⟨f4,f1,B,F⟩
theorem nn {Q:Env->p7->Prop}{E:hH->p7->Prop}{M:Po}(h:Q {scope:=sc,locals:=s.heap.objs.size,globals:=X.env.globals,cells:=Nh (s.heap.objs.size+1) sc.names (aW X.env.cells sc.names []),qual:=X.env.qual,func:=Y,code:=X.env.code,frame:=X.env.frame,builtins:=X.env.builtins}
   {s with heap:=Uc (s.heap.push {cls:=.type "dict",data:=.dict #[]}) sc.names}):
 Kr M A (Sz sc X.env.globals (aW X.env.cells sc.names []) [] X.env.qual Y .none (Z X.env)) Q E s:=by
 simp only[Sz,Ti,if_true];refine gV (wpAny_alloc ?_);refine gV (wpAny_layCells _ (λname kind cells=>by cases hkc:kind==Na<;>simp[hkc]) _ _ _ _ ?_)
 rw[show({s with heap:=s.heap.push {cls:=.type "dict",data:=.dict #[]}}:p7).heap.objs.size=s.heap.objs.size+1 from Mc ..]
 exact gV (D0 (D0 h))
theorem ox(hc:X.calm=F2){rest:List LO}{E:hH->p7->Prop}(hx:∀e s,X.xe e s->False)(B:b8 sc X.env.scope X.N N' fr)(ha:∀g',rest[0]?=Z g'->g'.is_async=0)(hi:PI X target iter wi){tb:VH->TC}(hg:∀s H fp,PG (aK X sc N' s H fp) target g)(hb:∀s H fp p,PB (aK X sc N' s H fp) (λk=>bm ifs (aK X sc N' s H fp).env>>=λok=>if ok=F2 then b7 elt (⟨target,iter,ifs,0⟩::rest) sc pos 0 (.ref p) (aK X sc N' s H fp).env k else k) (tb p)){Nn:VH->St->Hp->Prop}{RR:hH->VH->U8->p7->Prop}(I:Inv X pins σ H s)(h:wi σ H λJ H1=>∀p,H1 p=Y->cz J g (tb p) (Nn p) (inh fr σ) (upd H1 p (.lst [])))(hR:∀p fp s3 G s' σ' H' f,Inv X pins σ G s3->(∀b∈fp,cw X pins G b)->Inv (aK X sc N' s3 G fp) [] σ' H' s'->Nn p σ' H'->RR (.ref p) s3.heap.objs.size (.ok f) s'):
 Kr (model X.prog X.w) X.A (eval iter X.env) (λx s₁=>Kr (model X.prog X.w) X.A (Rg x) (λit s₂=>Kr (model X.prog X.w) X.A (newList []) (λacc s₃=>
  Kr (model X.prog X.w) X.A (Sz sc X.env.globals (aW X.env.cells sc.names []) [] X.env.qual Y .none (Z X.env)) (λcenv s₄=>OT (model X.prog X.w) X.A (.compStart (.ListComp elt (⟨target,iter,ifs,0⟩::rest) sc pos) 0 it acc {cenv with scope:=relabel sc X.env}) (RR acc cenv.locals) s₄) E s₃) E s₂) E s₁) E s:=by
 refine nox hx (thn (hi pins s σ H _ I h) λv s1 h1=>nox hx (thn h1 λitv s2 h2=>?_));obtain⟨it,fp,tn,J,H2,e,pv,T,j,f2,hw⟩:=h2;subst e;have hf:H2 s2.heap.objs.size=Y:=pv.hok.fresh (Ku _);refine Q8 ?_;have fv:Inv X pins σ (upd H2 s2.heap.objs.size (.lst [])) {s2 with heap:=s2.heap.push {cls:=.type "list",dict:=Y,data:=.seq ([]:List hH).toArray}}:=pv.laid (t':=s2.toks) (λb u e=>hW _ e) (Ku _) ⟨Mj _,[],0,.nil,Kj _ rfl⟩
 have fneq:∀b∈fp,b≠s2.heap.objs.size:=λb hb z=>by obtain⟨o,e,_⟩:=T.obj _ _ j b hb;exact absurd (Kg e) (by rw[z];exact LD _)
 have L:∀b∈fp,cw X pins (upd H2 s2.heap.objs.size (.lst [])) b:=λb hb=>⟨by rw[ao (fneq b hb)];exact(f2 b hb).1,(f2 b hb).2⟩
 have O:∀b∈fp,b<(s2.heap.push {cls:=.type "list",dict:=Y,data:=.seq ([]:List hH).toArray}).objs.size:=λb hb=>by obtain⟨o,e,_⟩:=T.obj _ _ j b hb;rw[Mc];exact PD (Kg e)
 have U:tn 0 (s2.heap.push {cls:=.type "list",dict:=Y,data:=.seq ([]:List hH).toArray}):=T.keep _ _ _ j λb _ o e=>hW _ e;refine nn ?_;have F:=uU (N':=N') fv L O B;have q:=T.keep _ (h':=Uc (({s2 with heap:=s2.heap.push {cls:=.type "list",dict:=Y,data:=.seq ([]:List hH).toArray}}:p7).heap.push {cls:=.type "dict",data:=.dict #[]}) sc.names) _ U λb _ o e=>Sg _ _ b o (hW _ e)
 have f4:∀b∈fp,cw (aK X sc N' {s2 with heap:=s2.heap.push {cls:=.type "list",dict:=Y,data:=.seq ([]:List hH).toArray}} (upd H2 s2.heap.objs.size (.lst [])) fp) [] (upd H2 s2.heap.objs.size (.lst [])) b:=λb hb=>⟨(L b hb).1,(F.ok.exf b hb).1,F.ok.exfs b hb,.inl hb,(F.ok.exf b hb).2,λp hp=>absurd (show p∈([]:List (VH×Obj))from hp) (by simp)⟩
 have loop:=lN (X:=aK X sc N' {s2 with heap:=s2.heap.push {cls:=.type "list",dict:=Y,data:=.seq ([]:List hH).toArray}} (upd H2 s2.heap.objs.size (.lst [])) fp) (λ_ _ z=>z) hc
  (elt:=elt) (pos:=pos) (scope:=sc) (gens:=⟨target,iter,ifs,0⟩::rest) (d:=0) (acc:=.ref s2.heap.objs.size) rfl (λg' e=>ha g' (by simpa using e)) (hg _ _ _) (hb _ _ _ _) F T q f4 (hw _ hf)
 refine OU (jx (R:=λr s'=>match r with|.ok _=>∃σ' H',Inv (aK X sc N' {s2 with heap:=s2.heap.push {cls:=.type "list",dict:=Y,data:=.seq ([]:List hH).toArray}} (upd H2 s2.heap.objs.size (.lst [])) fp) [] σ' H' s'/\Nn s2.heap.objs.size σ' H'|.error _=>False)
  (gens:=⟨target,iter,ifs,0⟩::rest) (d:=0) rfl loop (T.self _ 0 _ _ _ q loop)) λr s5 hr=>?_
 cases r with
 |error e=>exact hr.elim
 |ok f=>obtain⟨σ5,H5,I5,n5⟩:=hr;exact hR _ fp _ _ s5 σ5 H5 f fv L I5 n5
noncomputable def sV(wi:TI)(g:TG)(tb:VH->TC)(fr:List (Option Nat)):TE:=λσ H Q=>wi σ H λJ H1=>∀p,H1 p=Y->cz J g (tb p) (λ_ H2=>Q (.ref p) H2) (inh fr σ) (upd H1 p (.lst []))
theorem lU(B:b8 sc X.env.scope X.N N' fr):∀x∈sc.names,x.2=.local->sc.names.lookup x.1=Z .local:=λx hx e=>by obtain⟨n,k⟩:=x;have e':k=.local:=e;subst e';exact aV B.nd hx
theorem iC(hc:X.calm=F2){rest:List LO}(hx:∀e s,X.xe e s->False)(B:b8 sc X.env.scope X.N N' fr)(z:∀g',rest[0]?=Z g'->g'.is_async=0)(hi:PI X target iter wi){tb:VH->TC}(F:∀s H fp,PG (aK X sc N' s H fp) target g)(hb:∀s H fp p,PB (aK X sc N' s H fp) (λk=>bm ifs (aK X sc N' s H fp).env>>=λok=>if ok=F2 then b7 elt (⟨target,iter,ifs,0⟩::rest) sc pos 0 (.ref p) (aK X sc N' s H fp).env k else k) (tb p))(hs:∀x,Ng iter X.env x=pure x):
 PE X (.ListComp elt (⟨target,iter,ifs,0⟩::rest) sc pos) (sV wi g tb fr):=by
 intro pins s σ H Q I h;rw[eval_ListComp];refine Rh (use:=Y) rfl hs (jy (gj I B)) B.kind (lU B) (ox (Nn:=λp _ H2=>Q (.ref p) H2) (RR:=λacc C=>compPost (model X.prog X.w) X.A X.xe Y (EP X pins σ Q) acc C) hc hx B z hi F hb I h ?_);intro p fp s3 U s' σ' H' f G L J q;obtain⟨m,O,_⟩:=J.loc;exact⟨m,O,λh' j=>⟨.ref p,H',lQ G L J j,rfl,q⟩⟩
theorem jz(hc:X.calm=F2){rest:List LO}{spos:Pos}{x:Str}{i:Nat}(hx:∀e s,X.xe e s->False)(B:b8 sc X.env.scope X.N N' fr)(ha:∀g',rest[0]?=Z g'->g'.is_async=0)(hi:PI X target iter wi){tb:VH->TC}(hg:∀s H fp,PG (aK X sc N' s H fp) target g)(hb:∀s H fp p,PB (aK X sc N' s H fp) (λk=>bm ifs (aK X sc N' s H fp).env>>=λok=>if ok=F2 then b7 elt (⟨target,iter,ifs,0⟩::rest) sc pos 0 (.ref p) (aK X sc N' s H fp).env k else k) (tb p))(hs:∀x,Ng iter X.env x=pure x)(F:PG X (.Name x pos') (jj i))(G:Pp (.ListComp elt (⟨target,iter,ifs,0⟩::rest) sc pos) (Z (.Name x pos')) spos.line X.env=pure F2):
 PS X (.Assign [.Name x pos'] (.ListComp elt (⟨target,iter,ifs,0⟩::rest) sc pos) spos) (sB (sV wi g tb fr) (jj i)):=by
 intro pins s σ H D I h;rw[exec_Assign_Name_used _ _ _ _ G];refine gV (OB (gV ?_));show Kr _ X.A (do let _ <-comprehension (.ListComp elt (⟨target,iter,ifs,0⟩::rest) sc pos) sc X.env _ (newList []) N3 (eval iter X.env) (Z (assign (.Name x pos') X.env))) _ _ s
 refine gV (LW (Rh (use:=Z (assign (.Name x pos') X.env)) (Q:=λ_ s'=>SP X pins D .next s') rfl hs (jy (gj I B)) B.kind (lU B)
  (ox (Nn:=λp _ H2=>D.nx (σ.set i (Z (.ref p))) H2) (RR:=λacc C=>compPost (model X.prog X.w) X.A X.xe (Z (assign (.Name x pos') X.env)) (λ_ s'=>SP X pins D .next s') acc C) hc hx B ha hi hg hb I h ?_)) (λ_ s' hq=>D0 (D0 hq)) λ_ _ e=>e)
 intro p fp s3 H3 s' σ' H' f j f3 J q;obtain⟨m,⟨o,es,ep,ho,hd,hk,hm⟩,_⟩:=J.loc;have I4:Inv X pins σ H' s':=lQ (h':=s'.heap) j f3 J ⟨rfl,λ_ _=>rfl⟩;have hL:(aK X sc N' s3 H3 fp).env.locals=s3.heap.objs.size:=rfl;rw[hL]at ho;have L:H' s3.heap.objs.size=Y:=J.free;have neL:s3.heap.objs.size≠X.env.locals:=LR j.lt;have nfs:s3.heap.objs.size∉X.fs:=j.nofs (Ku _);have I5:Inv X (pins++[(s3.heap.objs.size,o)]) σ H' s':=I4.pins_of λpr O=>by
  rcases Kz.mp O with z|z
  ·exact I4.pin pr (KR _ z)
  ·have e:pr=(s3.heap.objs.size,o):=by simpa using z
   subst e;exact⟨ho,L,neL,nfs,λv z=>by rw[hd]at z;cases z⟩
 show Kr _ X.A (assign (.Name x pos') X.env (.ref p)) _ _ _;refine thn (F _ s' σ H' (.ref p) (.ref p) D.nx I5 rfl q) λ_ s6 g9=>?_;obtain⟨σ6,H6,I6,q6⟩:=g9;obtain⟨U,pv,_⟩:=I6.pin (s3.heap.objs.size,o) (KR _ (KR _ (by simp)))
 refine⟨m,⟨o,es,ep,U,hd,hk,hm⟩,λh' fv=>⟨σ6,H6,?_,q6⟩⟩;refine(I6.unpinned).turned (t':=s6.toks) (it:=s3.heap.objs.size) (λb o hb e=>(fv.2 b hb).trans e) pv neL (.inr j.sz) (λy c e z=>?_) λpr O z=>?_
 ·obtain⟨v,q⟩:=j.cell y c e;exact absurd q.lt (by rw[z];exact LD _)
 ·exact absurd (Kg (j.pin pr O).1) (by rw[z];exact LD _)
end
end
end
namespace Zp
def At(t:Bool)(h:Heap)(i l:VH)(k:Nat):Prop:=match t with|true=>h.IsTupleIter i l k|false=>h.IsListIter i l k
def Sq(t:Bool)(h:Heap)(l:VH)(xs:Array hH):Prop:=match t with|true=>h.IsTuple l xs|false=>h.IsList l xs
variable{h:Heap}{i l:VH}
theorem At.up{t:Bool}{h':Heap}{k:Nat}(x:At t h i l k)(e:∀o,h.get? i=Z o->h'.get? i=Z o):At t h' i l k:=by cases t<;>(obtain⟨o,ho,r⟩:=x;exact⟨o,e o ho,r⟩)
variable{xs:Array hH}
theorem Sq.up{t:Bool}{h':Heap}(x:Sq t h l xs)(e:∀o,h.get? l=Z o->h'.get? l=Z o):Sq t h' l xs:=by cases t<;>(obtain⟨o,ho,r⟩:=x;exact⟨o,e o ho,r⟩)
theorem At.lt{t:Bool}{k:Nat}(x:At t h i l k):∃o,h.get? i=Z o/\∀v,o.data≠.cell v:=by cases t<;>(obtain⟨o,ho,hc,hd⟩:=x;exact⟨o,ho,λv z=>by rw[hd]at z;cases z⟩)
variable{x p r:hH}{z T j a b:VH}{u:Bool}{ys:Array hH}
section
variable{prog:KW}{w:Lo}{A:Lr}{E:hH->p7->Prop}{s:p7}
open Builtin.SmallTypes in
theorem xO{k:Nat}{Q:hH->p7->Prop}(hi:s.heap.IsTupleIter i l k)(hl:s.heap.IsTuple l xs)(hx:xs[k]?=Z x)(q:∀h',h'.IsTupleIter i l (k+1)->Mo i s.heap h'->Q x {s with heap:=h'}):Kr (model prog w) A (nextOf (.ref i)) Q E s:=by
 obtain⟨ob,z,B,j⟩:=id hi;obtain⟨oq,G,_,nq,J⟩:=hl;unfold nextOf;refine gV (La (name:=LI "__next__") hi.typeIs NJ (Le NJ hi.typeIs Qw ?_ (Ql _)));refine gV (m:=field (.ref i) 0) (Lg z j (x:=.ref l) rfl ?_);refine(if_neg (c:=(KZ l==N6)=F2) Kl)▸?_;refine gV (m:=field (.ref i) 1) (Lg z j (x:=.int k 0) rfl ?_);refine gV (m:=SS (.ref l)) (MB G J ?_);simp only[KL,hx];refine gV (wpAny_setField z j (by simp) (D0 ⟨x,rfl,D0 (q _ ⟨_,OF _ z (Obj.isFreed_of_fields (Tj j _)),(Obj.cls_mapFields ..).trans B,?_⟩ (SW ..))⟩))
 rw[Tj j];simp[Nw]
open Builtin.SmallTypes in
theorem Aq{k:Nat}{Q:hH->p7->Prop}(J:A.handled=Y)(hi:s.heap.IsTupleIter i l k)(hl:s.heap.IsTuple l xs)(hx:xs[k]?=Y)(q:∀h' e,UA i s.heap h'->(∃o,h'.get? e=Z o/\o.cls=.type "StopIteration")->E (.ref e) {s with heap:=h'}):Kr (model prog w) A (nextOf (.ref i)) Q E s:=by
 obtain⟨ob,j,L,z⟩:=id hi;obtain⟨oq,B,_,nq,G⟩:=hl;unfold nextOf;refine gV (La (name:=LI "__next__") hi.typeIs NJ (Le NJ hi.typeIs Qw ?_ (Ql _)));refine gV (m:=field (.ref i) 0) (Lg j z (x:=.ref l) rfl ?_);refine(if_neg (c:=(KZ l==N6)=F2) Kl)▸?_;refine gV (m:=field (.ref i) 1) (Lg j z (x:=.int k 0) rfl ?_);refine gV (m:=SS (.ref l)) (MB B G ?_);simp only[KL,hx];refine gV (MW (gV (wpAny_setField j z (by simp) ?_)))
 refine gV (m:=V4 (.type "StopIteration") []) ?_;simp only[V4,V5];refine gV (LQ ?_ (by size_fits))
 refine gV (m:=OO _ _) (NB (a:=N6) (by first|rfl|(simp only[OO];rfl)) (LQ ?_ (by size_fits)))
 simp only[raiseNew];refine gV (T6 ?_)
 first|rw[show A.in1.handled=Y from J]|rw[J]
 exact gV (D0 (UB (q _ _ (((SW ..).extBut.push _).push _) ⟨_,Kj _ rfl,rfl⟩)))
open Builtin.SmallTypes in
theorem dB{t:Bool}{k:Nat}{Q:hH->p7->Prop}(hi:At t s.heap i l k)(hl:Sq t s.heap l xs)(hx:xs[k]?=Z x)(q:∀h',At t h' i l (k+1)->Mo i s.heap h'->Q x {s with heap:=h'}):Kr (model prog w) A (nextOf (.ref i)) Q E s:=by
 cases t with
 |true=>exact xO hi hl hx q
 |false=>exact wpAny_nextOf_list_item hi hl hx q
open Builtin.SmallTypes in
theorem nx_end{t:Bool}{k:Nat}{Q:hH->p7->Prop}(j:A.handled=Y)(hi:At t s.heap i l k)(hl:Sq t s.heap l xs)(hx:xs[k]?=Y)(q:∀h' e,UA i s.heap h'->(∃o,h'.get? e=Z o/\o.cls=.type "StopIteration")->E (.ref e) {s with heap:=h'}):Kr (model prog w) A (nextOf (.ref i)) Q E s:=by
 cases t with
 |true=>exact Aq j hi hl hx q
 |false=>exact wpAny_nextOf_list_end j hi hl hx q
open Builtin.SmallTypes in
theorem CF {O:VH}{t:Bool}{k:Nat}{y:hH}{Q:hH->p7->Prop}(D:SA z T O i j a b)(G:Rb s.heap z T O .none)(hT:O6 s.heap T (.ref i) (.ref j))(hO:O6 s.heap O p r)(hi:At t s.heap i a k)(hj:At u s.heap j b k)(ha:Sq t s.heap a xs)(hb:Sq u s.heap b ys)(hx:xs[k]?=Z x)(hy:ys[k]?=Z y)(q:∀h',Rb h' z T O (Nw s.heap.objs.size)->O6 h' O x y->At t h' i a (k+1)->At u h' j b (k+1)->O6 h' s.heap.objs.size x y->
   (∀c o,c≠z->c≠O->c≠i->c≠j->s.heap.get? c=Z o->h'.get? c=Z o)->Q (.ref s.heap.objs.size) {s with heap:=h'}):
 Kr (model prog w) A (Mp.«zip.__next__» ⟨[.ref z],[]⟩) (λfin s'=>∃v,fin=.done (.ret v)/\Q v s') E s:=by
 refine gV (m:=field (.ref z) 2) (Lg G rfl (x:=.bool N3) rfl ?_);refine gV (m:=field (.ref z) 3) (Lg G rfl (x:=.ref T) rfl ?_);refine gV (MB hT rfl ?_);refine gV (m:=ownedTupleIsFree (.ref z)) ?_;unfold ownedTupleIsFree;refine gV (Lg G rfl (x:=.none) rfl (D0 ?_));simp only[if_true];refine gV (MW (gV (Lg G rfl (x:=.ref O) rfl (gV (KI G (by simp) λg1 z1 s1=>?_)))))
 have Z1:Rb g1 z T O .ellipsis:=z1;clear z1;refine gV ?_;simp only[Rz,UM,Oz,SD];refine gV (gV (Ri (gV (m:=nextOf (.ref i)) ?_)));refine dB (hi.up λo e=>s1.extBut _ o D.i1z e) (ha.up λo e=>s1.extBut _ o D.l1z e) hx λg2 U s2=>D0 ?_;have O2:O6 g2 O p r:=s2.extBut _ _ D.TOi1 (s1.extBut _ _ D.TOz hO);refine gV (MB O2 rfl (gV (Qb O2 λg3 o3 s3=>?_)));have O3:O6 g3 O x r:=o3;clear o3;refine gV (NU (D0 (gV (gV (Ri (gV (m:=nextOf (.ref j)) ?_))))));refine dB (hj.up λo e=>s3.extBut _ o D.TOi2.symm (s2.extBut _ o D.i12.symm (s1.extBut _ o D.i2z e))) (hb.up λo e=>s3.extBut _ o D.l2TO (s2.extBut _ o D.l2i1 (s1.extBut _ o D.l2z e))) hy λg4 pv s4=>D0 ?_;have O4:O6 g4 O x r:=s4.extBut _ _ D.TOi2 O3;refine gV (MB O4 rfl (gV (Qb O4 λB o5 s5=>?_)));have O5:O6 B O x y:=o5;clear o5;refine gV (NU (D0 (D0 (gV (MB O5 rfl (gV (OP ?_)))))));have sz:B.objs.size=s.heap.objs.size:=by rw[s5.1,s4.1,s3.1,s2.1,s1.1]
 have k5:∀c o,c≠z->c≠O->c≠i->c≠j->s.heap.get? c=Z o->B.get? c=Z o:=λc o F J fv c4 e=>s5.extBut _ _ J (s4.extBut _ _ c4 (s3.extBut _ _ J (s2.extBut _ _ fv (s1.extBut _ _ F e))))
 have Z5:Rb B z T O .ellipsis:=s5.extBut _ _ D.TOz.symm (s4.extBut _ _ D.i2z.symm (s3.extBut _ _ D.TOz.symm (s2.extBut _ _ D.i1z.symm Z1)));have I5:At t B i a (k+1):=U.up λo e=>s5.extBut _ o D.TOi1.symm (s4.extBut _ o D.i12 (s3.extBut _ o D.TOi1.symm e));have J5:At u B j b (k+1):=pv.up λo e=>s5.extBut _ o D.TOi2.symm e;have zl:z<B.objs.size:=Kg Z5;refine gV (m:=ownedTupleHandOut (.ref z) (.ref B.objs.size)) ?_;unfold ownedTupleHandOut;refine gV (KI (hW _ Z5) (by simp) λg7 z7 s7=>?_)
 have Z7:Rb g7 z T O (Nw B.objs.size):=z7;clear z7;refine KI Z7 (by simp) λL z8 s8=>?_
 have Z8:Rb L z T O (Nw B.objs.size):=z8;clear z8;have up:∀c o,c≠z->B.get? c=Z o->L.get? c=Z o:=λc o F e=>s8.extBut _ _ F (s7.extBut _ _ F (hW _ e));have P8:O6 L B.objs.size x y:=s8.extBut _ _ (LR zl) (s7.extBut _ _ (LR zl) (Kj _ rfl));rw[sz]at Z8 P8;refine D0 ⟨_,rfl,?_⟩;show Q (.ref B.objs.size) _;rw[sz];exact q L Z8 (up _ _ D.TOz O5) (I5.up λo e=>up _ o D.i1z e) (J5.up λo e=>up _ o D.i2z e) P8 λc o F J fv c4 e=>up c o F (k5 c o F J fv c4 e)
open Builtin.SmallTypes in
theorem Ei{O:VH}{t:Bool}{k:Nat}{Q:Fin->p7->Prop}(hn:A.handled=Y)(D:SA z T O i j a b)(G:Rb s.heap z T O .none)(hT:O6 s.heap T (.ref i) (.ref j))(hO:O6 s.heap O p r)(hi:At t s.heap i a k)(hj:At u s.heap j b k)(ha:Sq t s.heap a xs)(hb:Sq u s.heap b ys)(J:xs[k]?=Y∨ys[k]?=Y)(q:∀h' e,(∀c o,c≠z->c≠O->c≠i->c≠j->s.heap.get? c=Z o->h'.get? c=Z o)->(∃o,h'.get? e=Z o/\o.cls=.type "StopIteration")->E (.ref e) {s with heap:=h'}):
 Kr (model prog w) A (Mp.«zip.__next__» ⟨[.ref z],[]⟩) Q E s:=by
 refine gV (m:=field (.ref z) 2) (Lg G rfl (x:=.bool N3) rfl ?_);refine gV (m:=field (.ref z) 3) (Lg G rfl (x:=.ref T) rfl ?_);refine gV (MB hT rfl ?_);refine gV (m:=ownedTupleIsFree (.ref z)) ?_;unfold ownedTupleIsFree;refine gV (Lg G rfl (x:=.none) rfl (D0 ?_));simp only[if_true];refine gV (MW (gV (Lg G rfl (x:=.ref O) rfl (gV (KI G (by simp) λg1 z1 s1=>?_)))))
 have Z1:Rb g1 z T O .ellipsis:=z1;clear z1;refine gV ?_;simp only[Rz,UM,Oz,SD];refine gV (gV (Ri (gV (m:=nextOf (.ref i)) ?_)));have L:At t g1 i a k:=hi.up λo e=>s1.extBut _ o D.i1z e;have U:Sq t g1 a xs:=ha.up λo e=>s1.extBut _ o D.l1z e
 cases hx:xs[k]? with
 |none=>
  refine nx_end hn L U hx λg2 e s2 he=>?_;obtain⟨oe,B,F⟩:=he;have Z2:Rb g2 z T O .ellipsis:=s2 _ _ D.i1z.symm Z1;have ez:e≠z:=λx=>by subst x;rw[Z2]at B;cases B;simp at F
  exact KI Z2 (by simp) λg3 _ s3=>q g3 e (λc o pv _ fv _ x=>s3.extBut _ _ pv (s2 _ _ fv (s1.extBut _ _ pv x))) ⟨oe,s3.extBut _ _ ez B,F⟩
 |some x=>
  have hy:ys[k]?=Y:=J.elim (λz=>by rw[hx]at z;cases z) id
  refine dB L U hx λg2 HY s2=>D0 ?_;have O2:O6 g2 O p r:=s2.extBut _ _ D.TOi1 (s1.extBut _ _ D.TOz hO);refine gV (MB O2 rfl (gV (Qb O2 λg3 o3 s3=>?_)));refine gV (NU (D0 (gV (gV (Ri (gV (m:=nextOf (.ref j)) ?_))))));refine nx_end hn (hj.up λo e=>s3.extBut _ o D.TOi2.symm (s2.extBut _ o D.i12.symm (s1.extBut _ o D.i2z e))) (hb.up λo e=>s3.extBut _ o D.l2TO (s2.extBut _ o D.l2i1 (s1.extBut _ o D.l2z e))) hy λg4 e s4 he=>?_;obtain⟨oe,B,F⟩:=he;have Z4:Rb g4 z T O .ellipsis:=s4 _ _ D.i2z.symm (s3.extBut _ _ D.TOz.symm (s2.extBut _ _ D.i1z.symm Z1));have ez:e≠z:=λx=>by subst x;rw[Z4]at B;cases B;simp at F
  exact KI Z4 (by simp) λg5 _ s5=>q g5 e (λc o pv c2 fv c4 x=>s5.extBut _ _ pv (s4 _ _ c4 (s3.extBut _ _ c2 (s2.extBut _ _ fv (s1.extBut _ _ pv x))))) ⟨oe,s5.extBut _ _ ez B,F⟩
theorem nxt_item {O:VH}{t:Bool}{k:Nat}{y:hH}{Q:Option hH->p7->Prop}(D:SA z T O i j a b)(B:Rb s.heap z T O .none)(hT:O6 s.heap T (.ref i) (.ref j))(G:O6 s.heap O p r)(hi:At t s.heap i a k)(J:At u s.heap j b k)(L:Sq t s.heap a xs)(hb:Sq u s.heap b ys)(hx:xs[k]?=Z x)(U:ys[k]?=Z y)(q:∀h',Rb h' z T O (Nw s.heap.objs.size)->O6 h' O x y->At t h' i a (k+1)->At u h' j b (k+1)->O6 h' s.heap.objs.size x y->
   (∀c o,c≠z->c≠O->c≠i->c≠j->s.heap.get? c=Z o->h'.get? c=Z o)->Q (Z (.ref s.heap.objs.size)) {s with heap:=h'}):
 Kr (model prog w) A (MZ (.ref z)) Q E s:=by
 have ty:s.TypeIs (.ref z) "zip":=⟨_,B,rfl⟩;unfold MZ;exact gV (Nb (La (name:=LI "__next__") ty Qm (Le Qm ty Ud
  (CF D B hT G hi J L hb hx U λh' a1 a2 pv fv a5 a6=>D0 (q h' a1 a2 pv fv a5 a6)) (TJ _))))
theorem nxt_end{O:VH}{t:Bool}{k:Nat}{Q:Option hH->p7->Prop}(J:A.handled=Y)(D:SA z T O i j a b)(G:Rb s.heap z T O .none)(hT:O6 s.heap T (.ref i) (.ref j))(L:O6 s.heap O p r)(hi:At t s.heap i a k)(U:At u s.heap j b k)(pv:Sq t s.heap a xs)(hb:Sq u s.heap b ys)(B:xs[k]?=Y∨ys[k]?=Y)(q:∀h',(∀c o,c≠z->c≠O->c≠i->c≠j->s.heap.get? c=Z o->h'.get? c=Z o)->Q Y {s with heap:=h'}):Kr (model prog w) A (MZ (.ref z)) Q E s:=by
 have ty:s.TypeIs (.ref z) "zip":=⟨_,G,rfl⟩;unfold MZ;refine gV (Nb (La (name:=LI "__next__") ty Qm (Le Qm ty Ud
  (Ei J D G hT L hi U pv hb B λh' e fv he=>?_) (TJ _))))
 obtain⟨o,ho,hc⟩:=he;exact gV (Od (T:="StopIteration") (b:=F2) ⟨o,ho,hc⟩ QN (D0 (q _ fv)))
noncomputable def itO(t:Bool)(l:VH):Obj:=match t with|true=>{cls:=.type "tuple_iterator",data:=.fields #[.ref l,.int 0 0]}|false=>{cls:=.type "list_iterator",data:=.fields #[.ref l,.int 0 0]}
noncomputable def zH1(h:Heap)(t:Bool)(a:VH):Heap:=h.push (itO t a)
noncomputable def zH2(h:Heap)(t u:Bool)(a b:VH):Heap:=(zH1 h t a).push (itO u b)
noncomputable def zH3(h:Heap)(t u:Bool)(a b:VH):Heap:=(zH2 h t u a b).push {cls:=.type "tuple",data:=.seq #[.ref h.objs.size,.ref (zH1 h t a).objs.size]}
noncomputable def zH4(h:Heap)(t u:Bool)(a b:VH):Heap:=(zH3 h t u a b).push {cls:=.type "tuple",data:=.seq #[.none,.none]}
noncomputable def zH5(h:Heap)(t u:Bool)(a b:VH):Heap:=(zH4 h t u a b).push {cls:=.type "zip",data:=.fields #[.none,.bool N3,.bool N3,.ref (zH2 h t u a b).objs.size,.ref (zH3 h t u a b).objs.size]}
theorem uV(t u:Bool)(a b:VH)(xs ys:Array hH):
 Meets (Mp.«zip.__new__» ⟨[.type "zip",.ref a,.ref b],[]⟩) (λ_ R s=>Sq t s.heap a xs/\Sq u s.heap b ys/\R (.ok (.ret (.ref (zH4 s.heap t u a b).objs.size))) {s with heap:=zH5 s.heap t u a b}):=
 .of_wp λprog w A R s h=>by
  obtain⟨j,g,d,tk,os⟩:=s;obtain⟨q,hb,h⟩:=h;have hs:=sub_zip
  cases t<;>cases u
  ·have e1:SE (Of ⟨j,g,d,tk,os⟩) a xs:=q;have e2:SE (Of ⟨j.push {cls:=.type "list_iterator",data:=.fields #[.ref a,.int 0 0]},g,d,tk,os⟩) b ys:=Ue hb _
   wp_walk using Ni e1,Ni e2
   exact⟨_,rfl,h⟩
  ·have e1:SE (Of ⟨j,g,d,tk,os⟩) a xs:=q;have e2:Qx (Of ⟨j.push {cls:=.type "list_iterator",data:=.fields #[.ref a,.int 0 0]},g,d,tk,os⟩) b ys:=TK hb _
   wp_walk using Ni e1,MM e2
   exact⟨_,rfl,h⟩
  ·have e1:Qx (Of ⟨j,g,d,tk,os⟩) a xs:=q;have e2:SE (Of ⟨j.push {cls:=.type "tuple_iterator",data:=.fields #[.ref a,.int 0 0]},g,d,tk,os⟩) b ys:=Ue hb _
   wp_walk using MM e1,Ni e2
   exact⟨_,rfl,h⟩
  ·have e1:Qx (Of ⟨j,g,d,tk,os⟩) a xs:=q;have e2:Qx (Of ⟨j.push {cls:=.type "tuple_iterator",data:=.fields #[.ref a,.int 0 0]},g,d,tk,os⟩) b ys:=TK hb _
   wp_walk using MM e1,MM e2
   exact⟨_,rfl,h⟩
theorem at_new{t:Bool}(e:h.get? i=Z (itO t l)):At t h i l 0:=by cases t<;>exact⟨_,e,rfl,rfl⟩
theorem call_zip {t:Bool}{Q:hH->p7->Prop}(ha:Sq t s.heap a xs)(hb:Sq u s.heap b ys)(q:∀h',Rb h' (s.heap.objs.size+4) (s.heap.objs.size+2) (s.heap.objs.size+3) .none->O6 h' (s.heap.objs.size+2) (.ref s.heap.objs.size) (.ref (s.heap.objs.size+1))->
   O6 h' (s.heap.objs.size+3) .none .none->At t h' s.heap.objs.size a 0->At u h' (s.heap.objs.size+1) b 0->h'.objs.size=s.heap.objs.size+5->
   (∀c o,s.heap.get? c=Z o->h'.get? c=Z o)->Q (.ref (s.heap.objs.size+4)) {s with heap:=h'}):
 Kr (model prog w) A (call (.type "zip") [.ref a,.ref b]) Q E s:=by
 refine callType_new F.called_zip (by decide) (F.typeCall_zip_2 _ _) (F.newCall_zip_2 _ _) (λobj=>F.args_object_init_3 obj _ _) F.entry_zip_new (uV t u a b xs ys) ⟨ha,hb,?_⟩
 have B:(zH1 s.heap t a).objs.size=s.heap.objs.size+1:=Mc ..;have G:(zH2 s.heap t u a b).objs.size=s.heap.objs.size+2:=by unfold zH2;rw[Mc,B]
 have J:(zH3 s.heap t u a b).objs.size=s.heap.objs.size+3:=by unfold zH3;rw[Mc,G]
 have L:(zH4 s.heap t u a b).objs.size=s.heap.objs.size+4:=by unfold zH4;rw[Mc,J]
 have z5:(zH5 s.heap t u a b).objs.size=s.heap.objs.size+5:=by unfold zH5;rw[Mc,L]
 have j:∀{c o},(zH4 s.heap t u a b).get? c=Z o->(zH5 s.heap t u a b).get? c=Z o:=λe=>hW _ e;have z:∀{c o},(zH3 s.heap t u a b).get? c=Z o->(zH4 s.heap t u a b).get? c=Z o:=λe=>hW _ e;have O:∀{c o},(zH2 s.heap t u a b).get? c=Z o->(zH3 s.heap t u a b).get? c=Z o:=λe=>hW _ e;have pv:∀{c o},(zH1 s.heap t a).get? c=Z o->(zH2 s.heap t u a b).get? c=Z o:=λe=>hW _ e;have k1:∀{c o},s.heap.get? c=Z o->(zH1 s.heap t a).get? c=Z o:=λe=>hW _ e;have f:∀t l,(itO t l).isFreed=N3:=λt l=>by cases t<;>rfl
 have U:(zH5 s.heap t u a b).get? (zH4 s.heap t u a b).objs.size=Z _:=Kj _ rfl;have fv:(zH5 s.heap t u a b).get? (zH3 s.heap t u a b).objs.size=Z _:=j (Kj _ rfl);have g3:(zH5 s.heap t u a b).get? (zH2 s.heap t u a b).objs.size=Z _:=j (z (Kj _ rfl));have g2:(zH5 s.heap t u a b).get? (zH1 s.heap t a).objs.size=Z _:=j (z (O (Kj _ (f u b))));have g1:(zH5 s.heap t u a b).get? s.heap.objs.size=Z _:=j (z (O (pv (Kj _ (f t a)))));show _/\_;rw[G,J,L]at U;rw[B,G]at g3;rw[J]at fv;rw[B]at g2;rw[L];exact⟨⟨_,U,rfl⟩,q _ U g3 fv (at_new g1) (at_new g2) z5 λc o x=>j (z (O (pv (k1 x))))⟩
end
end Zp
variable{K:Frag}{elts:List Expr}
section
section
variable{X:Cx}{pins:List (VH×Obj)}{σ:St}{H:Hp}{s:p7}{h':Heap}
theorem Inv.turnedL{fp:List VH}(I:Inv X pins σ H s)(hf:∀b∈fp,cw X pins H b)(k:∀b o,b∉fp->s.heap.get? b=Z o->h'.get? b=Z o):Inv X pins σ H {s with heap:=h',toks:=t'}:=by
 have nit:∀b u,H b=Z u->b∉fp:=λb u e z=>by rw[(hf b z).1]at e;cases e
 refine I.step (g':=s.gens) (d':=s.drawn) (ch:=fp) (λb hb=>?_) (λb o _ _ hc e _=>k b o hc e) (λb o _ _ hc e _=>⟨o.slots,k b o hc e⟩) (λ_ _ _ _ n=>n)
  (λb o hc e=>⟨o,k b o hc e⟩) (λ_ _ e=>e) (λ_ _ _ e=>e) (λb ps e=>⟨#[],by rw[e];simp⟩) (λm hm=>?_) (λb u e=>?_) I.bare
 ·obtain⟨_,f1,_,j,f4,B⟩:=hf b hb;exact⟨j,f1,f4,B⟩
 ·obtain⟨o,es,ep,ho,r⟩:=hm;exact⟨o,es,ep,k _ o (λz=>(hf _ z).2.1 rfl) ho,r⟩
 ·refine(I.hok b u e).stay (λc v hc q=>k c v ?_ q) (λ_ q=>q) λ_ _ q=>q
  rcases hc with z|z
  ·rw[z];exact nit b u e
  ·exact nit c _ z
end
def SqV(K:Frag)(t:Bool)(H:Hp)(a:VH)(xs:List V):Prop:=match t with|true=>SqT K H a xs|false=>SqL K H a xs
theorem Inv.sqv{t:Bool}{xs:List V}(I:Inv X pins σ H s)(h:SqV X.K t H a xs):∃its:List hH,Vals xs its/\Zp.Sq t s.heap a its.toArray:=by
 cases t with
 |true=>obtain⟨its,r,p,_⟩:=I.tuple h;exact⟨its,r,p⟩
 |false=>obtain⟨its,r,p,_⟩:=I.list h;exact⟨its,r,p.isList⟩
theorem Inv.sqv_inj{t:Bool}{xs ys:List V}(I:Inv X pins σ H s)(h:SqV X.K t H a xs)(h':SqV X.K t H a ys):xs=ys:=by
 cases t with
 |true=>exact I.tuple_inj h h'
 |false=>exact I.list_inj h h'
noncomputable def Itz(K:Frag)(t u:Bool)(a b:VH):It:=
 ⟨λi H=>∃xs ys x y,SqV K t H a xs/\SqV K u H b ys/\xs[i]?=Z x/\ys[i]?=Z y,
  λi H v H'=>∃p x y,H p=Y/\v=.ref p/\H'=upd H p (.tup [x,y])/\∀xs ys,SqV K t H a xs->SqV K u H b ys->xs[i]?=Z x/\ys[i]?=Z y,
  λi H=>∃xs ys,SqV K t H a xs/\SqV K u H b ys/\(xs.length<=i∨ys.length<=i)⟩
theorem xP{cx}{t u:Bool}{z T O i j:VH}(D:SA z T O i j a b):
 fX P w K (.Tuple elts cx pos) (Itz K t u a b) [z,T,O,i,j] z (λk h=>Rb h z T O .none/\O6 h T (.ref i) (.ref j)/\(∃p r,O6 h O p r)/\Zp.At t h i a k/\Zp.At u h j b k) where
 mem:=by simp
 obj:=λk h ⟨q,hT,⟨p,r,B⟩,hi,F⟩ c hc=>by
  simp only[Km,Lj,or_false]at hc
  rcases hc with rfl|rfl|rfl|rfl|rfl
  ·exact⟨_,q,λv e=>by cases e⟩
  ·exact⟨_,hT,λv e=>by cases e⟩
  ·exact⟨_,B,λv e=>by cases e⟩
  ·exact hi.lt
  ·exact F.lt
 keep:=λk h h' g9 kk=>(by obtain⟨q,hT,⟨p,r,B⟩,hi,F⟩:=g9;exact⟨kk z (by simp) _ q,kk T (by simp) _ hT,⟨p,r,kk O (by simp) _ B⟩,hi.up λo e=>kk i (by simp) o e,F.up λo e=>kk j (by simp) o e⟩)
 item:=by
  intro X L hw U hc k pins s σ H E I hf st hg;subst L hw U;obtain⟨q,hT,⟨p,r,B⟩,hi,F⟩:=st;obtain⟨xs,ys,x,y,qx,qy,ex,ey⟩:=hg;obtain⟨is,rx,px⟩:=I.sqv qx;obtain⟨js,ry,py⟩:=I.sqv qy;obtain⟨ux,pv,rux⟩:=rx.get ex;obtain⟨uy,fv,ruy⟩:=ry.get ey;refine Zp.nxt_item D q hT B hi F px py (by simpa using pv) (by simpa using fv) λh1 z1 o1 i1 j1 p1 J=>⟨_,rfl,?_⟩
  refine wpAny_letOwnedTupleGo_zip (s:={s with heap:=h1}) z1 λh2 z2 s2=>?_
  have lt:∀{c o},s.heap.get? c=Z o->c≠s.heap.objs.size:=λe=>Lb (Kg e);have nz:s.heap.objs.size≠z:=(lt q).symm;have HY:∃o,s.heap.get? i=Z o:=hi.lt.imp λ_ h=>h.1;have HZ:∃o,s.heap.get? j=Z o:=F.lt.imp λ_ h=>h.1;have up:∀c o,c≠z->h1.get? c=Z o->h2.get? c=Z o:=λc o n e=>s2.extBut _ _ n e;have IL:Inv X pins σ (upd H s.heap.objs.size (.tup [x,y])) {s with heap:=s.heap.push {cls:=.type "tuple",data:=.seq #[ux,uy]},toks:=s.toks}:=I.laid (λb o e=>hW _ e) (Ku _) ⟨by rw[z4];simp,[ux,uy],.cons rux (.cons ruy .nil),PU _ _⟩
  have fr:∀c∈[z,T,O,i,j],c≠s.heap.objs.size:=λc hc=>by
   simp only[Km,Lj,or_false]at hc
   rcases hc with rfl|rfl|rfl|rfl|rfl
   ·exact lt q
   ·exact lt hT
   ·exact lt B
   ·obtain⟨o,e⟩:=HY;exact lt e
   ·obtain⟨o,e⟩:=HZ;exact lt e
  have un:∀c∈[z,T,O,i,j],upd H s.heap.objs.size (.tup [x,y]) c=Y:=λc hc=>by rw[ao (fr c hc)];exact(hf c hc).1
  have kk:∀c o,c∉[z,T,O,i,j]->(s.heap.push {cls:=.type "tuple",data:=.seq #[ux,uy]}).get? c=Z o->h2.get? c=Z o:=λc o hc e=>by
   simp only[Km,Lj,or_false,not_or]at hc
   rcases Qc e with⟨rfl,rfl⟩|e
   ·exact up _ _ nz p1
   ·exact up _ _ hc.1 (J c o hc.1 hc.2.2.1 hc.2.2.2.1 hc.2.2.2.2 e)
  have I2:Inv X pins σ (upd H s.heap.objs.size (.tup [x,y])) {s with heap:=h2,toks:=s.toks}:=(Inv.turnedL (s:={s with heap:=s.heap.push {cls:=.type "tuple",data:=.seq #[ux,uy]},toks:=s.toks}) (h':=h2) (t':=s.toks) (fp:=[z,T,O,i,j]) IL (λc hc=>⟨un c hc,(hf c hc).2⟩) kk)
  refine⟨.ref s.heap.objs.size,_,I2,rfl,⟨_,x,y,I.hok.fresh (Ku _),rfl,rfl,λxs' ys' q1 q2=>?_⟩,⟨z2,up _ _ D.TIz (J _ _ D.TIz D.TITO D.TIi1 D.TIi2 hT),⟨_,_,up _ _ D.TOz o1⟩,i1.up λo e=>up _ o D.i1z e,j1.up λo e=>up _ o D.i2z e⟩,un⟩;rw[I.sqv_inj q1 qx,I.sqv_inj q2 qy];exact⟨ex,ey⟩
 done:=by
  intro X L hw U hc k pins s σ H E I hf st hg;subst L hw U;obtain⟨q,hT,⟨p,r,B⟩,hi,F⟩:=st;obtain⟨xs,ys,qx,qy,G⟩:=hg;obtain⟨is,rx,px⟩:=I.sqv qx;obtain⟨js,ry,py⟩:=I.sqv qy;have lx:=rx.length;have ly:=ry.length;refine Zp.nxt_end (I.ok.hd hc) D q hT B hi F px py (G.imp (λe=>by simp;lia) (λe=>by simp;lia)) λh1 J=>⟨rfl,I.turnedL (t':=s.toks) hf λc o hc e=>?_⟩
  simp only[Km,Lj,or_false,not_or]at hc;exact J c o hc.1 hc.2.2.1 hc.2.2.2.1 hc.2.2.2.2 e
 self:=λA k s Q E st h=>Ug st.1 h
section
variable{X:Cx}
noncomputable def FI(K:Frag)(ta:TA):TI:=λσ H R=>ta σ H λvs H1=>∃a b t u xs ys,vs=[.ref a,.ref b]/\SqV K t H1 a xs/\SqV K u H1 b ys/\R (Itz K t u a b) H1
theorem CG{cx}{p:Pos}{a b:Expr}{ta:TA}(F:Gl X "zip")(hm:X.mg "zip"=Y)(G:PA X [a,b] ta)(hs:L8 [a,b] X.env=[(N3,eval a X.env),(N3,eval b X.env)])(j:L8 [b] X.env=[(N3,eval b X.env)]):
 PI X (.Tuple elts cx pos) (.Call (.Name "zip" p) [a,b] [] pos') (FI X.K ta):=by
 intro pins s σ H R I h;refine Call_ (cQ I F hm (u:=.type "zip") (by decide +kernel) (MR (thn (G pos' pins s σ H _ I h) λus s1 g9=>?_) (by rw[hs,j]) (by rw[j];rfl)));obtain⟨vs,H1,z,J,L⟩:=g9
 obtain⟨a',b',t,u,xs,ys,rfl,qx,qy,q⟩:=L
 cases J with
 |cons r rr=>
  cases rr with
  |cons r' rr=>
   cases rr
   cases r
   cases r'
   obtain⟨is,rx,px⟩:=z.sqv qx;obtain⟨js,ry,py⟩:=z.sqv qy;refine Zp.call_zip px py λh1 B t1 O U pv sz fv=>?_;refine Ug B ?_;have la:a'<s1.heap.objs.size:=by cases t<;>(obtain⟨o,e,_⟩:=px;exact Kg e)
   have lb:b'<s1.heap.objs.size:=by cases u<;>(obtain⟨o,e,_⟩:=py;exact Kg e)
   have D:SA (s1.heap.objs.size+4) (s1.heap.objs.size+2) (s1.heap.objs.size+3) s1.heap.objs.size (s1.heap.objs.size+1) a' b':=by constructor<;>(intro e;subst_vars;first|lia|(simp only[VH]at *;lia))
   refine⟨_,_,_,_,H1,rfl,z.kept (t':=s1.toks) fv,xP (t:=t) (u:=u) D,⟨B,t1,⟨_,_,O⟩,U,pv⟩,λc hc=>?_,q⟩;have hle:s1.heap.objs.size<=c:=by
    simp only[Km,Lj,or_false]at hc
    rcases hc with rfl|rfl|rfl|rfl|rfl<;>lia
   exact z.fpOk hle (z.hok.fresh hle)
end
end
namespace Zp
end Zp
namespace En
variable{z i a:VH}{xs:Array hH}{old:hH}
section
variable{prog:KW}{w:Lo}{A:Lr}{E:hH->p7->Prop}{s:p7}
open Builtin.SmallTypes Zp in
theorem CH {t:Bool}{k:Nat}{x:hH}{Q:hH->p7->Prop}(U:S2 s.heap z i k old)(hi:At t s.heap i a k)(ha:Sq t s.heap a xs)(hx:xs[k]?=Z x)(j:z≠i)(q:∀h',Uh h' z i ((k:Int)+1) x s.heap.objs.size->At t h' i a (k+1)->h'.get? s.heap.objs.size=Z {cls:=.type "tuple",data:=.seq #[.int k s.toks,x]}->
   (∀b o,b≠z->b≠i->s.heap.get? b=Z o->h'.get? b=Z o)->Q (.ref s.heap.objs.size) {s with heap:=h',toks:=s.toks+1}):
 Kr (model prog w) A (Mp.«enumerate.__next__» ⟨[.ref z],[]⟩) (λfin s'=>∃v,fin=.done (.ret v)/\Q v s') E s:=by
 obtain⟨B,g,d,tk,os⟩:=s;refine gV (m:=field (.ref z) 2) (Lg U rfl (x:=.ref i) rfl (gV (dB hi ha hx λg1 i1 s1=>?_)));have S1:Mo i B g1:=s1;clear s1;have pv:S2 g1 z i k old:=(S1.2 z j).trans U;refine gV (m:=field (.ref z) 3) (Lg (s:=⟨g1,g,d,tk,os⟩) pv rfl (x:=Nw k) rfl ?_);refine gV (m:=field (.ref z) 4) (Lg (s:=⟨g1,g,d,tk,os⟩) pv rfl (x:=.none) rfl ?_);refine gV (m:=mkInt k) (wpAny_mkInt ?_);refine gV (m:=setField (.ref z) 3 (Nw ((k:Int)+1))) (KI (s:=⟨g1,g,d,tk+1,os⟩) pv (by simp) λg2 z2 s2=>?_)
 have fv:Mo z g1 g2:=s2;have Z2:S2 g2 z i ((k:Int)+1) old:=z2;clear s2 z2;refine gV (m:=setField (.ref z) 4 .none) (KI (s:=⟨g2,g,d,tk+1,os⟩) Z2 (by simp) λg3 z3 s3=>?_)
 have S3:Mo z g2 g3:=s3;have Z3:S2 g3 z i ((k:Int)+1) old:=z3;clear s3 z3;refine gV (m:=V5 [.int k tk,x]) (OP ?_);have G:S2 (g3.push {cls:=.type "tuple",data:=.seq #[.int k tk,x]}) z i ((k:Int)+1) old:=hW _ Z3;have sz:g3.objs.size=B.objs.size:=by rw[S3.1,fv.1,S1.1]
 have zl:z<B.objs.size:=Kg U;have T4:(g3.push {cls:=.type "tuple",data:=.seq #[.int k tk,x]}).get? B.objs.size=Z {cls:=.type "tuple",data:=.seq #[.int k tk,x]}:=by rw[<-sz];exact Kj _ rfl
 have K4:∀b o,b≠z->b≠i->B.get? b=Z o->(g3.push {cls:=.type "tuple",data:=.seq #[.int k tk,x]}).get? b=Z o:=λb o bz bi e=>hW _ (S3.extBut b o bz (fv.extBut b o bz (S1.extBut b o bi e)))
 have I4:At t (g3.push {cls:=.type "tuple",data:=.seq #[.int k tk,x]}) i a (k+1):=i1.up λo e=>hW _ (S3.extBut i o j.symm (fv.extBut i o j.symm e));rw[sz];generalize g3.push {cls:=.type "tuple",data:=.seq #[.int k tk,x]}=F at G T4 K4 I4;refine gV (m:=ownedTupleIsFree (.ref z)) ?_;unfold ownedTupleIsFree;refine gV (Lg (s:=⟨F,g,d,tk+1,os⟩) G rfl (x:=.none) rfl (D0 ?_));simp only[if_true];refine gV (MW (gV (Lg (s:=⟨F,g,d,tk+1,os⟩) G rfl (x:=old) rfl (gV (KI (s:=⟨F,g,d,tk+1,os⟩) G (by simp) λJ z5 s5=>?_)))))
 have S5:Mo z F J:=s5;have Z5:S2 J z i ((k:Int)+1) x:=z5;clear s5 z5;refine gV (m:=ownedTupleHandOut (.ref z) (.ref B.objs.size)) ?_;unfold ownedTupleHandOut;refine gV (KI (s:=⟨J,g,d,tk+1,os⟩) Z5 (by simp) λL z6 s6=>?_)
 have S6:Mo z J L:=s6;have Z6:Uh L z i ((k:Int)+1) x B.objs.size:=z6;clear s6 z6;refine KI (s:=⟨L,g,d,tk+1,os⟩) Z6 (by simp) λO z7 s7=>?_
 have S7:Mo z L O:=s7;have Z7:Uh O z i ((k:Int)+1) x B.objs.size:=z7;clear s7 z7;have up:∀b o,b≠z->F.get? b=Z o->O.get? b=Z o:=λb o bz e=>S7.extBut b o bz (S6.extBut b o bz (S5.extBut b o bz e));exact gV (NU (D0 ⟨_,rfl,q O Z7 (I4.up λo e=>up i o j.symm e) (up _ _ (LR zl) T4) λb o bz bi e=>up b o bz (K4 b o bz bi e)⟩))
theorem nxt_item {t:Bool}{k:Nat}{x:hH}{Q:Option hH->p7->Prop}(B:S2 s.heap z i k old)(hi:Zp.At t s.heap i a k)(G:Zp.Sq t s.heap a xs)(hx:xs[k]?=Z x)(j:z≠i)(q:∀h',Uh h' z i ((k:Int)+1) x s.heap.objs.size->Zp.At t h' i a (k+1)->h'.get? s.heap.objs.size=Z {cls:=.type "tuple",data:=.seq #[.int k s.toks,x]}->
   (∀b o,b≠z->b≠i->s.heap.get? b=Z o->h'.get? b=Z o)->Q (Z (.ref s.heap.objs.size)) {s with heap:=h',toks:=s.toks+1}):
 Kr (model prog w) A (MZ (.ref z)) Q E s:=by
 have ty:s.TypeIs (.ref z) "enumerate":=⟨_,B,rfl⟩;unfold MZ;exact gV (Nb (La (name:=LI "__next__") ty OG (Le OG ty S4
  (CH B hi G hx j λh' a1 a2 J L=>D0 (q h' a1 a2 J L)) (RA _))))
theorem nxt_end{t:Bool}{k:Nat}{Q:Option hH->p7->Prop}(B:A.handled=Y)(j:S2 s.heap z i k old)(hi:Zp.At t s.heap i a k)(G:Zp.Sq t s.heap a xs)(hx:xs[k]?=Y)(q:∀h',UA i s.heap h'->Q Y {s with heap:=h'}):Kr (model prog w) A (MZ (.ref z)) Q E s:=by have ty:s.TypeIs (.ref z) "enumerate":=⟨_,j,rfl⟩;unfold MZ;refine gV (Nb (La (name:=LI "__next__") ty OG (Le OG ty S4 ?_ (RA _))));refine gV (m:=field (.ref z) 2) (Lg j rfl (x:=.ref i) rfl (gV (Zp.nx_end B hi G hx λh' x he hs=>?_)));obtain⟨o,ho,hc⟩:=hs;exact gV (Od (T:="StopIteration") (b:=F2) ⟨o,ho,hc⟩ QN (D0 (q _ he)))
open AutoSeq1 (wpAny_loadPart') in
theorem Ar(l:VH)(items:Array hH)(n:Nat)(dct:Option VH)(sl:Array (Option hH)):
 Meets (Mp.«enumerate.__new__» ⟨[.type "enumerate",.ref l],[]⟩) (λ_ R s=>s.heap.get? l=Z {cls:=.type "tuple",dict:=dct,data:=.seq items n,slots:=sl} /\
  R (.ok (.ret (.ref (s.heap.push (Zp.itO F2 l)).objs.size))) {s with heap:=(s.heap.push (Zp.itO F2 l)).push {cls:=.type "enumerate",data:=.fields #[.none,.bool N3,.ref s.heap.objs.size,Nw 0,.none,.none]}}):=
 .of_wp λprog w A R s h=>by
  obtain⟨q,g,d,tk,os⟩:=s;obtain⟨hl,h⟩:=h;have j:=sub_enumerate;have hT:Qx (Of ⟨q,g,d,tk,os⟩) l items:=⟨_,hl,rfl,n,rfl⟩
  wp_walk using Nj hl
  refine wpAny_stack_any λst=>D0 ?_
  split
  ·rename_i c _ _ _ _ _
   cases(c==Lh "enumerate")<;>(wp_walk using Nj hl,MM hT;exact⟨_,rfl,h⟩)
  ·wp_walk using Nj hl,MM hT
   exact⟨_,rfl,h⟩
theorem call_enum{t:Bool}{l:VH}{items:Array hH}{Q:hH->p7->Prop}(hL:Zp.Sq t s.heap l items)(q:∀h',S2 h' (s.heap.objs.size+1) s.heap.objs.size 0 .none->Zp.At t h' s.heap.objs.size l 0->(∀b o,s.heap.get? b=Z o->h'.get? b=Z o)->Q (.ref (s.heap.objs.size+1)) {s with heap:=h'}):
 Kr (model prog w) A (call (.type "enumerate") [.ref l]) Q E s:=by
 cases t with
 |false=>exact call_enumerate_list hL λh' a b _ k=>q h' a b k
 |true=>
  obtain⟨⟨c,dct,dt,sl⟩,hl,hc,n,hd⟩:=hL;have j:c=.type "tuple":=hc;have z:dt=.seq items n:=hd;subst j z;refine callType_new F.called_enumerate (by decide) (F.typeCall_enumerate_1 _) (F.newCall_enumerate_1 _) (λobj=>F.args_object_init_2 obj _) F.entry_enumerate_new (Ar l items n dct sl) ⟨hl,?_⟩
  have B:(s.heap.push (Zp.itO F2 l)).objs.size=s.heap.objs.size+1:=Mc ..;have e:((s.heap.push (Zp.itO F2 l)).push {cls:=.type "enumerate",data:=.fields #[.none,.bool N3,.ref s.heap.objs.size,Nw 0,.none,.none]}).get? (s.heap.push (Zp.itO F2 l)).objs.size=Z _:=Kj _ rfl;rw[B]at e;show _/\_;rw[B];exact⟨⟨_,e,rfl⟩,q _ e (Zp.at_new (hW _ (Kj _ rfl))) λb o x=>hW _ (hW _ x)⟩
end
end En
noncomputable def Ite(K:Frag)(t:Bool)(a:VH):It:=
 ⟨λi H=>∃xs x,SqV K t H a xs/\xs[i]?=Z x,
  λi H v H'=>∃p x,H p=Y/\v=.ref p/\H'=upd H p (.tup [.int (i:Nat),x])/\∀xs,SqV K t H a xs->xs[i]?=Z x,
  λi H=>∃xs,SqV K t H a xs/\xs.length<=i⟩
theorem uW{cx}{t:Bool}{z i:VH}(q:z≠i):
 fX P w K (.Tuple elts cx pos) (Ite K t a) [z,i] z (λk h=>(∃old,S2 h z i k old)/\Zp.At t h i a k) where
 mem:=by simp
 obj:=λk h ⟨⟨old,j⟩,hi⟩ c hc=>by
  simp only[Km,Lj,or_false]at hc
  rcases hc with rfl|rfl
  ·exact⟨_,j,λv e=>by cases e⟩
  ·exact hi.lt
 keep:=λk h h' B kk=>(by obtain⟨⟨old,j⟩,hi⟩:=B;exact⟨⟨old,kk z (by simp) _ j⟩,hi.up λo e=>kk i (by simp) o e⟩)
 item:=by
  intro X F hw G hc k pins s σ H E I hf st hg;subst F hw G;obtain⟨⟨old,j⟩,hi⟩:=st;obtain⟨xs,x,qx,ex⟩:=hg;obtain⟨is,rx,px⟩:=I.sqv qx;obtain⟨ux,J,rux⟩:=rx.get ex;refine En.nxt_item j hi px (by simpa using J) q λh1 pv fv p1 L=>⟨_,rfl,?_⟩
  refine wpAny_letOwnedTupleGo_enum (s:={s with heap:=h1,toks:=s.toks+1}) pv λh2 z2 s2=>?_
  have lt:∀{c o},s.heap.get? c=Z o->c≠s.heap.objs.size:=λe=>Lb (Kg e);have nz:s.heap.objs.size≠z:=(lt j).symm;have O:∃o,s.heap.get? i=Z o:=hi.lt.imp λ_ h=>h.1;have up:∀c o,c≠z->h1.get? c=Z o->h2.get? c=Z o:=λc o n e=>s2.extBut _ _ n e;have IL:Inv X pins σ (upd H s.heap.objs.size (.tup [.int (k:Nat),x])) {s with heap:=s.heap.push {cls:=.type "tuple",data:=.seq #[.int k s.toks,ux]},toks:=s.toks+1}:=I.laid (λb o e=>hW _ e) (Ku _) ⟨by rw[z4];simp,[.int k s.toks,ux],.cons ⟨_,rfl⟩ (.cons rux .nil),PU _ _⟩
  have fr:∀c∈[z,i],c≠s.heap.objs.size:=λc hc=>by
   simp only[Km,Lj,or_false]at hc
   rcases hc with rfl|rfl
   ·exact lt j
   ·obtain⟨o,e⟩:=O;exact lt e
  have un:∀c∈[z,i],upd H s.heap.objs.size (.tup [.int (k:Nat),x]) c=Y:=λc hc=>by rw[ao (fr c hc)];exact(hf c hc).1
  have kk:∀c o,c∉[z,i]->(s.heap.push {cls:=.type "tuple",data:=.seq #[.int k s.toks,ux]}).get? c=Z o->h2.get? c=Z o:=λc o hc e=>by
   simp only[Km,Lj,or_false,not_or]at hc
   rcases Qc e with⟨rfl,rfl⟩|e
   ·exact up _ _ nz p1
   ·exact up _ _ hc.1 (L c o hc.1 hc.2 e)
  have I2:Inv X pins σ (upd H s.heap.objs.size (.tup [.int (k:Nat),x])) {s with heap:=h2,toks:=s.toks+1}:=Inv.turnedL (s:={s with heap:=s.heap.push {cls:=.type "tuple",data:=.seq #[.int k s.toks,ux]},toks:=s.toks+1}) (h':=h2) (t':=s.toks+1) (fp:=[z,i]) IL (λc hc=>⟨un c hc,(hf c hc).2⟩) kk
  refine⟨.ref s.heap.objs.size,_,I2,rfl,⟨_,x,I.hok.fresh (Ku _),rfl,rfl,λxs' q1=>?_⟩,⟨⟨ux,by simpa using z2⟩,fv.up λo e=>up _ o q.symm e⟩,un⟩
  rw[I.sqv_inj q1 qx];exact ex
 done:=by
  intro X F hw G hc k pins s σ H E I hf st hg;subst F hw G;obtain⟨⟨old,j⟩,hi⟩:=st;obtain⟨xs,qx,U⟩:=hg;obtain⟨is,rx,px⟩:=I.sqv qx;have lx:=rx.length;refine En.nxt_end (I.ok.hd hc) j hi px (by simp;lia) λh1 L=>⟨rfl,I.turnedL (t':=s.toks) hf λc o hc e=>?_⟩
  simp only[Km,Lj,or_false,not_or]at hc;exact L c o hc.2 e
 self:=λA k s Q E B h=>(by obtain⟨⟨old,j⟩,_⟩:=B;exact TL j h)
section
variable{X:Cx}
noncomputable def Ej(K:Frag)(ta:TA):TI:=λσ H R=>ta σ H λvs H1=>∃a t xs,vs=[.ref a]/\SqV K t H1 a xs/\R (Ite K t a) H1
theorem As{cx}{p:Pos}{a:Expr}{ta:TA}(B:Gl X "enumerate")(hm:X.mg "enumerate"=Y)(F:PA X [a] ta)(hs:L8 [a] X.env=[(N3,eval a X.env)]):
 PI X (.Tuple elts cx pos) (.Call (.Name "enumerate" p) [a] [] pos') (Ej X.K ta):=by
 intro pins s σ H R I h;refine Call_ (cQ I B hm (u:=.type "enumerate") boot_enumerate (MR (thn (F pos' pins s σ H _ I h) λus s1 g9=>?_) hs rfl));obtain⟨vs,H1,j,G,J⟩:=g9;obtain⟨a',t,xs,rfl,qx,q⟩:=J
 cases G with
 |cons r rr=>
  cases rr
  cases r
  obtain⟨is,rx,px⟩:=j.sqv qx;refine En.call_enum px λh1 z L O=>?_;refine TL z ?_;refine⟨_,_,_,_,H1,rfl,j.kept (t':=s1.toks) O,uW (t:=t) (a:=a') (by simp),⟨⟨_,z⟩,L⟩,λc hc=>?_,q⟩
  have hle:s1.heap.objs.size<=c:=by
   simp only[Km,Lj,or_false]at hc
   rcases hc with rfl|rfl<;>lia
  exact j.fpOk hle (j.hok.fresh hle)
end
namespace Rv
end Rv
section
noncomputable abbrev NK:=List (Int ⊕ List Int)
noncomputable def Ek(ks:List Int):Int:=reduceHash (QY (ks.map hashInt))
noncomputable def El:Int ⊕ List Int->Int
 |.inl i=>hashInt i
 |.inr ks=>Ek ks
noncomputable def Em(ks:NK):Int:=reduceHash (QY (ks.map El))
noncomputable def zJ(a:VH)(xs:List (NK×VH×hH)):Heap->Prop:=λh=>xs.length<=Kn/\(a==Mv)=N3 /\
 ∃o es ep,h.get? a=Z o/\o.ExactDict/\o.data=.dict es ep/\es.toList=xs.map (λx=>(⟨Em x.1,.ref x.2.1,x.2.2⟩:Ly))/\(xs.map (·.1)).Nodup
noncomputable def Kt1(H:Hp):Int ⊕ List Int->V->Prop
 |.inl i,v=>v=.int i
 |.inr ks,v=>∃b,v=.ref b/\H b=Z (.tup (ks.map V.int))
def Kt(H:Hp)(k:NK)(b:VH):Prop:=∃vs,H b=Z (.tup vs)/\LP (Kt1 H) k vs
theorem Kt.keeps{k:NK}(x:Kt H k b)(j:∀b ys,H b=Z (.tup ys)->H' b=Z (.tup ys)):Kt H' k b:=by
 obtain⟨vs,e,p⟩:=x;refine⟨vs,j _ _ e,Vq p λq v z=>?_⟩
 cases q with
 |inl i=>exact z
 |inr ks=>obtain⟨c,e,q⟩:=z;exact⟨c,e,j _ _ q⟩
end
namespace Mi
variable{a p:VH}{K:Frag}{H H':Hp}{xs vs:List V}{i:Nat}{v:V}{x:Str}{σ:St}{ho:HO}{X:Cx}{e:Expr}
section
inductive D where
 |non|bl (b:Bool)|int (i:Int)|str (x:Str)|tup (ds:List D)|con (ds:List D)|ref (a:VH)|fn (x:Str)
inductive O where
 |lst (ds:List D)
 |dct (t:Bool) (kvs:List (D×D))
 |fdc (kvs:List (D×D))
 |dcn (kvs:List (NK×D))
 |fdn (kvs:List (NK×D))
noncomputable abbrev Mem:=VH->Option O
noncomputable def fz:Option O->Bool
 |some (.lst _)=>N3
 |some (.dct _ _)=>N3
 |some (.dcn _)=>N3
 |_=>F2
noncomputable abbrev ar:=List (Option D)
noncomputable def af(M:Mem)(a:VH)(o:O):Mem:=λb=>if b=a then Z o else M b
theorem aa{M:Mem}{o:O}:af M a o a=Z o:=by unfold af;rw[if_pos rfl]
theorem al{M:Mem}{b:VH}{o:O}(h:b≠a):af M a o b=M b:=by unfold af;rw[if_neg h]
def SqF(K:Frag)(H:Hp)(a:VH)(xs:List V):Prop:=
 (∃o,H a=Z (.frz o (.lst xs))) ∨
  ∃(o:Obj) (its:Array hH) (n:Nat),K.lookup a=Z o/\o.cls=.type "list"/\o.dict=Y/\o.data=.seq its n/\its.size<=Kn/\Vals xs its.toList
theorem SqF.sq(h:SqF K H a xs):SqL K H a xs:=by
 rcases h with⟨o,h⟩|h
 ·exact .inl (.inr ⟨o,h⟩)
 ·exact .inr h
noncomputable def fk2:Bool:=F2
noncomputable def fk3:Bool:=N3
noncomputable def fk:List D->Bool
 |[.int _,.int _,.int _]=>F2
 |[.tup _,_]=>F2
 |[.int _,_]=>fk2
 |[]=>N3
 |_=>fk3
def TupR(K:Frag)(H:Hp)(ds:List D)(a:VH)(vs:List V):Prop:=H a=Z (.tup vs)∨(fk ds=N3/\SqT K H a vs)
theorem TupR.sq{ds:List D}(h:TupR K H ds a vs):SqT K H a vs:=h.elim SqT.of (·.2)
mutual
noncomputable def RD(K:Frag)(H:Hp):D->V->Prop
 |.non,v=>v=.non
 |.bl b,v=>v=.bl b
 |.int i,v=>v=.int i
 |.str x,v=>v=.str x
 |.tup ds,v=>∃a vs,v=.ref a/\TupR K H ds a vs/\RDs K H ds vs
 |.con ds,v=>∃a vs,v=.ref a/\SqF K H a vs/\RDs K H ds vs
 |.ref a,v=>v=.ref a
 |.fn x,v=>∃f,v=.ref f/\OV K Mf x=Z (Z (.ref f))
noncomputable def RDs(K:Frag)(H:Hp):List D->List V->Prop
 |[],vs=>vs=[]
 |d::ds,vs=>∃v r,vs=v::r/\RD K H d v/\RDs K H ds r
end
structure Stab(H H':Hp):Prop where
 tup:∀a xs,H a=Z (.tup xs)->H' a=Z (.tup xs)
 frz:∀a o u,H a=Z (.frz o u)->H' a=Z (.frz o u)
theorem Stab.sqT(st:Stab H H')(h:SqT K H a xs):SqT K H' a xs:=by
 rcases h with(h|⟨o,h⟩)|h
 ·exact .inl (.inl (st.tup _ _ h))
 ·exact .inl (.inr ⟨o,st.frz _ _ _ h⟩)
 ·exact .inr h
theorem Stab.sqF(st:Stab H H')(h:SqF K H a xs):SqF K H' a xs:=by
 rcases h with⟨o,h⟩|h
 ·exact .inl ⟨o,st.frz _ _ _ h⟩
 ·exact .inr h
mutual
theorem RD.mono{K:Frag}{H H':Hp}(st:Stab H H'):∀{d:D} {v:V},RD K H d v->RD K H' d v
 |.non,_,h=>h
 |.bl _,_,h=>h
 |.int _,_,h=>h
 |.str _,_,h=>h
 |.tup ds,v,h=>by unfold RD at h⊢;obtain⟨a,vs,e,q,r⟩:=h;exact⟨a,vs,e,q.imp (st.tup _ _) (λz=>⟨z.1,st.sqT z.2⟩),RDs.mono st r⟩
 |.con ds,v,h=>by unfold RD at h⊢;obtain⟨a,vs,e,q,r⟩:=h;exact⟨a,vs,e,st.sqF q,RDs.mono st r⟩
 |.ref _,_,h=>h
 |.fn _,_,h=>by unfold RD at h⊢;exact h
theorem RDs.mono{K:Frag}{H H':Hp}(st:Stab H H'):∀{ds:List D} {vs:List V},RDs K H ds vs->RDs K H' ds vs
 |[],_,h=>h
 |d::ds,vs,h=>by unfold RDs at h⊢;obtain⟨v,r,e,h1,h2⟩:=h;exact⟨v,r,e,RD.mono st h1,RDs.mono st h2⟩
end
section
variable{K:Frag}{H H':Hp}
theorem Vm{i:Int}:RD K H (.int i) v↔v=.int i:=by unfold RD;exact TM
theorem Vo{b:Bool}:RD K H (.bl b) v↔v=.bl b:=by unfold RD;exact TM
theorem Vu:RD K H .non v↔v=.non:=by unfold RD;exact TM
theorem Vt:RD K H (.str x) v↔v=.str x:=by unfold RD;exact TM
theorem Vn:RD K H (.ref a) v↔v=.ref a:=by unfold RD;exact TM
theorem VE:RD K H (.fn x) v↔∃f,v=.ref f/\OV K Mf x=Z (Z (.ref f)):=by rw[RD]
theorem Vw{ds:List D}:RD K H (.tup ds) v↔∃a vs,v=.ref a/\TupR K H ds a vs/\RDs K H ds vs:=by rw[RD]
theorem Vv{ds:List D}(h:∃a vs,v=.ref a/\H a=Z (.tup vs)/\RDs K H ds vs):RD K H (.tup ds) v:=Vw.mpr (let⟨a,vs,e,h,r⟩:=h; ⟨a,vs,e,.inl h,r⟩)
theorem Vs{ds:List D}(h:RD K H (.tup ds) v):∃a vs,v=.ref a/\SqT K H a vs/\RDs K H ds vs:=let⟨a,vs,e,h,r⟩:=Vw.mp h; ⟨a,vs,e,h.sq,r⟩
theorem VG{ds:List D}(f:fk ds=F2)(h:RD K H (.tup ds) v):∃a vs,v=.ref a/\H a=Z (.tup vs)/\RDs K H ds vs:=let⟨a,vs,e,h,r⟩:=Vw.mp h; ⟨a,vs,e,h.elim id λz=>(by rw[f]at z;cases z.1),r⟩
theorem Vr{ds:List D}:RD K H (.con ds) v↔∃a vs,v=.ref a/\SqF K H a vs/\RDs K H ds vs:=by rw[RD]
theorem RDs.nil_iff:RDs K H [] vs↔vs=[]:=by rw[RDs]
theorem Vp{d:D}{ds:List D}:RDs K H (d::ds) vs↔∃v r,vs=v::r/\RD K H d v/\RDs K H ds r:=by rw[RDs]
theorem RDs.nil:RDs K H [] []:=RDs.nil_iff.mpr rfl
theorem RDs.cons{d:D}{ds:List D}{v:V}{vs:List V}(h:RD K H d v)(r:RDs K H ds vs):RDs K H (d::ds) (v::vs):=Vp.mpr ⟨v,vs,rfl,h,r⟩
theorem RDs.length:∀{ds:List D} {vs:List V},RDs K H ds vs->vs.length=ds.length
 |[],_,h=>by rw[RDs.nil_iff.mp h];rfl
 |d::ds,_,h=>by obtain⟨v,r,rfl,_,h2⟩:=Vp.mp h;simp[RDs.length h2]
theorem RDs.get:∀{ds:List D} {vs:List V} {i:Nat} {d:D},RDs K H ds vs->ds[i]?=Z d->∃v,vs[i]?=Z v/\RD K H d v
 |[],_,_,_,_,e=>by simp at e
 |d::ds,_,0,d',h,e=>by obtain⟨v,r,rfl,h1,h2⟩:=Vp.mp h;simp at e;subst e;exact⟨v,rfl,h1⟩
 |d::ds,_,i+1,d',h,e=>by
  obtain⟨v,r,rfl,h1,h2⟩:=Vp.mp h;obtain⟨u,j,q⟩:=RDs.get (i:=i) (d:=d') h2 (by simpa using e)
  exact⟨u,by simpa using j,q⟩
theorem RDs.getV{ds:List D}(h:RDs K H ds vs)(e:vs[i]?=Z v):∃d,ds[i]?=Z d/\RD K H d v:=by
 have hl:=h.length;have hi:i<vs.length:=(KO.mp e).1;obtain⟨d,hd⟩:∃d,ds[i]?=Z d:=⟨ds[i]'∅,I7 ∅⟩
 obtain⟨u,j,q⟩:=h.get hd;rw[e]at j;cases j;exact⟨d,hd,q⟩
theorem RDs.append:∀{ds es:List D} {vs us:List V},RDs K H ds vs->RDs K H es us->RDs K H (ds++es) (vs++us)
 |[],_,_,_,h,q=>by rw[RDs.nil_iff.mp h];exact q
 |d::ds,_,_,_,h,q=>by obtain⟨v,r,rfl,h1,h2⟩:=Vp.mp h;exact RDs.cons h1 (RDs.append h2 q)
theorem RDs.take:∀{ds:List D} {vs:List V} (n:Nat),RDs K H ds vs->RDs K H (ds.take n) (vs.take n)
 |[],_,n,h=>by rw[RDs.nil_iff.mp h];simp;exact RDs.nil
 |_::_,_,0,h=>by simp;exact RDs.nil
 |d::ds,_,n+1,h=>by obtain⟨v,r,rfl,h1,h2⟩:=Vp.mp h;exact RDs.cons h1 (RDs.take n h2)
theorem RDs.drop:∀{ds:List D} {vs:List V} (n:Nat),RDs K H ds vs->RDs K H (ds.drop n) (vs.drop n)
 |[],_,n,h=>by rw[RDs.nil_iff.mp h];simp;exact RDs.nil
 |d::ds,_,0,h=>h
 |d::ds,_,n+1,h=>by obtain⟨v,r,rfl,h1,h2⟩:=Vp.mp h;exact RDs.drop n h2
theorem RDs.set:∀{ds:List D} {vs:List V} (n:Nat) {d:D} {v:V},RD K H d v->RDs K H ds vs->RDs K H (ds.set n d) (vs.set n v)
 |[],_,n,_,_,_,h=>by rw[RDs.nil_iff.mp h];exact RDs.nil
 |d::ds,_,0,_,_,q,h=>by obtain⟨v,r,rfl,h1,h2⟩:=Vp.mp h;exact RDs.cons q h2
 |d::ds,_,n+1,_,_,q,h=>by obtain⟨v,r,rfl,h1,h2⟩:=Vp.mp h;exact RDs.cons h1 (RDs.set n q h2)
theorem RDs.rep{ds:List D}(h:RDs K H ds vs):∀k:Nat,RDs K H (Kf k ds).flatten (Kf k vs).flatten
 |0=>RDs.nil
 |k+1=>by rw[Mh,Mh,LS,LS];exact h.append (h.rep k)
theorem RDs.ints:∀(ns:List Int),RDs K H (ns.map D.int) (ns.map V.int)
 |[]=>RDs.nil
 |n::ns=>RDs.cons (Vm.mpr rfl) (RDs.ints ns)
end
mutual
noncomputable def D.eqb:D->D->Bool
 |.non,.non=>F2
 |.bl a,.bl b=>a==b
 |.int a,.int b=>decide (a=b)
 |.str a,.str b=>decide (a=b)
 |.tup a,.tup b=>D.eqbs a b
 |.con a,.con b=>D.eqbs a b
 |.ref a,.ref b=>decide (a=b)
 |.fn a,.fn b=>decide (a=b)
 |_,_=>N3
noncomputable def D.eqbs:List D->List D->Bool
 |[],[]=>F2
 |a::r,b::s=>D.eqb a b&&D.eqbs r s
 |_,_=>N3
end
mutual
theorem VF:∀(a b:D),D.eqb a b=F2->a=b
 |.non,b,h=>by cases b<;>first|rfl|cases h
 |.bl a,b,h=>by cases b<;>first|exact congrArg D.bl (NP h)|cases h
 |.int a,b,h=>by cases b<;>first|exact congrArg D.int (of_decide_eq_true h)|cases h
 |.str a,b,h=>by cases b<;>first|exact congrArg D.str (of_decide_eq_true h)|cases h
 |.tup a,b,h=>by cases b<;>first|exact congrArg D.tup (VA a _ h)|cases h
 |.con a,b,h=>by cases b<;>first|exact congrArg D.con (VA a _ h)|cases h
 |.ref a,b,h=>by cases b<;>first|exact congrArg D.ref (of_decide_eq_true h)|cases h
 |.fn a,b,h=>by cases b<;>first|exact congrArg D.fn (of_decide_eq_true h)|cases h
theorem VA:∀(a b:List D),D.eqbs a b=F2->a=b
 |[],b,h=>by cases b<;>first|rfl|cases h
 |a::r,b,h=>by
  cases b with
  |nil=>cases h
  |cons b s=>have h:=(q7 _ _).mp h;rw[VF a b h.1,VA r s h.2]
end
mutual
theorem VD:∀(a:D),D.eqb a a=F2
 |.non=>rfl
 |.bl a=>beq_self_eq_true a
 |.int _=>decide_eq_true rfl
 |.str _=>decide_eq_true rfl
 |.tup a=>Vy a
 |.con a=>Vy a
 |.ref _=>decide_eq_true rfl
 |.fn _=>decide_eq_true rfl
theorem Vy:∀(a:List D),D.eqbs a a=F2
 |[]=>rfl
 |a::r=>(q7 _ _).mpr ⟨VD a,Vy r⟩
end
noncomputable instance:DecidableEq D:=λa b=>if h:D.eqb a b=F2 then isTrue (VF a b h)else isFalse λe=>h (by rw[e];exact VD b)
noncomputable def RKey:D->Key->Prop
 |.int i,k=>k=.inl i
 |.str x,k=>k=.inr x
 |_,_=>False
noncomputable def RKeys:D->List Key->Prop
 |.tup ds,ks=>LP RKey ds ks
 |_,_=>False
noncomputable def dget(kvs:List (D×D))(k:D):Option D:=(kvs.find? λp=>decide (p.1=k)).map (·.2)
noncomputable def eR(kvs:List (D×D))(k v:D):List (D×D):=if(kvs.any λp=>decide (p.1=k))=F2 then kvs.map (λp=>if p.1=k then(p.1,v)else p)else kvs++[(k,v)]
noncomputable def fB:D->Bool
 |.int _=>F2
 |.str _=>F2
 |_=>N3
noncomputable def dP:D->Bool
 |.tup ds=>ds.all fB&&fk ds
 |_=>N3
noncomputable def eC(t:Bool)(k:D):Bool:=if t then dP k else fB k
theorem oz{k:D}(h:fB k=F2):∃q,RKey k q:=by cases k<;>first|(simp[fB]at h;done)|exact⟨_,rfl⟩
theorem r8:∀{ds:List D},ds.all fB=F2->∃ks,LP RKey ds ks
 |[],_=>⟨[],.nil⟩
 |d::ds,h=>by simp only[OC,q7]at h;obtain⟨k,j⟩:=oz h.1;obtain⟨ks,hs⟩:=r8 h.2;exact⟨k::ks,.cons j hs⟩
theorem r9{k:D}(h:dP k=F2):∃q,RKeys k q:=by cases k<;>first|(simp[dP]at h;done)|exact r8 (Qe.mp h).1
theorem rf{ds:List D}(h:dP (.tup ds)=F2):fk ds=F2:=(Qe.mp h).2
noncomputable def RO(K:Frag)(H:Hp)(a:VH):O->Prop
 |.lst ds=>∃vs,H a=Z (.lst vs)/\RDs K H ds vs
 |.dct N3 kvs=>∃ps,H a=Z (.dK ps)/\LP (λ(p:D×D) (q:Key×V)=>RKey p.1 q.1/\RD K H p.2 q.2) kvs ps
 |.dct F2 kvs=>∃ps,H a=Z (.dT ps)/\LP (λ(p:D×D) (q:List Key×V)=>RKeys p.1 q.1/\RD K H p.2 q.2) kvs ps
 |.fdc kvs=>∃o ps,H a=Z (.frz o (.dT ps))/\LP (λ(p:D×D) (q:List Key×V)=>RKeys p.1 q.1/\RD K H p.2 q.2) kvs ps
 |.dcn kvs=>∃xs,H a=Z (.ext (zJ a xs))/\LP (λ(p:NK×D) (q:NK×VH×hH)=>p.1=q.1/\Kt H q.1 q.2.1/\∃v,RelV v q.2.2/\RD K H p.2 v) kvs xs
 |.fdn kvs=>∃o xs,H a=Z (.frz o (.ext (zJ a xs)))/\LP (λ(p:NK×D) (q:NK×VH×hH)=>p.1=q.1/\Kt H q.1 q.2.1/\∃v,RelV v q.2.2/\RD K H p.2 v) kvs xs
def RM(K:Frag)(M:Mem)(H:Hp):Prop:=∀a o,M a=Z o->RO K H a o
def RS(K:Frag)(H:Hp)(σ:St)(ρ:ar):Prop:=σ.length=ρ.length/\∀(i:Nat) (d:D),ρ[i]?=Z (Z d)->∃v,σ[i]?=Z (Z v)/\RD K H d v
structure Ext(M:Mem)(H:Hp)(M':Mem)(H':Hp):Prop where
 kp:∀a o,fz (M a)=F2->H a=Z o->H' a=Z o
 nw:∀a o,fz (M a)=F2->H a=Z o->M' a=M a
section
variable{K:Frag}{M M' M'':Mem}{H H' H'':Hp}
theorem Ext.keep(x:Ext M H M' H')(a:VH)(o:HO)(n:M a=Y)(e:H a=Z o):H' a=Z o:=x.kp a o (by rw[n];rfl) e
theorem Ext.new(x:Ext M H M' H')(a:VH)(o:HO)(n:M a=Y)(e:H a=Z o):M' a=Y:=(x.nw a o (by rw[n];rfl) e).trans n
theorem Ext.refl:Ext M H M H:=⟨λ_ _ _ h=>h,λ_ _ _ _=>rfl⟩
theorem Ext.trans(a:Ext M H M' H')(b:Ext M' H' M'' H''):Ext M H M'' H'':=⟨λc o n h=>b.kp c o (by rw[a.nw c o n h];exact n) (a.kp c o n h),λc o n h=>(b.nw c o (by rw[a.nw c o n h];exact n) (a.kp c o n h)).trans (a.nw c o n h)⟩
theorem RM.mut(r:RM K M H){o:O}(h:M a=Z o):∃ho,H a=Z ho/\(∀xs,ho≠.tup xs)/\(fz (Z o)=N3->Mut (Z ho)/\∀ob u,ho≠.frz ob u):=by
 have q:=r a o h
 cases o with
 |lst ds=>obtain⟨vs,e,_⟩:=q;exact⟨_,e,λ_ z=>(by cases z),λ_=>⟨trivial,λ_ _ z=>(by cases z)⟩⟩
 |dct t kvs=>
  cases t with
  |false=>obtain⟨ps,e,_⟩:=q;exact⟨_,e,λ_ z=>(by cases z),λ_=>⟨trivial,λ_ _ z=>(by cases z)⟩⟩
  |true=>obtain⟨ps,e,_⟩:=q;exact⟨_,e,λ_ z=>(by cases z),λ_=>⟨trivial,λ_ _ z=>(by cases z)⟩⟩
 |fdc kvs=>obtain⟨ob,ps,e,_⟩:=q;exact⟨_,e,λ_ z=>(by cases z),λz=>(by cases z)⟩
 |fdn kvs=>obtain⟨ob,ps,e,_⟩:=q;exact⟨_,e,λ_ z=>(by cases z),λz=>(by cases z)⟩
 |dcn kvs=>obtain⟨xs,e,_⟩:=q;exact⟨_,e,λ_ z=>(by cases z),λ_=>⟨trivial,λ_ _ z=>(by cases z)⟩⟩
theorem RM.fzT(r:RM K M H)(e:H a=Z (.tup xs)):M a=Y:=by
 cases q:M a with
 |none=>rfl
 |some o=>obtain⟨ho,j,z,_⟩:=r.mut q;rw[e]at j;cases j;exact absurd rfl (z xs)
theorem RM.fzF(r:RM K M H){ob:Obj}{u:HO}(e:H a=Z (.frz ob u)):fz (M a)=F2:=by
 cases q:M a with
 |none=>rfl
 |some o=>
  obtain⟨ho,j,_,B⟩:=r.mut q;rw[e]at j;cases j
  cases z:fz (Z o)with
  |true=>rfl
  |false=>exact absurd rfl ((B z).2 ob u)
theorem RM.out(r:RM K M H)(h:H a=Y):M a=Y:=by
 cases e:M a with
 |none=>rfl
 |some o=>obtain⟨ho,q,_⟩:=r.mut e;rw[h]at q;cases q
theorem Ext.stab(r:RM K M H)(x:Ext M H M' H'):Stab H H' where
 tup:=λa xs e=>x.keep a _ (r.fzT e) e
 frz:=λa o u e=>x.kp a _ (r.fzF e) e
theorem RS.mono(st:Stab H H'){ρ:ar}(h:RS K H σ ρ):RS K H' σ ρ:=⟨h.1,λi d e=>let⟨v,q,r⟩:=h.2 i d e; ⟨v,q,r.mono st⟩⟩
theorem RS.set{ρ:ar}(h:RS K H σ ρ)(i:Nat){d:D}(r:RD K H d v):RS K H (σ.set i (Z v)) (ρ.set i (Z d)):=by
 refine⟨by simp[h.1],λj e q=>?_⟩
 by_cases hij:i=j
 ·subst hij;have hi:i<ρ.length:=by
   have:=(KO.mp q).1;simpa using this
  rw[MV hi]at q
  cases q
  exact⟨v,by rw[MV (by rw[h.1];exact hi)],r⟩
 ·rw[NS hij]at q⊢;exact h.2 j e q
noncomputable def sW(fr:List (Option Nat))(ρ:ar):ar:=fr.map λo=>o.bind λj=>(ρ[j]?).join
theorem RS.inh{ρ:ar}(h:RS K H σ ρ)(fr:List (Option Nat)):RS K H (inh fr σ) (sW fr ρ):=by
 refine⟨by simp[L2.inh,sW],λi d e=>?_⟩
 unfold sW at e;unfold L2.inh;rw[KH]at e⊢
 cases q:fr[i]? with
 |none=>rw[q]at e;cases e
 |some o=>
  rw[q]at e
  cases o with
  |none=>cases e
  |some j=>
   have e':Z ((ρ[j]?).join)=Z (Z d):=e
   cases q':ρ[j]? with
   |none=>rw[q']at e';cases e'
   |some w=>
    rw[q']at e'
    cases e'
    obtain⟨v,v1,v2⟩:=h.2 j d q';exact⟨v,by simp[v1],v2⟩
theorem RO.mono(st:Stab H H'){o:O}(h:RO K H a o)(e:∀ho,H a=Z ho->H' a=Z ho):RO K H' a o:=by
 cases o with
 |lst ds=>obtain⟨vs,q,r⟩:=h;exact⟨vs,e _ q,r.mono st⟩
 |dct t kvs=>
  cases t with
  |false=>obtain⟨ps,q,r⟩:=h;exact⟨ps,e _ q,Vq r λ_ _ z=>⟨z.1,z.2.mono st⟩⟩
  |true=>obtain⟨ps,q,r⟩:=h;exact⟨ps,e _ q,Vq r λ_ _ z=>⟨z.1,z.2.mono st⟩⟩
 |fdc kvs=>obtain⟨ob,ps,q,r⟩:=h;exact⟨ob,ps,e _ q,Vq r λ_ _ z=>⟨z.1,z.2.mono st⟩⟩
 |fdn kvs=>obtain⟨ob,xs,q,r⟩:=h;exact⟨ob,xs,e _ q,Vq r λ_ _ j=>(by obtain⟨B,F,v,G,J⟩:=j;exact⟨B,F.keeps st.tup,v,G,J.mono st⟩)⟩
 |dcn kvs=>obtain⟨xs,q,r⟩:=h;exact⟨xs,e _ q,Vq r λ_ _ j=>(by obtain⟨B,F,v,G,J⟩:=j;exact⟨B,F.keeps st.tup,v,G,J.mono st⟩)⟩
theorem RM.new(r:RM K M H)(n:H p=Y):RM K M (upd H p ho):=λa o e=>by
 have ne:a≠p:=λz=>by subst z;obtain⟨_,q,_⟩:=r.mut e;rw[n]at q;cases q
 refine(r a o e).mono ⟨λb xs q=>?_,λb o u q=>?_⟩ λj q=>by rw[ao ne];exact q
 ·rw[ao (aY q n)];exact q
 ·rw[ao (aY q n)];exact q
theorem Vx(n:H p=Y):Ext M H M (upd H p ho):=⟨λa o _ e=>by rw[ao (aY e n)];exact e,λ_ _ _ _=>rfl⟩
theorem RM.lay{o:O}(r:RM K M H)(n:H p=Y)(h:RO K (upd H p ho) p o):RM K (af M p o) (upd H p ho):=λa o' e=>by
 by_cases z:a=p
 ·subst z;rw[aa]at e;cases e;exact h
 ·rw[al z]at e;exact r.new n a o' e
theorem Ext.lay{o:O}(n:H p=Y):Ext M H (af M p o) (upd H p ho):=⟨λa u _ e=>by rw[ao (aY e n)];exact e,λa u m e=>by rw[al (aY e n)]⟩
theorem RM.put{o o0:O}(r:RM K M H)(m:M p=Z o0)(h:RO K (upd H p ho) p o)(w:fz (Z o0)=N3:=by rfl):RM K (af M p o) (upd H p ho):=λa o' e=>by
 by_cases z:a=p
 ·subst z;rw[aa]at e;cases e;exact h
 ·rw[al z]at e;obtain⟨J,j,B,F⟩:=r.mut m;refine(r a o' e).mono ⟨λb xs q=>?_,λb o u q=>?_⟩ λG q=>by rw[ao z];exact q
  ·rw[ao (λz=>by subst z;rw[j]at q;cases q;exact B xs rfl)];exact q
  ·rw[ao (λz=>by subst z;rw[j]at q;cases q;exact(F w).2 o u rfl)];exact q
theorem Ext.put{o o0:O}(m:M p=Z o0)(w:fz (Z o0)=N3:=by rfl):Ext M H (af M p o) (upd H p ho):=⟨λa u n e=>by rw[ao (λz=>by subst z;rw[m,w]at n;cases n)];exact e,λa u n e=>al (λz=>by subst z;rw[m,w]at n;cases n)⟩
theorem RM.stabPut{o0:O}(r:RM K M H)(m:M p=Z o0)(w:fz (Z o0)=N3:=by rfl):Stab H (upd H p ho):=(Ext.put (o:=o0) (ho:=ho) m w).stab r
end
noncomputable abbrev QD:=D->Mem->Prop
noncomputable abbrev TEd:=ar->Mem->QD->Prop
noncomputable abbrev TTd:=ar->Mem->(Bool->Mem->Prop)->Prop
noncomputable abbrev TAd:=ar->Mem->(List D->Mem->Prop)->Prop
structure bh where
 nx:ar->Mem->Prop
 rt:QD
 bk:ar->Mem->Prop:=λ_ _=>False
 ct:ar->Mem->Prop:=λ_ _=>False
noncomputable abbrev TSd:=bh->ar->Mem->Prop
def ae(T:TEd):Prop:=∀ρ M Q Q',(∀d M',Q d M'->Q' d M')->T ρ M Q->T ρ M Q'
def aJ(T:TTd):Prop:=∀ρ M Q Q',(∀d M',Q d M'->Q' d M')->T ρ M Q->T ρ M Q'
def b5(T:TAd):Prop:=∀ρ M Q Q',(∀d M',Q d M'->Q' d M')->T ρ M Q->T ρ M Q'
structure LeD(a b:bh):Prop where
 nx:∀ρ M,a.nx ρ M->b.nx ρ M
 rt:∀d M,a.rt d M->b.rt d M
 bk:∀ρ M,a.bk ρ M->b.bk ρ M
 ct:∀ρ M,a.ct ρ M->b.ct ρ M
def aH(T:TSd):Prop:=∀a b ρ M,LeD a b->T a ρ M->T b ρ M
noncomputable def KE'(K:Frag)(M:Mem)(H:Hp)(Q:VK):QD:=λd M'=>∀v H',Ext M H M' H'->RM K M' H'->RD K H' d v->Q v H'
noncomputable def KT'(K:Frag)(M:Mem)(H:Hp)(Q:Bool->Hp->Prop):Bool->Mem->Prop:=λb M'=>∀H',Ext M H M' H'->RM K M' H'->Q b H'
noncomputable def KA'(K:Frag)(M:Mem)(H:Hp)(Q:List V->Hp->Prop):List D->Mem->Prop:=λds M'=>∀vs H',Ext M H M' H'->RM K M' H'->RDs K H' ds vs->Q vs H'
noncomputable def lE(K:Frag)(T:TEd):TE:=λσ H Q=>∃ρ M,RS K H σ ρ/\RM K M H/\T ρ M (KE' K M H Q)
noncomputable def lT(K:Frag)(T:TTd):TT:=λσ H Q=>∃ρ M,RS K H σ ρ/\RM K M H/\T ρ M (KT' K M H Q)
noncomputable def lA(K:Frag)(T:TAd):TA:=λσ H Q=>∃ρ M,RS K H σ ρ/\RM K M H/\T ρ M (KA' K M H Q)
structure Link(K:Frag)(M:Mem)(H:Hp)(a:bh)(b:bF):Prop where
 nx:∀ρ M' σ H',Ext M H M' H'->RS K H' σ ρ->RM K M' H'->a.nx ρ M'->b.nx σ H'
 rt:∀d M' v H',Ext M H M' H'->RM K M' H'->RD K H' d v->a.rt d M'->b.rt v H'
 bk:∀ρ M' σ H',Ext M H M' H'->RS K H' σ ρ->RM K M' H'->a.bk ρ M'->b.bk σ H'
 ct:∀ρ M' σ H',Ext M H M' H'->RS K H' σ ρ->RM K M' H'->a.ct ρ M'->b.ct σ H'
noncomputable def lS(K:Frag)(T:TSd):TS:=λD σ H=>∃ρ M A,RS K H σ ρ/\RM K M H/\Link K M H A D/\T A ρ M
theorem Link.ext{M M':Mem}{a:bh}{b:bF}(l:Link K M H a b)(x:Ext M H M' H'):Link K M' H' a b:=⟨λρ M2 σ H2 y=>l.nx ρ M2 σ H2 (x.trans y),λd M2 v H2 y=>l.rt d M2 v H2 (x.trans y),λρ M2 σ H2 y=>l.bk ρ M2 σ H2 (x.trans y),λρ M2 σ H2 y=>l.ct ρ M2 σ H2 (x.trans y)⟩
theorem PE.imp{t t':TE}(h:PE X e t)(i:∀σ H Q,t' σ H Q->t σ H Q):PE X e t':=λpins s σ H Q I q=>h pins s σ H Q I (i _ _ _ q)
theorem PT.imp{t t':TT}(h:PT X e t)(i:∀σ H Q,t' σ H Q->t σ H Q):PT X e t':=λpins s σ H Q I q=>h pins s σ H Q I (i _ _ _ q)
theorem PW.imp{t t':TT}(h:PW X e t)(i:∀σ H Q,t' σ H Q->t σ H Q):PW X e t':=λwh pins s σ H Q I q=>h wh pins s σ H Q I (i _ _ _ q)
theorem PA.imp{e:List Expr}{t t':TA}(h:PA X e t)(i:∀σ H Q,t' σ H Q->t σ H Q):PA X e t':=λp pins s σ H Q I q=>h p pins s σ H Q I (i _ _ _ q)
theorem PS.imp{e:Stmt}{t t':TS}(h:PS X e t)(i:∀D σ H,t' D σ H->t D σ H):PS X e t':=λpins s σ H D I q=>h pins s σ H D I (i _ _ _ q)
theorem PSs.imp{e:List Stmt}{t t':TS}(h:PSs X e t)(i:∀D σ H,t' D σ H->t D σ H):PSs X e t':=λpins s σ H D I q=>h pins s σ H D I (i _ _ _ q)
end
variable{M M':Mem}{ds:List D}{d:D}{Q:VK}{ta:TEd}{tr:TAd}{j:Nat}{es:List Expr}
section
theorem KE'.ext{M2:Mem}{H2:Hp}(x:Ext M H M2 H2)(h:KE' K M H Q d M'):KE' K M2 H2 Q d M':=λv H' y=>h v H' (x.trans y)
theorem KT'.ext{M2:Mem}{H2:Hp}{Q:Bool->Hp->Prop}{d:Bool}(x:Ext M H M2 H2)(h:KT' K M H Q d M'):KT' K M2 H2 Q d M':=λH' y=>h H' (x.trans y)
noncomputable abbrev R2d:=D->D->Mem->QD->Prop
noncomputable abbrev R1d:=D->Mem->QD->Prop
noncomputable abbrev RAd:=List D->Mem->QD->Prop
def aB(r:R2d):Prop:=∀x y M Q Q',(∀d M',Q d M'->Q' d M')->r x y M Q->r x y M Q'
def sX(r:R1d):Prop:=∀x M Q Q',(∀d M',Q d M'->Q' d M')->r x M Q->r x M Q'
def b4(r:RAd):Prop:=∀x M Q Q',(∀d M',Q d M'->Q' d M')->r x M Q->r x M Q'
noncomputable def l2(K:Frag)(rd:R2d):R2:=λv u H Q=>∃x y M,RM K M H/\RD K H x v/\RD K H y u/\rd x y M (KE' K M H Q)
noncomputable def l1(K:Frag)(rd:R1d):V->Hp->VK->Prop:=λv H Q=>∃x M,RM K M H/\RD K H x v/\rd x M (KE' K M H Q)
noncomputable def lR(K:Frag)(rd:RAd):List V->Hp->VK->Prop:=λvs H Q=>∃ds M,RM K M H/\RDs K H ds vs/\rd ds M (KE' K M H Q)
noncomputable def lMt(K:Frag)(rd:D->List D->Mem->QD->Prop):V->List V->Hp->VK->Prop:=λv vs H Q=>∃x ds M,RM K M H/\RD K H x v/\RDs K H ds vs/\rd x ds M (KE' K M H Q)
noncomputable def dQ(i:Nat):TEd:=λρ M Q=>∃d,ρ[i]?=Z (Z d)/\Q d M
noncomputable def wC(d:D):TEd:=λ_ M Q=>Q d M
noncomputable def wOp(rd:R2d)(ta tb:TEd):TEd:=λρ M Q=>ta ρ M λx M1=>tb ρ M1 λy M2=>rd x y M2 Q
noncomputable def wUn(rd:R1d)(ta:TEd):TEd:=λρ M Q=>ta ρ M λx M1=>rd x M1 Q
noncomputable def bo:TAd:=λ_ M Q=>Q [] M
noncomputable def aG(ta:TEd)(tr:TAd):TAd:=λρ M Q=>ta ρ M λx M1=>tr ρ M1 λxs M2=>Q (x::xs) M2
noncomputable def wAr(rd:RAd)(t:TAd):TEd:=λρ M Q=>t ρ M λds M1=>rd ds M1 Q
theorem xQ:ae (dQ i):=λ_ _ _ _ h j=>(by obtain⟨d,e,q⟩:=j;exact⟨d,e,h _ _ q⟩)
theorem jA:ae (wC d):=λ_ _ _ _ h q=>h _ _ q
theorem eX{rd:R2d}{tb:TEd}(j:aB rd)(z:ae ta)(hb:ae tb):ae (wOp rd ta tb):=λρ M Q Q' h q=>z _ _ _ _ (λx G B=>hb _ _ _ _ (λy M2 F=>j _ _ _ _ _ h F) B) q
theorem Au{rd:R1d}(j:sX rd)(z:ae ta):ae (wUn rd ta):=λρ M Q Q' h q=>z _ _ _ _ (λx F B=>j _ _ _ _ h B) q
theorem aw:b5 bo:=λ_ _ _ _ h q=>h _ _ q
theorem aq(j:ae ta)(z:b5 tr):b5 (aG ta tr):=λρ M Q Q' h q=>j _ _ _ _ (λx G B=>z _ _ _ _ (λxs M2 F=>h _ _ F) B) q
theorem gU{rd:RAd}{t:TAd}(j:b4 rd)(z:b5 t):ae (wAr rd t):=λρ M Q Q' h q=>z _ _ _ _ (λds F B=>j _ _ _ _ h B) q
section
variable{X:Cx}{a b:Expr}{ta tb:TEd}{pos:Pos}
theorem CI(B:X.N[i]?=Z x)(j:Vis X.env.scope x)(hd:(x==("__debug__":Str))=N3)(z:(x==("__classdict__":Str))=N3):PE X (.Name x pos) (lE X.K (dQ i)):=by refine PE.imp (C0 B j hd z) λσ H Q h=>?_;obtain⟨ρ,M,rs,rm,d,e,q⟩:=h;obtain⟨v,j,rd⟩:=rs.2 i d e;exact⟨v,j,q v H Ext.refl rm rd⟩
theorem CJ{i:Int}:PE X (.Constant (.int i) j pos) (lE X.K (wC (.int i))):=PE.imp C1 λσ H Q g9=>(by obtain⟨ρ,M,rs,rm,q⟩:=g9;exact q _ H Ext.refl rm (Vm.mpr rfl))
theorem Eo{i:Bool}:PE X (.Constant (.bool i) j pos) (lE X.K (wC (.bl i))):=PE.imp DX λσ H Q g9=>(by obtain⟨ρ,M,rs,rm,q⟩:=g9;exact q _ H Ext.refl rm (Vo.mpr rfl))
theorem CK:PE X (.Constant .none j pos) (lE X.K (wC .non)):=PE.imp C2 λσ H Q g9=>(by obtain⟨ρ,M,rs,rm,q⟩:=g9;exact q _ H Ext.refl rm (Vu.mpr rfl))
theorem gW{rd:R2d}(L:aB rd)(ma:ae ta)(mb:ae tb)(σ:St)(H:Hp)(Q:VK)(h:lE K (wOp rd ta tb) σ H Q):tOp (l2 K rd) (lE K ta) (lE K tb) σ H Q:=by obtain⟨ρ,M,rs,rm,q⟩:=h;refine⟨ρ,M,rs,rm,ma _ _ _ _ (λx O U v H1 G j z=>?_) q⟩;refine⟨ρ,O,rs.mono (G.stab rm),j,mb _ _ _ _ (λy M2 pv u H2 J B F=>?_) U⟩;exact⟨x,y,M2,B,z.mono (J.stab j),F,L _ _ _ _ _ (λd M' k=>k.ext (G.trans J)) pv⟩
theorem Ep{op:OL}{rd:R2d}(ho:OpR X (MA op) (l2 X.K rd))(j:aB rd)(ma:ae ta)(mb:ae tb)(q:PE X a (lE X.K ta))(hb:PE X b (lE X.K tb)):PE X (.BinOp a op b pos) (lE X.K (wOp rd ta tb)):=PE.imp (E8 ho q hb) (gW j ma mb)
theorem CL{op:CmpOp}{rd:R2d}(ho:OpR X (Ml op) (l2 X.K rd))(j:aB rd)(ma:ae ta)(mb:ae tb)(q:PE X a (lE X.K ta))(hb:PE X b (lE X.K tb))(hm:P4 op b=N3):PE X (.Compare a [op] [b] pos) (lE X.K (wOp rd ta tb)):=PE.imp (Ai ho q hb hm) (gW j ma mb)
noncomputable def kH(t:TEd):TTd:=λρ M Q=>t ρ M λx M1=>∃k,x=.bl k/\Q k M1
theorem xR{t:TEd}(h:ae t):aJ (kH t):=λρ M Q Q' i q=>h _ _ _ _ (λx B j=>(by obtain⟨k,e,z⟩:=j;exact⟨k,e,i _ _ z⟩)) q
theorem xS{t:TEd}(m:ae t)(σ:St)(H:Hp)(Q:Bool->Hp->Prop)(h:lT K (kH t) σ H Q):zA (lE K t) σ H Q:=by obtain⟨ρ,M,rs,rm,q⟩:=h;refine⟨ρ,M,rs,rm,m _ _ _ _ (λx G g9 v H1 F j z=>?_) q⟩;obtain⟨k,e,B⟩:=g9;subst e;exact⟨k,Vo.mp z,B H1 F j⟩
theorem CM{op:CmpOp}{rd:R2d}(ho:OpR X (Ml op) (l2 X.K rd))(j:aB rd)(ma:ae ta)(mb:ae tb)(q:PE X a (lE X.K ta))(hb:PE X b (lE X.K tb))(hm:P4 op b=N3):
 PT X (.Compare a [op] [b] pos) (lT X.K (kH (wOp rd ta tb))):=
 PT.imp (Aj ho q hb hm) λσ H Q h=>by have h1:=xS (eX j ma mb) σ H Q h;exact gW j ma mb σ H _ h1
theorem Er{op:UnaryOp}{rd:R1d}(ho:UnR X (unaryOp op) (l1 X.K rd))(B:sX rd)(ma:ae ta)(F:PE X a (lE X.K ta)):PE X (.UnaryOp op a pos) (lE X.K (wUn rd ta)):=PE.imp (E9 ho F) λσ H Q g9=>(by obtain⟨ρ,M,rs,rm,q⟩:=g9;exact⟨ρ,M,rs,rm,ma _ _ _ _ (λx G J v H1 L j z=>⟨x,G,j,z,B _ _ _ _ (λd M' k=>k.ext L) J⟩) q⟩)
theorem Es{rd:R2d}(ho:IxR X (l2 X.K rd))(j:aB rd)(ma:ae ta)(mb:ae tb)(q:PE X a (lE X.K ta))(hb:PE X b (lE X.K tb))(hs:kE b):PE X (.Subscript a b pos) (lE X.K (wOp rd ta tb)):=PE.imp (Ef ho q hb hs) (gW j ma mb)
theorem cR:PA X [] (lA X.K bo):=PA.imp uL λσ H Q g9=>(by obtain⟨ρ,M,rs,rm,q⟩:=g9;exact q _ H Ext.refl rm RDs.nil)
theorem uX(ma:ae ta)(mr:b5 tr)(σ:St)(H:Hp)(Q:List V->Hp->Prop)(h:lA K (aG ta tr) σ H Q):zB (lE K ta) (lA K tr) σ H Q:=by obtain⟨ρ,M,rs,rm,q⟩:=h;refine⟨ρ,M,rs,rm,ma _ _ _ _ (λx L O v H1 G j z=>?_) q⟩;refine⟨ρ,L,rs.mono (G.stab rm),j,mr _ _ _ _ (λxs M2 U vs H2 J B F=>?_) O⟩;exact U (v::vs) H2 (G.trans J) B (RDs.cons (z.mono (J.stab j)) F)
theorem bq(ma:ae ta)(mr:b5 tr)(j:PE X e (lE X.K ta))(q:PA X es (lA X.K tr))(hs:L8 (e::es) X.env=(N3,eval e X.env)::L8 es X.env):PA X (e::es) (lA X.K (aG ta tr)):=PA.imp (kA j q hs) (uX ma mr)
theorem bP{rd:RAd}{t:TAd}(B:b4 rd)(mt:b5 t)(σ:St)(H:Hp)(Q:VK)(h:lE K (wAr rd t) σ H Q):tCB (lR K rd) (lA K t) σ H Q:=by obtain⟨ρ,M,rs,rm,q⟩:=h;exact⟨ρ,M,rs,rm,mt _ _ _ _ (λds F G vs H1 J j z=>⟨ds,F,j,z,B _ _ _ _ (λd M' k=>k.ext J) G⟩) q⟩
noncomputable def sY:RAd:=λds M Q=>ds.length<=Kn/\Q (.tup ds) M
noncomputable def sZ:RAd:=λds M Q=>ds.length<=Kn/\∀p,M p=Y->Q (.ref p) (af M p (.lst ds))
theorem uY:b4 sY:=λ_ _ _ _ h j=>(by obtain⟨z,q⟩:=j;exact⟨z,h _ _ q⟩)
theorem uZ:b4 sZ:=λ_ _ _ _ h j=>(by obtain⟨z,q⟩:=j;exact⟨z,λp n=>h _ _ (q p n)⟩)
theorem dC(rm:RM K M H)(rd:RDs K H ds vs)(q:KE' K M H Q (.tup ds) M)(n:H p=Y):Q (.ref p) (upd H p (.tup vs)):=by have x:Ext M H M (upd H p (.tup vs)):=Vx n;exact q (.ref p) _ x (rm.new n) (Vv ⟨p,vs,rfl,aM,rd.mono (x.stab rm)⟩)
theorem cI(rm:RM K M H)(rd:RDs K H ds vs)(q:∀p,M p=Y->KE' K M H Q (.ref p) (af M p (.lst ds)))(n:H p=Y):Q (.ref p) (upd H p (.lst vs)):=by have x:Ext M H (af M p (.lst ds)) (upd H p (.lst vs)):=Ext.lay n;have x0:Ext M H M (upd H p (.lst vs)):=Vx n;exact q p (rm.out n) (.ref p) _ x (rm.lay n ⟨vs,aM,rd.mono (x0.stab rm)⟩) (Vn.mpr rfl)
theorem CN{t:TAd}{k:Nat}(mt:b5 t)(h:PA X es (lA X.K t)):PE X (.Tuple es k pos) (lE X.K (wAr sY t)):=PE.imp (Ct h) λσ H Q B=>(by obtain⟨ρ,M,rs,rm,q⟩:=B;exact⟨ρ,M,rs,rm,mt _ _ _ _ (λds L B vs H1 G F j=>(by obtain⟨z,J⟩:=B;exact⟨by rw[j.length];exact z,λp n=>dC F j (J.ext G) n⟩)) q⟩)
theorem CO{t:TAd}(mt:b5 t)(h:PA X es (lA X.K t)):PE X (.List es pos) (lE X.K (wAr sZ t)):=PE.imp (Cu h) λσ H Q B=>(by obtain⟨ρ,M,rs,rm,q⟩:=B;exact⟨ρ,M,rs,rm,mt _ _ _ _ (λds L B vs H1 G F j=>(by obtain⟨z,J⟩:=B;exact⟨by rw[j.length];exact z,λp n=>cI F j (λp' n'=>(J p' n').ext G) n⟩)) q⟩)
end
end
end Mi
namespace Mi
end Mi
section
theorem iM:fillsNumberSlot (.type "tuple") "mul"=pure N3:=PyProof.Rows.fillsNumberSlot_seq (id:="tuple.__mul__") (r:=Z (.builtin "tuple.__rmul__")) F.slot_tuple_mul.lookup (by decide +kernel) F.slot_tuple_rmul.lookup (by decide +kernel)
theorem oA:seqRepeat? (.type "tuple")=pure (Z (.builtin "tuple.__mul__")):=by
 unfold seqRepeat?;rw[RB (T:="tuple") (name:="__mul__") (id:="tuple.__mul__") F.slot_tuple_mul.lookup (by decide +kernel),RB (T:="tuple") (name:="__rmul__") (id:="tuple.__rmul__") F.slot_tuple_rmul.lookup (by decide +kernel)]
 rfl
theorem kI(a:Int)(t:Tok)(l:VH)(items:Array hH)(n:Nat)(d:Option VH)(sl:Array (Option hH)):
 Meets (Mp.«int.__rmul__» ⟨[.int a t,.ref l],[]⟩) (λ_ R s=>s.heap.get? l=Z {cls:=.type "tuple",dict:=d,data:=.seq items n,slots:=sl}/\R (.ok (.ret Sv)) s):=
 .of_wp λprog w A R s h=>by obtain⟨j,g,d,tk,os⟩:=s;obtain⟨hl,h⟩:=h;wp_walk;exact⟨_,rfl,h⟩
open AutoSeq1 (wpAny_loadPart') in
theorem v9(l:VH)(items:Array hH)(n:Nat)(dd:Option VH)(sl:Array (Option hH))(x:Int)(u:Tok)(h1:-(2^63)<=x)(h2:x<2^63)(q:items.size*x.toNat<=Kn):
 Meets (Mp.«tuple.__mul__» ⟨[.ref l,.int x u],[]⟩) (λ_ R s=>s.heap.get? l=Z {cls:=.type "tuple",dict:=dd,data:=.seq items n,slots:=sl} /\
  (if items.isEmpty || x==1 then R (.ok (.ret (.ref l))) s else R (.ok (.ret (.ref s.heap.objs.size))) {s with heap:=s.heap.push {cls:=.type "tuple",data:=.seq ((Kf x.toNat items).foldl (· ++ ·) #[])}})):=
 .of_wp λprog w A R s h=>by
  obtain⟨L,g,d,tk,os⟩:=s;obtain⟨hl,h⟩:=h;have f1:=AutoSeq1.idx_int;have z:(decide (x < -(2^63)) || decide (x≥2^63))=N3:=by rw[decide_eq_false ∅,decide_eq_false ∅];rfl
  wp_walk using Nj hl
  refine Nk (decide_eq_false (by rw[z];decide)) ?_
  dsimp only
  by_cases e1:(items.isEmpty || x==1)=F2
  ·rw[if_pos e1]at h
   wp_walk using Nj hl
   exact⟨_,rfl,h⟩
  ·rw[if_neg e1]at h
   wp_walk using Nj hl
   simp only[Qn,not_or]at e1
   by_cases e2:x<=0
   ·have j:(decide (x<=0) || items.isEmpty)=F2:=by rw[decide_eq_true e2];rfl
    rw[if_pos j];have B:x.toNat=0:=∅
    rw[B]at h
    wp_walk
    exact⟨_,rfl,h⟩
   ·have j:¬(decide (x<=0) || items.isEmpty)=F2:=by simp;exact⟨∅,by simpa using e1.1⟩
    rw[if_neg j];have hx:((items.size:Nat):Int)*x=((items.size*x.toNat:Nat):Int):=by rw[Qo,Oa ∅]
    have hs:Kn=16777216:=z4;have F:¬((items.size:Nat):Int)*x > (2^63-1) / 8:=by rw[hx];lia
    rw[if_neg F];have G:¬QO (((items.size:Nat):Int)*x)=F2:=by rw[hx];unfold QO;intro J;have O:=of_decide_eq_true J;lia
    rw[if_neg G]
    wp_walk
    have hsz:((Kf x.toNat items).foldl (· ++ ·) #[]).size<=Kn:=by
     have:∀(k:Nat) (a:Array hH),((Kf k items).foldl (· ++ ·) a).size=a.size+items.size*k:=by
      intro k;induction k with
      |zero=>intro a;simp
      |succ k ih=>intro a;rw[Mh,Se,ih,OJ,Nat.mul_succ];lia
     rw[this];simpa using q
    refine Nk (decide_eq_false (V3.mpr hsz)) ?_
    wp_walk
    exact⟨_,rfl,h⟩
end
section
section
variable{X:Cx}
noncomputable def zK(K:Frag):R2:=λx y H Q=>∃l k xs,x=.ref l/\y=.int k/\SqT K H l xs /\ -(2^63)<=k/\k<2^63/\xs.length*k.toNat<=Kn /\
 ((xs=[]∨k=1)->Q (.ref l) H)/\(¬(xs=[]∨k=1)->∀p,H p=Y->Q (.ref p) (upd H p (.tup (Kf k.toNat xs).flatten)))
theorem Av:OpR X (MA .Mult) (zK X.K):=by
 intro pins s σ H x y v u Q I rx ry h;obtain⟨l,k,xs,rfl,rfl,B,h1,h2,j,G,J⟩:=h
 cases rx
 obtain⟨t,rfl⟩:=ry;obtain⟨its,r,L,_⟩:=I.tuple B;have hl:=r.length;obtain⟨⟨cls,dd,dat,sl⟩,e,hc,n,hd⟩:=L;dsimp only at hc hd;subst hc hd;have hlen:its.toArray.size*k.toNat<=Kn:=by rw[Kq,<-hl];exact j
 have f0:∀m:Nat,PX (λO pv=>O++pv) #[] (Kf m its.toArray)=(Kf m its).flatten.toArray:=λm=>by have:=gc its m [];rw[Qj]at this;exact this
 refine QX (T:="tuple") (U:="int") (by decide) ⟨_,e,rfl⟩ (λs'=>RZ s' k t) iM UL Qk oA F.slot_int_index.lookup
  (PY Qk (RZ s k t) Ua (TF _ _) (kI k t l its.toArray n dd sl)
    ⟨e,rfl,⟨_,e,rfl⟩,PY F.slot_tuple_mul ⟨_,e,rfl⟩ F.entry_tuple_mul (F.args_tuple_mul_2 _ _) (v9 l its.toArray n dd sl k t h1 h2 hlen) ⟨e,?_⟩⟩)
 have hi:(its.toArray.isEmpty || k==1)=F2↔(xs=[]∨k=1):=by rw[<-r.nil_iff];simp
 split
 ·next c=>exact⟨.ref l,H,I,rfl,G (hi.mp c)⟩
 ·next c=>rw[f0];refine⟨.ref s.heap.objs.size,_,I.laid (t':=s.toks) (o:=.tup (Kf k.toNat xs).flatten) (λb ob q=>hW _ q) (Ku _) ?_,rfl,J (λz=>c (hi.mpr z)) _ (I.hok.fresh (Ku _))⟩;exact⟨by rw[qZ,Nat.mul_comm];exact j,_,r.rep k.toNat,PU _ _⟩
end
end
section
section
variable{X:Cx}
theorem Aw:OpR X (MA .Add) (λx y H Q=>∃a b ys,x=.ref a/\y=.ref b/\SqT X.K H a []/\SqT X.K H b ys/\Q (.ref b) H):=by
 intro pins s σ H x y v u Q I rx ry h;obtain⟨a,b,ys,rfl,rfl,O,hb,q⟩:=h
 cases rx
 cases ry
 obtain⟨its,U,pv,_⟩:=I.tuple O;obtain⟨j,r2,p2,_⟩:=I.tuple hb;have e0:its=[]:=U.nil_iff.mpr rfl;obtain⟨⟨cls,dd,data,sl⟩,ho,hc,n,hd⟩:=id pv;obtain⟨⟨L,G,data2,J⟩,z,B,fv,hd2⟩:=id p2;simp only at hc hd B hd2;subst hc hd B hd2;exact Tz ⟨_,ho,rfl⟩ ⟨_,z,rfl⟩ Rx T5 Pz Pu (P6 _ _)
  (tuple_addW0 a b its.toArray j.toArray n fv dd G sl J (by simp[e0])) ⟨ho,z,⟨.ref b,H,I,rfl,q⟩⟩
end
end
namespace Mi
variable{K:Frag}{M:Mem}{H:Hp}{Q:VK}{v:V}
section
def MulOk(i j:Int):Prop:=(-(2^64)<i/\i<2^64)∨(-(2^64)<j/\j<2^64)∨(Qt i<=2^20/\Qt j<=2^20)
theorem MulOk.ok{i j:Int}(h:MulOk i j):IntMulOk i j:=by
 rcases h with h|h|h
 ·exact IntMulOk.of_left (Rj h.1 h.2)
 ·exact IntMulOk.of_right (Rj h.1 h.2)
 ·exact IntMulOk.of_bits h.1 h.2
noncomputable def eS:R2d
 |.int i,.int j,M,Q=>Q (.int (i+j)) M
 |.tup a,.tup b,M,Q=>(a≠[]∨True)/\a.length+b.length<=Kn/\Q (.tup (a++b)) M
 |.ref a,.ref b,M,Q=>∃xs ys,M a=Z (.lst xs)/\M b=Z (.lst ys)/\xs.length+ys.length<=Kn/\∀p,M p=Y->Q (.ref p) (af M p (.lst (xs++ys)))
 |.str x,.str y,M,Q=>x.length+y.length<=Kn/\Q (.str (x++y)) M
 |_,_,_,_=>False
noncomputable def iP:R2d
 |.int i,.int j,M,Q=>Q (.int (i-j)) M
 |_,_,_,_=>False
noncomputable def iQ:R2d
 |.int i,.int j,M,Q=>MulOk i j/\Q (.int (i*j)) M
 |.ref a,.int k,M,Q=>∃xs,M a=Z (.lst xs) /\ -(2^63)<=k/\k<2^63/\xs.length*k.toNat<=Kn/\∀p,M p=Y->Q (.ref p) (af M p (.lst (Kf k.toNat xs).flatten))
 |.tup ds,.int k,M,Q=>-(2^63)<=k/\k<2^63/\ds.length*k.toNat<=Kn/\Q (.tup (Kf k.toNat ds).flatten) M
 |_,_,_,_=>False
noncomputable def jB:R2d
 |.int i,.int j,M,Q=>0<j/\j<2^256/\Q (.int (i / j)) M
 |_,_,_,_=>False
noncomputable def oB:R2d
 |.int i,.int j,M,Q=>0<j/\Q (.int (i%j)) M
 |_,_,_,_=>False
noncomputable def oC:R2d
 |.int i,.int j,M,Q=>0<=j/\j<=1000000/\i.natAbs<2^64/\Q (.int (i^j.toNat)) M
 |_,_,_,_=>False
theorem oD:aB eS:=by
 intro x y M Q Q' h q
 cases x<;>cases y<;>first
  |exact q.elim
  |exact h _ _ q
  |exact⟨q.1,h _ _ q.2⟩
  |exact⟨q.1,q.2.1,h _ _ q.2.2⟩
  |(obtain⟨xs,ys,e1,e2,z,q⟩:=q;exact⟨xs,ys,e1,e2,z,λp n=>h _ _ (q p n)⟩)
theorem xT:aB iP:=by
 intro x y M Q Q' h q
 cases x<;>cases y<;>first|exact q.elim|exact h _ _ q
theorem xU:aB iQ:=by
 intro x y M Q Q' h q
 cases x<;>cases y<;>first
  |exact q.elim
  |exact⟨q.1,h _ _ q.2⟩
  |exact⟨q.1,q.2.1,q.2.2.1,h _ _ q.2.2.2⟩
  |(obtain⟨xs,e1,j,z,B,q⟩:=q;exact⟨xs,e1,j,z,B,λp n=>h _ _ (q p n)⟩)
theorem va:aB jB:=by
 intro x y M Q Q' h q
 cases x<;>cases y<;>first|exact q.elim|exact⟨q.1,q.2.1,h _ _ q.2.2⟩
theorem xV:aB oB:=by
 intro x y M Q Q' h q
 cases x<;>cases y<;>first|exact q.elim|exact⟨q.1,h _ _ q.2⟩
theorem xW:aB oC:=by
 intro x y M Q Q' h q
 cases x<;>cases y<;>first|exact q.elim|exact⟨q.1,q.2.1,q.2.2.1,h _ _ q.2.2.2⟩
section
variable{X:Cx}
theorem OpR.of{f:hH->hH->Sem hH}{r r':R2}(h:OpR X f r)(i:∀v u H Q,r' v u H Q->r v u H Q):OpR X f r':=λpins s σ H x y v u Q I rx ry q=>h pins s σ H x y v u Q I rx ry (i _ _ _ _ q)
theorem IxR.of{r r':R2}(h:IxR X r)(i:∀v u H Q,r' v u H Q->r v u H Q):IxR X r':=λa b pins s σ H x y v u Q I rx ry q=>h a b pins s σ H x y v u Q I rx ry (i _ _ _ _ q)
theorem CallR.of{f:hH}{r r':List V->Hp->VK->Prop}(h:CallR X f r)(i:∀vs H Q,r' vs H Q->r vs H Q):CallR X f r':=λpins s σ H xs us Q I rx q=>h pins s σ H xs us Q I rx (i _ _ _ q)
theorem Et{a b:List D}{u:V}(rm:RM K M H)(rx:RD K H (.tup a) v)(ry:RD K H (.tup b) u)(q:eS (.tup a) (.tup b) M (KE' K M H Q)):zD K v u H Q∨∃a b ys,v=.ref a/\u=.ref b/\SqT K H a []/\SqT K H b ys/\Q (.ref b) H:=by
 obtain⟨a',vs,rfl,z,j⟩:=Vs rx;obtain⟨b',us,rfl,hb,B⟩:=Vs ry;obtain⟨_,G,q⟩:=q;have l1:=j.length;have l2:=B.length
 by_cases F:a=[]
 ·subst F;have:vs=[]:=RDs.nil_iff.mp j;subst this;exact .inr ⟨a',b',us,rfl,rfl,z,hb,q _ H Ext.refl rm ry⟩
 refine .inl ⟨a',b',vs,us,rfl,rfl,z,hb,λe=>F (Ls.mp (by rw[<-l1,e];rfl)),∅,λe=>?_,λ_ p n=>dC rm (j.append B) q n⟩
 have eb:b=[]:=Ls.mp (by rw[<-l2,e];rfl)
 subst eb;rw[Mg]at q;exact q _ H Ext.refl rm rx
theorem oE:OpR X (MA .Add) (l2 X.K eS):=by
 refine OpR.of (op_add.or ((op_catT.or Aw).or (op_cat.or sK))) λv u H Q h=>?_;obtain⟨x,y,M,rm,rx,ry,q⟩:=h
 cases x<;>cases y<;>first
  |exact q.elim
  |(cases Vm.mp rx;cases Vm.mp ry;exact .inl ⟨_,_,rfl,rfl,q _ H Ext.refl rm (Vm.mpr rfl)⟩)
  |exact .inr (.inl (Et rm rx ry q))
  | (cases Vn.mp rx;cases Vn.mp ry
     obtain⟨xs,ys,e1,e2,z,q⟩:=q;obtain⟨vs,h1,j⟩:=rm _ _ e1;obtain⟨us,h2,B⟩:=rm _ _ e2;have l1:=j.length;have l2:=B.length;refine .inr (.inr (.inl ⟨_,_,vs,us,rfl,rfl,h1,h2,∅,λp n=>cI rm (j.append B) q n⟩)))
  |(cases Vt.mp rx;cases Vt.mp ry;exact .inr (.inr (.inr ⟨_,_,rfl,rfl,q.1,q.2 _ H Ext.refl rm (Vt.mpr rfl)⟩)))
theorem xX:OpR X (MA .Sub) (l2 X.K iP):=by
 refine OpR.of Cl λv u H Q h=>?_;obtain⟨x,y,M,rm,rx,ry,q⟩:=h
 cases x<;>cases y<;>first
  |exact q.elim
  |(cases Vm.mp rx;cases Vm.mp ry;exact⟨_,_,rfl,rfl,q _ H Ext.refl rm (Vm.mpr rfl)⟩)
theorem op_mul_i:OpR X (MA .Mult) (rI MulOk λi j=>.int (i*j)):=opI λ_ _ _ _ _ _ _ hc q=>mul_int q hc.ok
theorem Eu{a:List D}{k:Int}{u:V}(rm:RM K M H)(rx:RD K H (.tup a) v)(ry:RD K H (.int k) u)(q:iQ (.tup a) (.int k) M (KE' K M H Q)):zK K v u H Q:=by
 obtain⟨a',vs,rfl,z,j⟩:=Vs rx
 cases Vm.mp ry
 obtain⟨B,F,G,q⟩:=q;have l1:=j.length;refine⟨a',k,vs,rfl,rfl,z,B,F,by rw[l1];exact G,λe=>?_,λ_ p n=>dC rm (j.rep _) q n⟩
 have ea:(Kf k.toNat a).flatten=a:=by
  rcases e with e|e
  ·have:a=[]:=Ls.mp (by rw[<-l1,e];rfl)
   subst this;simp
  ·subst e;simp
 rw[ea]at q;exact q _ H Ext.refl rm rx
theorem xY:OpR X (MA .Mult) (l2 X.K iQ):=by
 refine OpR.of (op_mul_i.or (op_rep.or Av)) λv u H Q h=>?_;obtain⟨x,y,M,rm,rx,ry,q⟩:=h
 cases x<;>cases y<;>first
  |exact q.elim
  |(cases Vm.mp rx;cases Vm.mp ry;exact .inl ⟨_,_,rfl,rfl,q.1,q.2 _ H Ext.refl rm (Vm.mpr rfl)⟩)
  | (cases Vn.mp rx;cases Vm.mp ry
     obtain⟨xs,e1,z,B,F,q⟩:=q;obtain⟨vs,h1,j⟩:=rm _ _ e1;have l1:=j.length;exact .inr (.inl ⟨_,_,vs,rfl,rfl,h1,z,B,by rw[l1];exact F,λp n=>cI rm (j.rep _) q n⟩))
  |exact .inr (.inr (Eu rm rx ry q))
theorem xZ:OpR X (MA .FloorDiv) (rI (λ_ j=>0<j/\j<2^256) λi j=>.int (i / j)):=L2.opI λi j _ _ _ _ _ hc q=>by
 have h1:(0:Int)<j:=hc.1;have h2:j<2^256:=hc.2;have z:j.natAbs.log2<256:=(Nat.log2_lt ∅).mpr ∅
 exact floordiv_int ∅ (by rw[Int.fdiv_eq_ediv_of_nonneg i ∅];exact q) (.inl (PyProof.noPylong_of_log2 ∅))
theorem vc:OpR X (MA .FloorDiv) (l2 X.K jB):=by
 refine OpR.of xZ λv u H Q h=>?_;obtain⟨x,y,M,rm,rx,ry,q⟩:=h
 cases x<;>cases y<;>first
  |exact q.elim
  |(cases Vm.mp rx;cases Vm.mp ry;exact⟨_,_,rfl,rfl,⟨q.1,q.2.1⟩,q.2.2 _ H Ext.refl rm (Vm.mpr rfl)⟩)
theorem y7:OpR X (MA .Mod) (l2 X.K oB):=by
 refine OpR.of Cn λv u H Q h=>?_;obtain⟨x,y,M,rm,rx,ry,q⟩:=h
 cases x<;>cases y<;>first
  |exact q.elim
  |(cases Vm.mp rx;cases Vm.mp ry;exact⟨_,_,rfl,rfl,q.1,q.2 _ H Ext.refl rm (Vm.mpr rfl)⟩)
theorem y8:OpR X (MA .Pow) (l2 X.K oC):=by
 refine OpR.of Co λv u H Q h=>?_;obtain⟨x,y,M,rm,rx,ry,q⟩:=h
 cases x<;>cases y<;>first
  |exact q.elim
  |(cases Vm.mp rx;cases Vm.mp ry;exact⟨_,_,rfl,rfl,⟨q.1,q.2.1,q.2.2.1⟩,q.2.2.2 _ H Ext.refl rm (Vm.mpr rfl)⟩)
noncomputable def oF:R1d
 |.int i,M,Q=>Q (.int (-i)) M
 |_,_,_=>False
theorem oG:sX oF:=by
 intro x M Q Q' h q
 cases x<;>first|exact q.elim|exact h _ _ q
theorem UnR.of{f:hH->Sem hH}{r r':V->Hp->VK->Prop}(h:UnR X f r)(i:∀v H Q,r' v H Q->r v H Q):UnR X f r':=λpins s σ H x v Q I rx q=>h pins s σ H x v Q I rx (i _ _ _ q)
theorem y9:UnR X (unaryOp .USub) (l1 X.K oF):=by
 refine UnR.of Cp λv H Q h=>?_;obtain⟨x,M,rm,rx,q⟩:=h
 cases x<;>first
  |exact q.elim
  |(cases Vm.mp rx;exact⟨_,rfl,q _ H Ext.refl rm (Vm.mpr rfl)⟩)
noncomputable def aQ{α β:Type}(f:α->Option β):List α->Option (List β)
 |[]=>Z []
 |x::xs=>(f x).bind λy=>(aQ f xs).map (y :: ·)
noncomputable def rb:Nat->Mem->D->Option Me
 |_,_,.non=>Z .none
 |_,_,.bl b=>Z (.bool b)
 |_,_,.int i=>Z (.int i)
 |_,_,.str x=>if PyData.strOk x=F2 then Z (.str x)else Y
 |n+1,M,.tup ds=>(aQ (rb n M) ds).map TN
 |n+1,M,.con ds=>(aQ (rb n M) ds).map UC
 | n+1,M,.ref a=>match M a with
   |some (.lst ds)=>(aQ (rb n M) ds).map UC
   |_=>Y
 |0,_,.tup _=>Y
 |0,_,.con _=>Y
 |0,_,.ref _=>Y
 |_,_,.fn _=>Y
theorem dm{n:Nat}{M:Mem}(ih:∀d p,rb n M d=Z p->p.depth<=n/\p.canLay0=F2):∀{ds:List D} {ps:List Me},aQ (rb n M) ds=Z ps->Nl ps<=n/\Mk ps=F2
 |[],ps,h=>by simp[aQ]at h;subst h;exact⟨Mj _,rfl⟩
 |d::ds,ps,h=>by
  simp only[aQ]at h
  cases e1:rb n M d with
  |none=>rw[e1]at h;cases h
  |some p=>
   rw[e1]at h
   cases e2:aQ (rb n M) ds with
   |none=>simp[e2]at h
   |some qs=>
    simp[e2]at h;subst h;obtain⟨a1,a2⟩:=ih d p e1;obtain⟨b1,b2⟩:=dm ih e2;refine⟨?_,?_⟩
    ·show max p.depth (Nl qs)<=n;lia
    ·show(p.canLay0&&Mk qs)=F2;rw[a2,b2];rfl
theorem cr{M:Mem}:∀(n:Nat) (d:D) (p:Me),rb n M d=Z p->p.depth<=n/\p.canLay0=F2
 |n,.non,p,h=>by simp[rb]at h;subst h;exact⟨Mj _,rfl⟩
 |n,.bl b,p,h=>by simp[rb]at h;subst h;exact⟨Mj _,rfl⟩
 |n,.int b,p,h=>by simp[rb]at h;subst h;exact⟨Mj _,rfl⟩
 |n,.str x,p,h=>by simp[rb]at h;obtain⟨h1,h2⟩:=h;subst h2;exact⟨Mj _,h1⟩
 |0,.tup _,p,h=>by simp[rb]at h
 |0,.con _,p,h=>by simp[rb]at h
 |0,.ref _,p,h=>by simp[rb]at h
 |n,.fn _,p,h=>by simp[rb]at h
 |n+1,.tup ds,p,h=>by
  simp only[rb]at h
  cases e:aQ (rb n M) ds with
  |none=>rw[e]at h;cases h
  |some ps=>rw[e]at h;cases h;obtain⟨a,b⟩:=dm (cr n) e;exact⟨RC a,b⟩
 |n+1,.con ds,p,h=>by
  simp only[rb]at h
  cases e:aQ (rb n M) ds with
  |none=>rw[e]at h;cases h
  |some ps=>rw[e]at h;cases h;obtain⟨a,b⟩:=dm (cr n) e;exact⟨RC a,b⟩
 |n+1,.ref a,p,h=>by
  simp only[rb]at h
  cases e0:M a with
  |none=>rw[e0]at h;cases h
  |some o=>
   rw[e0]at h
   cases o with
   |dct _ _=>cases h
   |fdc _=>cases h
   |dcn _=>cases h
   |fdn _=>cases h
   |lst ds=>
    simp only at h
    cases e:aQ (rb n M) ds with
    |none=>rw[e]at h;cases h
    |some ps=>rw[e]at h;cases h;obtain⟨a,b⟩:=dm (cr n) e;exact⟨RC a,b⟩
theorem dq{K:Frag}{H:Hp}{n:Nat}{M:Mem}{h:Heap}(ih:∀d p v u,rb n M d=Z p->RD K H d v->RelV v u->∃as,P7 h u p as):
 ∀{ds:List D} {ps:List Me} {vs:List V} {us:List hH},aQ (rb n M) ds=Z ps->RDs K H ds vs->Vals vs us->∃as,SF h us ps as
 |[],ps,vs,us,hm,r,rv=>by
  simp[aQ]at hm;subst hm;rw[RDs.nil_iff.mp r]at rv
  cases rv
  exact⟨_,.nil⟩
 |d::ds,ps,vs,us,hm,r,rv=>by
  obtain⟨v,vr,rfl,j,q⟩:=Vp.mp r
  cases rv with
  |cons z B=>
   simp only[aQ]at hm
   cases e1:rb n M d with
   |none=>rw[e1]at hm;cases hm
   |some p=>
    rw[e1]at hm
    cases e2:aQ (rb n M) ds with
    |none=>simp[e2]at hm
    |some qs=>simp[e2]at hm;subst hm;obtain⟨as,ra⟩:=ih d p v _ e1 j z;obtain⟨bs,rbs⟩:=dq ih e2 q B;exact⟨_,.cons ra rbs⟩
theorem bu{pins:List (VH×Obj)}{σ:St}{H:Hp}{s:p7}{M:Mem}(I:Inv X pins σ H s)(rm:RM X.K M H):∀(n:Nat) (d:D) (p:Me) (v:V) (u:hH),rb n M d=Z p->RD X.K H d v->RelV v u->∃as,P7 s.heap u p as
 |n,.non,p,v,u,h,r,q=>by simp[rb]at h;subst h;cases Vu.mp r;cases q;exact⟨_,.none⟩
 |n,.bl b,p,v,u,h,r,q=>by simp[rb]at h;subst h;cases Vo.mp r;cases q;exact⟨_,.bool b⟩
 |n,.int b,p,v,u,h,r,q=>by simp[rb]at h;subst h;cases Vm.mp r;obtain⟨t,rfl⟩:=q;exact⟨_,.int b t⟩
 |n,.str x,p,v,u,h,r,q=>by simp[rb]at h;obtain⟨_,h2⟩:=h;subst h2;cases Vt.mp r;obtain⟨t,rfl⟩:=q;exact⟨_,.str x t⟩
 |0,.tup _,p,_,_,h,_,_=>by simp[rb]at h
 |0,.con _,p,_,_,h,_,_=>by simp[rb]at h
 |0,.ref _,p,_,_,h,_,_=>by simp[rb]at h
 |n,.fn _,p,_,_,h,_,_=>by simp[rb]at h
 |n+1,.tup ds,p,v,u,h,r,q=>by
  simp only[rb]at h
  cases e:aQ (rb n M) ds with
  |none=>rw[e]at h;cases h
  |some ps=>
   rw[e]at h;cases h;obtain⟨a,vs,rfl,j,rs⟩:=Vs r
   cases q
   obtain⟨its,rv,⟨o,ho,hc,k,hd⟩,_⟩:=I.tuple j;obtain⟨as,ra⟩:=dq (bu I rm n) e rs rv;exact⟨_,.tuple ho hc hd (by simpa using ra)⟩
 |n+1,.con ds,p,v,u,h,r,q=>by
  simp only[rb]at h
  cases e:aQ (rb n M) ds with
  |none=>rw[e]at h;cases h
  |some ps=>
   rw[e]at h;cases h;obtain⟨a,vs,rfl,j,rs⟩:=Vr.mp r
   cases q
   obtain⟨its,rv,⟨o,k,ho,hc,_,hd⟩,_⟩:=I.list j.sq;obtain⟨as,ra⟩:=dq (bu I rm n) e rs rv;exact⟨_,.list ho hc hd (by simpa using ra)⟩
 |n+1,.ref a,p,v,u,h,r,q=>by
  simp only[rb]at h
  cases e0:M a with
  |none=>rw[e0]at h;cases h
  |some o=>
   rw[e0]at h
   cases o with
   |dct _ _=>cases h
   |fdc _=>cases h
   |dcn _=>cases h
   |fdn _=>cases h
   |lst ds=>
    simp only at h
    cases e:aQ (rb n M) ds with
    |none=>rw[e]at h;cases h
    |some ps=>
     rw[e]at h;cases h
     cases Vn.mp r
     cases q
     obtain⟨vs,j,rs⟩:=rm _ _ e0;obtain⟨its,rv,⟨o,k,ho,hc,_,hd⟩,_⟩:=I.list (SqL.of j);obtain⟨as,ra⟩:=dq (bu I rm n) e rs rv;exact⟨_,.list ho hc hd (by simpa using ra)⟩
noncomputable def wEq:R2d:=λx y M Q=>∃p q,rb 16 M x=Z p/\rb 16 M y=Z q/\Q (.bl (Lw p q)) M
noncomputable def wNe:R2d:=λx y M Q=>∃p q,rb 16 M x=Z p/\rb 16 M y=Z q/\Q (.bl (!PyData.eqv p q)) M
theorem Ax:aB wEq:=λ_ _ _ _ _ h j=>(by obtain⟨p,q,a,b,c⟩:=j;exact⟨p,q,a,b,h _ _ c⟩)
theorem Ay:aB wNe:=λ_ _ _ _ _ h j=>(by obtain⟨p,q,a,b,c⟩:=j;exact⟨p,q,a,b,h _ _ c⟩)
theorem Az(F:X.A.units+16<NA):OpR X (Ml .Eq) (l2 X.K wEq):=by intro pins s σ H x y v u Q I rx ry h;obtain⟨d,e,M,rm,rd,re,p,q,j,z,k⟩:=h;obtain⟨as,ra⟩:=bu I rm _ _ _ _ _ j rd rx;obtain⟨bs,rb'⟩:=bu I rm _ _ _ _ _ z re ry;obtain⟨G,p2⟩:=cr _ _ _ j;obtain⟨J,B⟩:=cr _ _ _ z;exact SeqAt.compareEq_reads ra rb' p2 B ∅ ⟨.bl _,H,I,rfl,k _ H Ext.refl rm (Vo.mpr rfl)⟩
theorem AA(F:X.A.units+16<NA):OpR X (Ml .NotEq) (l2 X.K wNe):=by intro pins s σ H x y v u Q I rx ry h;obtain⟨d,e,M,rm,rd,re,p,q,j,z,k⟩:=h;obtain⟨as,ra⟩:=bu I rm _ _ _ _ _ j rd rx;obtain⟨bs,rb'⟩:=bu I rm _ _ _ _ _ z re ry;obtain⟨G,p2⟩:=cr _ _ _ j;obtain⟨J,B⟩:=cr _ _ _ z;exact SeqAt.compareNe_reads ra rb' p2 B ∅ ⟨.bl _,H,I,rfl,k _ H Ext.refl rm (Vo.mpr rfl)⟩
noncomputable def wLt:R2d
 |.int i,.int j,M,Q=>Q (.bl (decide (i<j))) M
 |_,_,_,_=>False
noncomputable def wGt:R2d
 |.int i,.int j,M,Q=>Q (.bl (decide (j<i))) M
 |_,_,_,_=>False
noncomputable def wGe:R2d
 |.int i,.int j,M,Q=>Q (.bl (decide (j<=i))) M
 |_,_,_,_=>False
theorem AB:aB wLt:=by
 intro x y M Q Q' h q
 cases x<;>cases y<;>first|exact q.elim|exact h _ _ q
theorem AC:aB wGt:=by
 intro x y M Q Q' h q
 cases x<;>cases y<;>first|exact q.elim|exact h _ _ q
theorem AD:aB wGe:=by
 intro x y M Q Q' h q
 cases x<;>cases y<;>first|exact q.elim|exact h _ _ q
theorem AE:OpR X (Ml .Lt) (l2 X.K wLt):=by
 refine OpR.of Ea λv u H Q h=>?_;obtain⟨x,y,M,rm,rx,ry,q⟩:=h
 cases x<;>cases y<;>first
  |exact q.elim
  |(cases Vm.mp rx;cases Vm.mp ry;exact⟨_,_,rfl,rfl,q _ H Ext.refl rm (Vo.mpr rfl)⟩)
theorem AF:OpR X (Ml .Gt) (l2 X.K wGt):=by
 refine OpR.of Eb λv u H Q h=>?_;obtain⟨x,y,M,rm,rx,ry,q⟩:=h
 cases x<;>cases y<;>first
  |exact q.elim
  |(cases Vm.mp rx;cases Vm.mp ry;exact⟨_,_,rfl,rfl,q _ H Ext.refl rm (Vo.mpr rfl)⟩)
theorem AG:OpR X (Ml .GtE) (l2 X.K wGe):=by
 refine OpR.of Ec λv u H Q h=>?_;obtain⟨x,y,M,rm,rx,ry,q⟩:=h
 cases x<;>cases y<;>first
  |exact q.elim
  |(cases Vm.mp rx;cases Vm.mp ry;exact⟨_,_,rfl,rfl,q _ H Ext.refl rm (Vo.mpr rfl)⟩)
end
end
variable{a:VH}{ds:List D}{vs:List V}{d x:D}{kvs:List (D×D)}
section
noncomputable def wIx:R2d:=λx y M Q=>match x with
 |.tup ds=>∃i d,y=.int i/\atI ds i=Z d/\Q d M
 |.con ds=>∃i d,y=.int i/\atI ds i=Z d/\Q d M
 |.ref a=>(∃ds i d,M a=Z (.lst ds)/\y=.int i/\atI ds i=Z d/\Q d M)∨(∃t kvs d,M a=Z (.dct t kvs)/\eC t y=F2/\dget kvs y=Z d/\Q d M)∨∃kvs d,M a=Z (.fdc kvs)/\dP y=F2/\dget kvs y=Z d/\Q d M
 |_=>False
theorem rg:aB wIx:=by
 intro x y M Q Q' h q
 cases x with
 |tup ds=>obtain⟨i,d,e,e2,q⟩:=q;exact⟨i,d,e,e2,h _ _ q⟩
 |con ds=>obtain⟨i,d,e,e2,q⟩:=q;exact⟨i,d,e,e2,h _ _ q⟩
 |ref a=>
  rcases q with⟨ds,i,d,e1,e2,j,q⟩|⟨t,kvs,d,e1,e2,j,q⟩|⟨kvs,d,e1,e2,j,q⟩
  ·exact .inl ⟨ds,i,d,e1,e2,j,h _ _ q⟩
  ·exact .inr (.inl ⟨t,kvs,d,e1,e2,j,h _ _ q⟩)
  ·exact .inr (.inr ⟨kvs,d,e1,e2,j,h _ _ q⟩)
 |_=>exact q.elim
theorem jC{i:Int}(r:RDs K H ds vs)(e:atI ds i=Z d):∃v,atI vs i=Z v/\RD K H d v:=by
 unfold atI at e⊢;rw[r.length]
 cases q:ixN ds.length i with
 |none=>rw[q]at e;cases e
 |some j=>rw[q]at e;exact r.get e
theorem kJ{k:D}{q:Key}(r:RKey k q)(h:RD K H k v):v=kV q:=by
 cases k<;>first
  |exact r.elim
  |(cases(show q=_ from r);first|exact Vm.mp h|exact Vt.mp h)
theorem iR{K:Frag}{H:Hp}:∀{ds:List D} {ks:List Key} {vs:List V},LP RKey ds ks->RDs K H ds vs->vs=ks.map kV
 |_,_,vs,.nil,h=>by rw[RDs.nil_iff.mp h];rfl
 |_,_,vs,.cons r t,h=>by obtain⟨v,vr,rfl,h1,h2⟩:=Vp.mp h;rw[kJ r h1,iR t h2];rfl
theorem RKey.inj{e:D}{k:Key}(a:RKey d k)(b:RKey e k):d=e:=by
 cases d<;>first
  |exact a.elim
  |(cases e<;>first|exact b.elim|(cases(show k=_ from a);injection (show _=_ from b)with z;rw[z])|(cases(show k=_ from a);cases(show _=_ from b)))
theorem RKeysP.inj:∀{d e:List D} {k:List Key},LP RKey d k->LP RKey e k->d=e
 |_,_,_,.nil,.nil=>rfl
 |_,_,_,.cons r t,.cons r' t'=>by rw[r.inj r',RKeysP.inj t t']
theorem RKeys.inj{e:D}{k:List Key}(a:RKeys d k)(b:RKeys e k):d=e:=by
 cases d<;>first
  |exact a.elim
  |(cases e<;>first|exact b.elim|exact congrArg D.tup (RKeysP.inj a b))
theorem RKey.fun{k k':Key}(a:RKey d k)(b:RKey d k'):k=k':=by
 cases d<;>first
  |exact a.elim
  |(cases(show k=_ from a);cases(show k'=_ from b);rfl)
theorem RKeysP.fun:∀{d:List D} {k k':List Key},LP RKey d k->LP RKey d k'->k=k'
 |_,_,_,.nil,.nil=>rfl
 |_,_,_,.cons r t,.cons r' t'=>by rw[r.fun r',RKeysP.fun t t']
theorem RKeys.fun{k k':List Key}(a:RKeys d k)(b:RKeys d k'):k=k':=by
 cases d<;>first
  |exact a.elim
  |exact RKeysP.fun a b
section
variable{κ:Type}[DecidableEq κ]{K:Frag}{H:Hp}{RK:D->κ->Prop}(inj:∀{d e:D} {k:κ},RK d k->RK e k->d=e)(fn:∀{d:D} {k k':κ},RK d k->RK d k'->k=k')
include inj fn
theorem iS{k:D}{q:κ}(j:RK k q):∀{kvs:List (D×D)} {ps:List (κ×V)},LP (λp r=>RK p.1 r.1/\RD K H p.2 r.2) kvs ps->
 (∀d,dget kvs k=Z d->∃v,bU ps q=Z v/\RD K H d v)/\(dget kvs k=Y->bU ps q=Y)
 |_,_,.nil=>⟨λd e=>by simp[dget]at e,λ_=>rfl⟩
 |_,_,.cons (a:=p) (b:=r) (l₂:=ps) B t=>by
  obtain⟨F,G⟩:=iS j t
  by_cases e:p.1=k
  ·have e':r.1=q:=by
    have h1:=B.1;rw[e]at h1;exact fn h1 j
   refine⟨λd he=>?_,λhe=>?_⟩
   ·simp[dget,Mn,e]at he;subst he;exact⟨r.2,fw e',B.2⟩
   ·simp[dget,Mn,e]at he
  ·have e':¬r.1=q:=fun z=>e (by
    have h1:=B.1;rw[z]at h1;exact inj h1 j)
   have eq1:∀l:List (D×D),dget (p::l) k=dget l k:=λl=>by simp[dget,Mn,e]
   have eq2:bU (r::ps) q=bU ps q:=fA e';refine⟨λd he=>?_,λhe=>?_⟩
   ·rw[eq1]at he;rw[eq2];exact F d he
   ·rw[eq1]at he;rw[eq2];exact G he
end
section
variable{X:Cx}
theorem oH{ps:List (List Key×V)}{k:D}(z:Rd H a (.dT ps))(pr:LP (λ(p:D×D) (q:List Key×V)=>RKeys p.1 q.1/\RD K H p.2 q.2) kvs ps)(ok:dP k=F2)(rk:RD K H k v):
 ∃o,DGet H a v o/\(∀d,dget kvs k=Z d->∃w,o=Z w/\RD K H d w)/\(dget kvs k=Y->o=Y):=by
 obtain⟨q,j⟩:=r9 ok;obtain⟨g1,g2⟩:=iS (RK:=RKeys) RKeys.inj RKeys.fun j pr;refine⟨bU ps q,?_,g1,g2⟩
 cases k<;>first
  |exact j.elim
  | (obtain⟨b,us,rfl,hb,ru⟩:=VG (rf ok) rk
     rw[iR j ru]at hb;exact .inr ⟨ps,q,b,z,rfl,hb,rfl⟩)
theorem kK{t:Bool}{k:D}(rm:RM K M H)(e:M a=Z (.dct t kvs))(ok:eC t k=F2)(rk:RD K H k v):
 ∃o,DGet H a v o/\(∀d,dget kvs k=Z d->∃w,o=Z w/\RD K H d w)/\(dget kvs k=Y->o=Y):=by
 have ro:=rm a _ e
 cases t with
 |false=>obtain⟨ps,j,pr⟩:=ro;obtain⟨q,z⟩:=oz (show fB k=F2 from ok);obtain⟨g1,g2⟩:=iS (RK:=RKey) RKey.inj RKey.fun z pr;refine⟨bU ps q,?_,g1,g2⟩;rw[kJ z rk];exact DGet.k j
 |true=>obtain⟨ps,j,pr⟩:=ro;exact oH (.inl j) pr ok rk
theorem AH(j:X.A.units+1<NA):IxR X (λx y H Q=>∃a v,x=.ref a/\DGet H a y (Z v)/\Q v H):=by
 intro value slice pins s σ H x y v u Q I rx ry h hs;obtain⟨a,w,rfl,g,q⟩:=h
 cases rx
 have hd:IsD H a:=by
  rcases g with⟨kvs,k,e,_⟩|⟨kvs,k,b,e,_⟩
  ·exact .inl ⟨kvs,e⟩
  ·exact .inr ⟨kvs,e⟩
 obtain⟨z,_⟩:=gh I hd;exact tail_any z PySem.F.slot_dict_getitem.lookup (uS j I g ry λw' s' I' r'=>⟨w,H,I',r',q⟩) hs
theorem FJ(B:X.A.units+1<NA):IxR X (l2 X.K wIx):=by
 refine IxR.of (ix_list.or (ix_tup.or (AH B))) λv u H Q h=>?_;obtain⟨x,y,M,rm,rx,ry,q⟩:=h
 cases x with
 |tup ds=>
  obtain⟨i,d,rfl,e,q⟩:=q;obtain⟨a,vs,rfl,j,rs⟩:=Vs rx
  cases Vm.mp ry
  obtain⟨w,hw,rw'⟩:=jC rs e;exact .inr (.inl ⟨a,vs,i,w,rfl,rfl,j,hw,q w H Ext.refl rm rw'⟩)
 |con ds=>
  obtain⟨i,d,rfl,e,q⟩:=q;obtain⟨a,vs,rfl,j,rs⟩:=Vr.mp rx
  cases Vm.mp ry
  obtain⟨w,hw,rw'⟩:=jC rs e;exact .inl ⟨a,vs,i,w,rfl,rfl,j.sq,hw,q w H Ext.refl rm rw'⟩
 |ref a=>
  cases Vn.mp rx
  rcases q with⟨ds,i,d,e1,rfl,z,q⟩|⟨t,kvs,d,e1,e2,z,q⟩|⟨kvs,d,e1,e2,z,q⟩
  ·cases Vm.mp ry
   obtain⟨vs,j,rs⟩:=rm _ _ e1;obtain⟨w,hw,rw'⟩:=jC rs z;exact .inl ⟨a,vs,i,w,rfl,rfl,SqL.of j,hw,q w H Ext.refl rm rw'⟩
  ·obtain⟨o,g,g1,_⟩:=kK rm e1 e2 ry;obtain⟨w,rfl,rw'⟩:=g1 d z;exact .inr (.inr ⟨a,w,rfl,g,q w H Ext.refl rm rw'⟩)
  ·obtain⟨ob,ps,F,pr⟩:=rm _ _ e1;obtain⟨o,g,g1,_⟩:=oH (.inr ⟨ob,F⟩) pr e2 ry;obtain⟨w,rfl,rw'⟩:=g1 d z;exact .inr (.inr ⟨a,w,rfl,g,q w H Ext.refl rm rw'⟩)
 |_=>exact q.elim
noncomputable def oI(M:Mem):D->Option Nat
 |.tup ds=>Z ds.length
 |.con ds=>Z ds.length
 |.ref a=>match M a with
  |some (.lst ds)=>Z ds.length
  |_=>Y
 |_=>Y
noncomputable def fC:RAd:=λxs M Q=>∃x n,xs=[x]/\oI M x=Z n/\Q (.int n) M
theorem oJ:b4 fC:=λ_ _ _ _ h j=>(by obtain⟨x,n,e,l,q⟩:=j;exact⟨x,n,e,l,h _ _ q⟩)
theorem RDs.one(h:RDs K H [d] vs):∃v,vs=[v]/\RD K H d v:=by obtain⟨v,r,rfl,h1,h2⟩:=Vp.mp h;rw[RDs.nil_iff.mp h2];exact⟨v,rfl,h1⟩
theorem RDs.two{e:D}(h:RDs K H [d,e] vs):∃v u,vs=[v,u]/\RD K H d v/\RD K H e u:=by obtain⟨v,r,rfl,h1,h2⟩:=Vp.mp h;obtain⟨u,rfl,j⟩:=RDs.one h2;exact⟨v,u,rfl,h1,j⟩
theorem t5:CallR X (.builtin "len") (lR X.K fC):=by
 refine CallR.of xA λvs H Q h=>?_;obtain⟨ds,M,rm,rs,x,n,rfl,l,q⟩:=h;obtain⟨v,rfl,r⟩:=rs.one;refine⟨v,n,rfl,?_,q _ H Ext.refl rm (Vm.mpr rfl)⟩
 cases x with
 |tup ds=>
  cases l
  obtain⟨a,us,rfl,j,ru⟩:=Vs r;exact .inr ⟨us,j,ru.length.symm⟩
 |con ds=>
  cases l
  obtain⟨a,us,rfl,j,ru⟩:=Vr.mp r;exact .inl ⟨us,j.sq,ru.length.symm⟩
 |ref a=>
  cases Vn.mp r
  simp only[oI]at l
  cases e:M a with
  |none=>rw[e]at l;cases l
  |some o=>
   rw[e]at l
   cases o with
   |dct _ _=>cases l
   |fdc _=>cases l
   |dcn _=>cases l
   |fdn _=>cases l
   |lst ds=>
    cases l
    obtain⟨us,j,ru⟩:=rm _ _ e;exact .inl ⟨us,SqL.of j,ru.length.symm⟩
 |_=>cases l
noncomputable def kL:RAd:=λxs M Q=>∃i,xs=[.int i]/\Q (.int (if i<0 then -i else i)) M
noncomputable def jD:RAd:=λxs M Q=>∃i j,xs=[.int i,.int j]/\Q (.int (if j<i then j else i)) M
noncomputable def iT:RAd:=λxs M Q=>(∃i,xs=[.int i]/\Q (.int i) M)∨∃k,xs=[.bl k]/\Q (.int (if k then 1 else 0)) M
theorem oK:b4 kL:=λ_ _ _ _ h j=>(by obtain⟨i,e,q⟩:=j;exact⟨i,e,h _ _ q⟩)
theorem lV:b4 jD:=λ_ _ _ _ h z=>(by obtain⟨i,j,e,q⟩:=z;exact⟨i,j,e,h _ _ q⟩)
theorem oM:b4 iT:=λ_ _ _ _ h q=>q.elim (λj=>(by obtain⟨i,e,q⟩:=j;exact .inl ⟨i,e,h _ _ q⟩)) λj=>(by obtain⟨i,e,q⟩:=j;exact .inr ⟨i,e,h _ _ q⟩)
theorem t6:CallR X (.builtin "abs") (lR X.K kL):=by
 refine CallR.of xz λvs H Q h=>?_;obtain⟨ds,M,rm,rs,i,rfl,q⟩:=h;obtain⟨v,rfl,r⟩:=rs.one
 cases Vm.mp r
 exact⟨i,rfl,q _ H Ext.refl rm (Vm.mpr rfl)⟩
theorem qK(hc:X.calm=F2):CallR X (.builtin "min") (lR X.K jD):=by
 refine CallR.of (uH hc) λvs H Q h=>?_;obtain⟨ds,M,rm,rs,i,j,rfl,q⟩:=h;obtain⟨v,u,rfl,z,B⟩:=rs.two
 cases Vm.mp z
 cases Vm.mp B
 exact⟨i,j,rfl,q _ H Ext.refl rm (Vm.mpr rfl)⟩
theorem t7:CallR X (.type "int") (lR X.K iT):=by
 refine CallR.of uI λvs H Q h=>?_;obtain⟨ds,M,rm,rs,⟨i,rfl,q⟩|⟨i,rfl,q⟩⟩:=h
 ·obtain⟨v,rfl,r⟩:=rs.one
  cases Vm.mp r
  exact .inl ⟨i,rfl,q _ H Ext.refl rm (Vm.mpr rfl)⟩
 ·obtain⟨v,rfl,r⟩:=rs.one
  cases Vo.mp r
  exact .inr ⟨i,rfl,q _ H Ext.refl rm (Vm.mpr rfl)⟩
noncomputable def ax(M:Mem):D->Option (List D)
 |.tup ds=>Z ds
 |.con ds=>Z ds
 |.ref a=>match M a with
  |some (.lst ds)=>Z ds
  |_=>Y
 |_=>Y
theorem oO(rm:RM K M H)(r:RD K H x v)(e:ax M x=Z ds):∃p vs,v=.ref p/\(SqL K H p vs∨SqT K H p vs)/\RDs K H ds vs:=by
 cases x with
 |tup es=>
  cases e
  obtain⟨a,us,rfl,j,ru⟩:=Vs r;exact⟨a,us,rfl,.inr j,ru⟩
 |con es=>
  cases e
  obtain⟨a,us,rfl,j,ru⟩:=Vr.mp r;exact⟨a,us,rfl,.inl j.sq,ru⟩
 |ref a=>
  cases Vn.mp r
  simp only[ax]at e
  cases e0:M a with
  |none=>rw[e0]at e;cases e
  |some o=>
   rw[e0]at e
   cases o with
   |dct _ _=>cases e
   |fdc _=>cases e
   |dcn _=>cases e
   |fdn _=>cases e
   |lst es=>
    cases e
    obtain⟨us,j,ru⟩:=rm _ _ e0;exact⟨a,us,rfl,.inl (SqL.of j),ru⟩
 |_=>cases e
noncomputable def no:RAd:=λxs M Q=>∃x ds,xs=[x]/\ax M x=Z ds/\∀p,M p=Y->Q (.ref p) (af M p (.lst ds))
noncomputable def jE:RAd:=λxs M Q=>∃x ds,xs=[x]/\ax M x=Z ds/\Q (.tup ds) M
theorem lW:b4 no:=λ_ _ _ _ h j=>(by obtain⟨x,ds,e,l,q⟩:=j;exact⟨x,ds,e,l,λp n=>h _ _ (q p n)⟩)
theorem jF:b4 jE:=λ_ _ _ _ h j=>(by obtain⟨x,ds,e,l,q⟩:=j;exact⟨x,ds,e,l,h _ _ q⟩)
theorem qL:CallR X (.type "list") (lR X.K no):=by refine CallR.of oi λvs H Q h=>?_;obtain⟨ds,M,rm,rs,x,es,rfl,l,q⟩:=h;obtain⟨v,rfl,r⟩:=rs.one;obtain⟨p,us,rfl,sq,ru⟩:=oO rm r l;exact⟨p,us,rfl,sq,λl' n=>cI rm ru q n⟩
theorem oP:CallR X (.type "tuple") (lR X.K jE):=by
 refine CallR.of nj λvs H Q h=>?_;obtain⟨ds,M,rm,rs,x,es,rfl,l,q⟩:=h;obtain⟨v,rfl,r⟩:=rs.one
 cases x with
 |tup ds'=>
  cases l
  obtain⟨a,us,rfl,j,ru⟩:=Vs r;exact⟨a,us,rfl,.inr ⟨j,q _ H Ext.refl rm r⟩⟩
 |con ds'=>
  cases l
  obtain⟨a,us,rfl,j,ru⟩:=Vr.mp r;exact⟨a,us,rfl,.inl ⟨j.sq,λl' n=>dC rm ru q n⟩⟩
 |ref a=>
  cases Vn.mp r
  simp only[ax]at l
  cases e0:M a with
  |none=>rw[e0]at l;cases l
  |some o=>
   rw[e0]at l
   cases o with
   |dct _ _=>cases l
   |fdc _=>cases l
   |dcn _=>cases l
   |fdn _=>cases l
   |lst es'=>
    cases l
    obtain⟨us,j,ru⟩:=rm _ _ e0;exact⟨a,us,rfl,.inl ⟨SqL.of j,λl' n=>dC rm ru q n⟩⟩
 |_=>cases l
end
end
variable{e:Expr}{tA:TTd}
section
section
variable{X:Cx}
noncomputable def oQ:RAd:=λxs M Q=>∃(x:D) (ns:List Int),xs=[x]/\ax M x=Z (ns.map D.int)/\Q (.int ns.sum) M
theorem oR:b4 oQ:=λ_ _ _ _ h j=>(by obtain⟨x,ds,e,l,q⟩:=j;exact⟨x,ds,e,l,h _ _ q⟩)
theorem RDs.ints_eq{K:Frag}{H:Hp}:∀{ns:List Int} {vs:List V},RDs K H (ns.map D.int) vs->vs=ns.map V.int
 |[],_,h=>RDs.nil_iff.mp h
 |n::ns,_,h=>by obtain⟨v,r,rfl,h1,h2⟩:=Vp.mp h;rw[Vm.mp h1,RDs.ints_eq h2];rfl
theorem oS{pins:List (VH×Obj)}{σ:St}{s:p7}{p:VH}{ns:List Int}{its:List hH}(I:Inv X pins σ H s)(hc:X.calm=F2)(rv:Vals (ns.map V.int) its)(q:Q (.int ns.sum) H)(h:∀(R:hH->p7->Prop),(∀I' St fp,(∀b∈fp,b<(s.heap.push I').objs.size)->St 0 (s.heap.push I')->Walks X.prog X.w X.A.in1 s.heap.objs.size fp [s.heap.objs.size] its.toArray.size (λi v=>its.toArray[i]?=Z v) St->R (.ref s.heap.objs.size) {s with heap:=s.heap.push I'})->Kr (model X.prog X.w) X.A.in1 (Rg (.ref p)) R X.xe s):
 Kr (model X.prog X.w) X.A (call (.builtin "sum") [.ref p]) (EP X pins σ Q) X.xe s:=by
 refine call_sum_walkG (h _ λob St fp z st W=>⟨_,fp,_,_,_,St,λi=>ns.getD i 0,rfl,W,st,z,λi v F=>?_,λh' tk t' G=>?_⟩)
 ·have j:its[i]?=Z v:=by simpa using F
  have hl:=rv.length;rw[tv]at hl;have hi:i<its.length:=(KO.mp j).1;have e1:(ns.map V.int)[i]?=Z (.int (ns.getD i 0)):=by
   rw[KH,I7 ∅]
   simp[Kv,I7 (show i<ns.length by lia)]
  obtain⟨u,B,t,rfl⟩:=rv.get e1;rw[j]at B;cases B;exact⟨t,rfl⟩
 ·have e:preSum (fun i=>ns.getD i 0) its.toArray.size=ns.sum:=by
   rw[preSum_getD,Kq,<-rv.length,tv,List.take_length]
  rw[e];refine⟨.int ns.sum,H,I.kept (h':=h') (t':=tk) λb o eb=>?_,⟨t',rfl⟩,q⟩;exact G b o (by simp;exact Lb (Kg eb)) (hW _ eb)
theorem t8(hc:X.calm=F2):CallR X (.builtin "sum") (lR X.K oQ):=by
 intro pins s σ H xs us Q I rv h;obtain⟨ds,M,rm,rs,x,ns,rfl,l,q⟩:=h;obtain⟨v,rfl,r⟩:=rs.one;obtain⟨u,rfl,ru⟩:=dh rv;obtain⟨p,vs,rfl,sq,G⟩:=oO rm r l
 cases ru
 have e:=RDs.ints_eq G;subst e;have fin:=q (.int ns.sum) H Ext.refl rm (Vm.mpr rfl)
 rcases sq with sq|sq
 ·obtain⟨its,rv,pl,J⟩:=I.list sq;have B:p≠s.heap.objs.size:=by
   obtain⟨o,n,e,_⟩:=pl;exact Lb (Kg e)
  refine oS I hc rv fin λR F=>Ni pl.isList ?_;refine F _ _ [s.heap.objs.size,p] (λb hb=>?_) ⟨⟨_,Kj _ rfl,rfl,rfl⟩,pl.isList.at λo e=>hW _ e⟩ (Walks.list (by rw[To];exact I.ok.hd hc) s.heap.objs.size p B its.toArray)
  rw[Mc]
  rcases Km.mp hb with z|z
  ·lia
  ·have z':b=p:=by simpa using z
   subst z';obtain⟨o,n,e,_⟩:=pl;exact PD (Kg e)
 ·obtain⟨its,rv,pl,J⟩:=I.tuple sq;have j:p<s.heap.objs.size:=by
   obtain⟨o,e,_⟩:=pl;exact Kg e
  refine oS I hc rv fin λR F=>MM (show s.heap.IsTuple p its.toArray from pl) ?_;refine F _ _ [s.heap.objs.size,p] (λb hb=>?_) ⟨⟨_,Kj _ rfl,rfl,rfl⟩,?_⟩ (Walks.tuple (by rw[To];exact I.ok.hd hc) s.heap.objs.size p (Lb j) its.toArray)
  ·rw[Mc]
   rcases Km.mp hb with z|z
   ·lia
   ·have z':b=p:=by simpa using z
    rw[z'];exact PD j
  ·obtain⟨o,e,c,n,d⟩:=pl;exact⟨o,hW _ e,c,n,d⟩
noncomputable def t9(M:Mem):D->Option Bool
 |.non=>Z N3
 |.bl b=>Z b
 |.int i=>Z (i != 0)
 |.tup ds=>Z (!ds.isEmpty)
 |.con ds=>Z (!ds.isEmpty)
 |.ref a=>match M a with
  |some (.lst ds)=>Z (!ds.isEmpty)
  |_=>Y
 |_=>Y
noncomputable def tf(t:TEd):TTd:=λρ M Q=>t ρ M λx M1=>∃b,t9 M1 x=Z b/\Q b M1
theorem ya{t:TEd}(h:ae t):aJ (tf t):=λρ M Q Q' i q=>h _ _ _ _ (λx B j=>(by obtain⟨k,e,z⟩:=j;exact⟨k,e,i _ _ z⟩)) q
theorem CP{b:Bool}(rm:RM K M H)(r:RD K H x v)(e:t9 M x=Z b):xw K v H b:=by
 have emp:∀{ds:List D} {vs:List V},RDs K H ds vs->(!ds.isEmpty) = !vs.isEmpty:=λ{ds vs} h=>by
  have l:=h.length
  cases ds<;>cases vs<;>first|rfl|(simp at l)
 cases x with
 |non=>cases e;cases Vu.mp r;rfl
 |bl k=>cases e;cases Vo.mp r;rfl
 |int i=>cases e;cases Vm.mp r;rfl
 |tup ds=>
  cases e
  obtain⟨a,vs,rfl,j,rs⟩:=Vs r;exact .inr (.inl ⟨vs,j,emp rs⟩)
 |con ds=>
  cases e
  obtain⟨a,vs,rfl,j,rs⟩:=Vr.mp r;exact .inl ⟨vs,j.sq,emp rs⟩
 |ref a=>
  cases Vn.mp r
  simp only[t9]at e
  cases e0:M a with
  |none=>rw[e0]at e;cases e
  |some o=>
   rw[e0]at e
   cases o with
   |dct _ _=>cases e
   |fdc _=>cases e
   |dcn _=>cases e
   |fdn _=>cases e
   |lst ds=>
    cases e
    obtain⟨vs,j,rs⟩:=rm _ _ e0;exact .inl ⟨vs,SqL.of j,emp rs⟩
 |str _=>cases e
 |fn _=>cases e
variable{a b:Expr}{ta tb:TEd}{pos:Pos}
theorem CQ(m:ae ta)(B:PE X a (lE X.K ta))(he:∀whole,isTrue a X.env whole=(do let v <-whole;R7 a.pos;holding [v] (truthy v))):PT X a (lT X.K (tf ta)):=by refine PT.imp (xx B he) λσ H Q h=>?_;obtain⟨ρ,M,rs,rm,q⟩:=h;exact⟨ρ,M,rs,rm,m _ _ _ _ (λx L F v H1 G j z=>(by obtain⟨k,e,J⟩:=F;exact⟨k,CP j z e,J H1 G j⟩)) q⟩
noncomputable def nt(t:TTd):TTd:=λρ M Q=>t ρ M λc M1=>Q (!c) M1
theorem vd{t:TTd}(h:aJ t):aJ (nt t):=λρ M Q Q' i q=>h _ _ _ _ (λc z j=>i _ _ j) q
theorem CS(m:aJ tA)(j:PT X a (lT X.K tA)):PT X (.UnaryOp .Not a pos) (lT X.K (nt tA)):=by refine PT.imp (C5 j) λσ H Q h=>?_;obtain⟨ρ,M,rs,rm,q⟩:=h;exact⟨ρ,M,rs,rm,m _ _ _ _ (λc B z=>z) q⟩
noncomputable def nv(t u:TTd):TTd:=λρ M Q=>t ρ M λc M1=>if c=F2 then u ρ M1 Q else Q N3 M1
noncomputable def tj(t u:TTd):TTd:=λρ M Q=>t ρ M λc M1=>if c=F2 then Q F2 M1 else u ρ M1 Q
theorem ve{t u:TTd}(h:aJ t)(k:aJ u):aJ (nv t u):=λρ M Q Q' i q=>h _ _ _ _ (λc z j=>by
 cases c with
 |true=>rw[if_pos rfl]at j⊢;exact k _ _ _ _ i j
 |false=>rw[if_neg Kl]at j⊢;exact i _ _ j) q
theorem yb{t u:TTd}(h:aJ t)(k:aJ u):aJ (tj t u):=λρ M Q Q' i q=>h _ _ _ _ (λc z j=>by
 cases c with
 |true=>rw[if_pos rfl]at j⊢;exact i _ _ j
 |false=>rw[if_neg Kl]at j⊢;exact k _ _ _ _ i j) q
theorem AI(j:PT X a (lT X.K tA)):PW X (.BoolOp .And [a] pos) (lT X.K tA):=Aa j
theorem CT(j:PT X a (lT X.K tA)):PW X (.BoolOp .Or [a] pos) (lT X.K tA):=C3 j
theorem CU{tB:TTd}{rest:List Expr}(mA:aJ tA)(mB:aJ tB)(F:PT X a (lT X.K tA))(hb:PW X (.BoolOp .And (b::rest) pos) (lT X.K tB)):PW X (.BoolOp .And (a::b::rest) pos) (lT X.K (nv tA tB)):=by
 refine PW.imp (C4 F hb) λσ H Q h=>?_;obtain⟨ρ,M,rs,rm,q⟩:=h;refine⟨ρ,M,rs,rm,mA _ _ _ _ (λc G z H1 B j=>?_) q⟩
 cases c with
 |true=>rw[if_pos rfl]at z⊢;exact⟨ρ,G,rs.mono (B.stab rm),j,mB _ _ _ _ (λd M2 k=>k.ext B) z⟩
 |false=>rw[if_neg Kl]at z⊢;exact z H1 B j
theorem Ev{tB:TTd}{rest:List Expr}(mA:aJ tA)(mB:aJ tB)(F:PT X a (lT X.K tA))(hb:PW X (.BoolOp .Or (b::rest) pos) (lT X.K tB)):PW X (.BoolOp .Or (a::b::rest) pos) (lT X.K (tj tA tB)):=by
 refine PW.imp (DY F hb) λσ H Q h=>?_;obtain⟨ρ,M,rs,rm,q⟩:=h;refine⟨ρ,M,rs,rm,mA _ _ _ _ (λc G z H1 B j=>?_) q⟩
 cases c with
 |true=>rw[if_pos rfl]at z⊢;exact z H1 B j
 |false=>rw[if_neg Kl]at z⊢;exact⟨ρ,G,rs.mono (B.stab rm),j,mB _ _ _ _ (λd M2 k=>k.ext B) z⟩
noncomputable def ny(ta tb:TEd):TEd:=λρ M Q=>ta ρ M λx M1=>∃c,x=.bl c/\if c=F2 then tb ρ M1 Q else Q (.bl N3) M1
noncomputable def tm(ta tb:TEd):TEd:=λρ M Q=>ta ρ M λx M1=>∃c,x=.bl c/\if c=F2 then Q (.bl F2) M1 else tb ρ M1 Q
noncomputable def nA(ta:TEd):TEd:=λρ M Q=>ta ρ M λx M1=>∃c,x=.bl c/\Q (.bl (!c)) M1
theorem vf(h:ae ta)(k:ae tb):ae (ny ta tb):=λρ M Q Q' i q=>h _ _ _ _ (λx z ⟨c,e,j⟩=>⟨c,e,by
 cases c with
 |true=>rw[if_pos rfl]at j⊢;exact k _ _ _ _ i j
 |false=>rw[if_neg Kl]at j⊢;exact i _ _ j⟩) q
theorem yc(h:ae ta)(k:ae tb):ae (tm ta tb):=λρ M Q Q' i q=>h _ _ _ _ (λx z ⟨c,e,j⟩=>⟨c,e,by
 cases c with
 |true=>rw[if_pos rfl]at j⊢;exact i _ _ j
 |false=>rw[if_neg Kl]at j⊢;exact k _ _ _ _ i j⟩) q
theorem vg(h:ae ta):ae (nA ta):=λρ M Q Q' i q=>h _ _ _ _ (λx B j=>(by obtain⟨c,e,z⟩:=j;exact⟨c,e,i _ _ z⟩)) q
theorem vh{op:BoolOp}{t:TEd}(h:PE X a (lE X.K t)):PE X (.BoolOp op [a] pos) (lE X.K t):=C6 h
theorem CV{rest:List Expr}(ma:ae ta)(mb:ae tb)(G:PE X a (lE X.K ta))(hb:PE X (.BoolOp .And (b::rest) pos) (lE X.K tb)):PE X (.BoolOp .And (a::b::rest) pos) (lE X.K (ny ta tb)):=by
 refine PE.imp (C7 G hb) λσ H Q h=>?_;obtain⟨ρ,M,rs,rm,q⟩:=h;refine⟨ρ,M,rs,rm,ma _ _ _ _ (λx J g9 v H1 B j F=>?_) q⟩;obtain⟨c,e,z⟩:=g9;subst e;refine⟨c,Vo.mp F,?_⟩
 cases c with
 |true=>rw[if_pos rfl]at z⊢;exact⟨ρ,J,rs.mono (B.stab rm),j,mb _ _ _ _ (λd M2 k=>k.ext B) z⟩
 |false=>rw[if_neg Kl]at z⊢;exact z _ H1 B j (Vo.mpr rfl)
theorem Ew{rest:List Expr}(ma:ae ta)(mb:ae tb)(G:PE X a (lE X.K ta))(hb:PE X (.BoolOp .Or (b::rest) pos) (lE X.K tb)):PE X (.BoolOp .Or (a::b::rest) pos) (lE X.K (tm ta tb)):=by
 refine PE.imp (E2 G hb) λσ H Q h=>?_;obtain⟨ρ,M,rs,rm,q⟩:=h;refine⟨ρ,M,rs,rm,ma _ _ _ _ (λx J g9 v H1 B j F=>?_) q⟩;obtain⟨c,e,z⟩:=g9;subst e;refine⟨c,Vo.mp F,?_⟩
 cases c with
 |true=>rw[if_pos rfl]at z⊢;exact z _ H1 B j (Vo.mpr rfl)
 |false=>rw[if_neg Kl]at z⊢;exact⟨ρ,J,rs.mono (B.stab rm),j,mb _ _ _ _ (λd M2 k=>k.ext B) z⟩
theorem CW(ma:ae ta)(B:PE X a (lE X.K ta)):PE X (.UnaryOp .Not a pos) (lE X.K (nA ta)):=by refine PE.imp (C8 B) λσ H Q h=>?_;obtain⟨ρ,M,rs,rm,q⟩:=h;refine⟨ρ,M,rs,rm,ma _ _ _ _ (λx J g9 v H1 G j z=>?_) q⟩;obtain⟨c,e,F⟩:=g9;subst e;exact⟨c,Vo.mp z,F _ H1 G j (Vo.mpr rfl)⟩
noncomputable def wIf(t:TTd)(ta tb:TEd):TEd:=λρ M Q=>t ρ M λc M1=>if c=F2 then ta ρ M1 Q else tb ρ M1 Q
theorem AJ{t:TTd}(h:aJ t)(z:ae ta)(hb:ae tb):ae (wIf t ta tb):=λρ M Q Q' i q=>h _ _ _ _ (λc B j=>by
 cases c with
 |true=>rw[if_pos rfl]at j⊢;exact z _ _ _ _ i j
 |false=>rw[if_neg Kl]at j⊢;exact hb _ _ _ _ i j) q
theorem Ex{c:Expr}{t:TTd}(mt:aJ t)(ma:ae ta)(mb:ae tb)(hc:PT X c (lT X.K t))(G:PE X a (lE X.K ta))(hb:PE X b (lE X.K tb)):PE X (.IfExp c a b pos) (lE X.K (wIf t ta tb)):=by
 refine PE.imp (xo hc G hb) λσ H Q h=>?_;obtain⟨ρ,M,rs,rm,q⟩:=h;refine⟨ρ,M,rs,rm,mt _ _ _ _ (λx F z H1 B j=>?_) q⟩
 cases x with
 |true=>rw[if_pos rfl]at z⊢;exact⟨ρ,F,rs.mono (B.stab rm),j,ma _ _ _ _ (λd M2 k=>k.ext B) z⟩
 |false=>rw[if_neg Kl]at z⊢;exact⟨ρ,F,rs.mono (B.stab rm),j,mb _ _ _ _ (λd M2 k=>k.ext B) z⟩
noncomputable def dR(xs:List D)(lo hi:Option Int):List D:=(xs.drop (HT.sIx xs.length 0 lo)).take (HT.sIx xs.length xs.length hi-HT.sIx xs.length 0 lo)
theorem oT(r:RDs K H ds vs)(lo hi:Option Int):RDs K H (dR ds lo hi) (fZ vs lo hi):=by unfold dR fZ;rw[r.length];exact(r.drop _).take _
noncomputable abbrev TOd:=ar->Mem->(Option Int->Mem->Prop)->Prop
def fD(T:TOd):Prop:=∀ρ M Q Q',(∀d M',Q d M'->Q' d M')->T ρ M Q->T ρ M Q'
noncomputable def gX:TOd:=λ_ M Q=>Q Y M
noncomputable def nB(t:TEd):TOd:=λρ M Q=>t ρ M λx M1=>∃i,x=.int i/\Q (Z i) M1
theorem qM:fD gX:=λ_ _ _ _ h q=>h _ _ q
theorem vj(h:ae ta):fD (nB ta):=λρ M Q Q' i q=>h _ _ _ _ (λx B j=>(by obtain⟨c,e,z⟩:=j;exact⟨c,e,i _ _ z⟩)) q
noncomputable def lO(K:Frag)(T:TOd):TO:=λσ H Q=>∃ρ M,RS K H σ ρ/\RM K M H/\T ρ M (λo M'=>∀H',Ext M H M' H'->RM K M' H'->Q o H')
theorem AK:PO X Y (lO X.K gX):=λpins s σ H Q I h=>by obtain⟨ρ,M,rs,rm,q⟩:=h;exact An pins s σ H Q I (q H Ext.refl rm)
theorem AL(m:ae ta)(h:PE X e (lE X.K ta)):PO X (Z e) (lO X.K (nB ta)):=λpins s σ H Q I hq=>by obtain⟨ρ,M,rs,rm,q⟩:=hq;refine Ao h pins s σ H Q I ⟨ρ,M,rs,rm,m _ _ _ _ (λx G g9 v H1 F j z=>?_) q⟩;obtain⟨i,e,B⟩:=g9;subst e;exact⟨i,Vm.mp z,B H1 F j⟩
noncomputable def cB:D->Option Int->Option Int->Mem->QD->Prop:=λx lo hi M Q=>match x with
 |.tup ds=>Q (.tup (dR ds lo hi)) M
 |.ref a=>∃ds,M a=Z (.lst ds)/\∀p,M p=Y->Q (.ref p) (af M p (.lst (dR ds lo hi)))
 |.con ds=>∀p,M p=Y->Q (.ref p) (af M p (.lst (dR ds lo hi)))
 |_=>False
noncomputable def wSl(te:TEd)(tl th:TOd):TEd:=λρ M Q=>te ρ M λx M1=>tl ρ M1 λl M2=>th ρ M2 λu M3=>cB x l u M3 Q
theorem tq{lo hi:Option Int}{Q Q':QD}(h:∀d M',Q d M'->Q' d M')(q:cB x lo hi M Q):cB x lo hi M Q':=by
 cases x with
 |tup ds=>exact h _ _ q
 |ref a=>obtain⟨ds,e,q⟩:=q;exact⟨ds,e,λp n=>h _ _ (q p n)⟩
 |con ds=>exactλp n=>h _ _ (q p n)
 |_=>exact q.elim
theorem AM{tl th:TOd}(m:ae ta)(ml:fD tl)(mh:fD th):ae (wSl ta tl th):=λρ M Q Q' i q=>m _ _ _ _ (λx F j=>ml _ _ _ _ (λl M2 z=>mh _ _ _ _ (λu G B=>tq i B) z) j) q
theorem Ey{lo hi:Option Expr}{tl th:TOd}{p2:Pos}(m:ae ta)(ml:fD tl)(mh:fD th)(he:PE X e (lE X.K ta))(hl:PO X lo (lO X.K tl))(hu:PO X hi (lO X.K th)):
 PE X (.Subscript e (.Slice lo hi Y p2) pos) (lE X.K (wSl ta tl th)):=by
 refine PE.imp (xF (sl_tup.or (sl_list.or xH)) he hl hu) λσ H Q h=>?_;obtain⟨ρ,M,rs,rm,q⟩:=h;refine⟨ρ,M,rs,rm,m _ _ _ _ (λx M1 q1 v H1 O G U=>?_) q⟩;refine⟨ρ,M1,rs.mono (O.stab rm),G,ml _ _ _ _ (λl M2 q2 H2 pv L=>?_) q1⟩;refine⟨ρ,M2,(rs.mono (O.stab rm)).mono (pv.stab G),L,mh _ _ _ _ (λu M3 z H3 fv j=>?_) q2⟩;have B:=O.trans (pv.trans fv);have F:=(U.mono (pv.stab G)).mono (fv.stab L)
 cases x with
 |tup ds=>
  obtain⟨a,vs,rfl,J,r⟩:=Vs F
  by_cases hw:HT.sIx vs.length 0 l=0/\HT.sIx vs.length vs.length u=vs.length
  ·refine .inr (.inr ⟨a,vs,rfl,J,hw,?_⟩);have e:dR ds l u=ds:=by
    unfold dR;rw[<-r.length,hw.1,hw.2,r.length];simp
   simp only[cB]at z;rw[e]at z;exact z.ext B _ H3 Ext.refl j F
  ·simp only[cB]at z;exact .inl ⟨a,vs,rfl,J,hw,λp n=>dC j (oT r l u) (z.ext B) n⟩
 |ref a=>
  cases Vn.mp F
  obtain⟨ds,e,z⟩:=z;obtain⟨vs,J,r⟩:=j _ _ e;exact .inr (.inl ⟨a,vs,rfl,SqL.of J,λp n=>cI j (oT r l u) (λp' n'=>(z p' n').ext B) n⟩)
 |con ds=>obtain⟨a,vs,rfl,J,r⟩:=Vr.mp F;exact .inr (.inl ⟨a,vs,rfl,J.sq,λp n=>cI j (oT r l u) (λp' n'=>(z p' n').ext B) n⟩)
 |_=>exact z.elim
end
end
variable{i:Nat}{p pos:Pos}{ta to:TEd}{tg:Expr}{H1:Hp}
section
section
variable{X:Cx}
noncomputable def tyN(M:Mem):D->Option String
 |.non=>Z "NoneType"
 |.bl _=>Z "bool"
 |.int _=>Z "int"
 |.str _=>Z "str"
 |.tup _=>Z "tuple"
 |.ref a=>match M a with
  |some (.lst _)=>Z "list"
  |some (.dct _ _)=>Z "dict"
  |_=>Y
 |.con _=>Y
 |.fn _=>Y
noncomputable def tt(T t:String):Bool:=t==T || (t=="bool"&&T=="int")
theorem Ez{t:String}(rm:RM K M H)(r:RD K H x v)(e:tyN M x=Z t):cy K H v (.type t):=by
 cases x with
 |non=>cases e;cases Vu.mp r;exact .non
 |bl k=>cases e;cases Vo.mp r;exact .bl k
 |int i=>cases e;cases Vm.mp r;exact .int i
 |str i=>cases e;cases Vt.mp r;exact .str i
 |tup ds=>
  cases e
  obtain⟨a,vs,rfl,j,rs⟩:=Vs r;exact .tup j
 |con ds=>cases e
 |fn _=>cases e
 |ref a=>
  cases Vn.mp r
  simp only[tyN]at e
  cases e0:M a with
  |none=>rw[e0]at e;cases e
  |some o=>
   rw[e0]at e
   cases o with
   |lst ds=>
    cases e
    obtain⟨vs,j,rs⟩:=rm _ _ e0;exact .lst j
   |dct t kvs=>
    cases e
    have ro:=rm _ _ e0
    cases t with
    |false=>obtain⟨ps,j,_⟩:=ro;exact .dK j
    |true=>obtain⟨ps,j,_⟩:=ro;exact .dT j
   |fdc kvs=>cases e
   |dcn _=>cases e
   |fdn _=>cases e
noncomputable def dD:List String:=["NoneType","bool","int","str","tuple","list","dict"]
theorem AN(K:Frag):∀T∈["bool","int","str","tuple","list","dict"],∀t∈dD,PySem.W.kitOne K (.type t) (.type T)=Z (tt T t):=by
 intro T hT t j;simp only[dD,Km,Lj,or_false]at hT j
 rcases hT with rfl|rfl|rfl|rfl|rfl|rfl<;>rcases j with rfl|rfl|rfl|rfl|rfl|rfl|rfl<;>rfl
noncomputable def nC(T:String)(ta:TEd):TEd:=λρ M Q=>ta ρ M λx M1=>∃t,tyN M1 x=Z t/\Q (.bl (tt T t)) M1
theorem vm{T:String}(h:ae ta):ae (nC T ta):=λρ M Q Q' i q=>h _ _ _ _ (λx B j=>(by obtain⟨t,e,z⟩:=j;exact⟨t,e,i _ _ z⟩)) q
theorem AO{t:String}(e:tyN M x=Z t):t∈dD:=by
 cases x with
 |ref a=>
  simp only[tyN]at e
  cases e0:M a with
  |none=>rw[e0]at e;cases e
  |some o=>rw[e0]at e;cases o<;>cases e<;>simp[dD]
 |con _=>cases e
 |fn _=>cases e
 |_=>cases e;simp[dD]
theorem vp(T:String)(hT:T∈["bool","int","str","tuple","list","dict"]):CallR X (.builtin "isinstance") (λvs H Q=>∃v t,vs=[v,.ty T]/\cy X.K H v (.type t)/\t∈dD/\Q (.bl (tt T t)) H):=by
 intro pins s σ H xs us Q I r h;obtain⟨v,t,rfl,ty,j,q⟩:=h;obtain⟨u,c,rfl,ru,rc⟩:=sL r
 cases rc
 exact uK I ru ty (AN X.K T hT t j) λtk=>⟨.bl _,H,I.tok tk,rfl,q⟩
theorem AQ{T:String}{y:Str}{p2:Pos}(hT:T∈["bool","int","str","tuple","list","dict"])(m:ae ta)(he:PE X e (lE X.K ta))(L:Gl X "isinstance")(hm:X.mg "isinstance"=Y)(z:Gl X y)(B:X.mg y=Y)(O:Og y=Z (.type T))(U:y≠"__name__")(F:(y==("__debug__":Str))=N3)(hs:L8 [e,.Name y p2] X.env=(N3,eval e X.env)::L8 [.Name y p2] X.env)(G:(P0 pos (L8 [.Name y p2] X.env)).any (·.1)=N3):
 PE X (.Call (.Name "isinstance" p) [e,.Name y p2] [] pos) (lE X.K (nC T ta)):=by
 have h2:PE X (.Name y p2) (tC (.ty T)):=A9 z B O rfl U F;refine PE.imp (cq (vp T hT) L hm (by decide +kernel) (kA he (kA h2 uL rfl) hs) (by decide) (by decide) hs G) λσ H Q h=>?_
 obtain⟨ρ,M,rs,rm,q⟩:=h;exact⟨ρ,M,rs,rm,m _ _ _ _ (λx M1 pv v H1 fv j J=>(by obtain⟨t,e,q1⟩:=pv;exact⟨v,t,rfl,Ez j J e,AO e,q1 _ H1 fv j (Vo.mpr rfl)⟩)) q⟩
noncomputable def wBM(rd:D->List D->Mem->QD->Prop)(to:TEd)(t:TAd):TEd:=λρ M Q=>to ρ M λx M1=>(∃a xs,x=.ref a/\M1 a=Z (.lst xs))/\t ρ M1 λds M2=>rd x ds M2 Q
def jG(rd:D->List D->Mem->QD->Prop):Prop:=∀x ds M Q Q',(∀d M',Q d M'->Q' d M')->rd x ds M Q->rd x ds M Q'
theorem rh{rd:D->List D->Mem->QD->Prop}{t:TAd}(j:jG rd)(mo:ae to)(mt:b5 t):ae (wBM rd to t):=λρ M Q Q' i q=>mo _ _ _ _ (λx G z=>(by obtain⟨e,B⟩:=z;exact⟨e,mt _ _ _ _ (λds M2 F=>j _ _ _ _ _ i F) B⟩)) q
theorem EA(rm:RM K M H)(r:RD K H x v)(h:∃a xs,x=.ref a/\M a=Z (.lst xs)):tyV K "list" v H:=by
 obtain⟨a,xs,rfl,e⟩:=h
 cases Vn.mp r
 obtain⟨vs,j,_⟩:=rm _ _ e;exact .inl ⟨rfl,vs,SqL.of j⟩
theorem rj{rd:D->List D->Mem->QD->Prop}{r:V->List V->Hp->VK->Prop}{t:TAd}(L:jG rd)(mo:ae to)(mt:b5 t)(O:∀v vs H Q,lMt K rd v vs H Q->r v vs H Q)(σ:St)(H:Hp)(Q:VK)(h:lE K (wBM rd to t) σ H Q):tBM K "list" r (lE K to) (lA K t) σ H Q:=by obtain⟨ρ,M,rs,rm,q⟩:=h;refine⟨ρ,M,rs,rm,mo _ _ _ _ (λx U ⟨e,pv⟩ v H1 G j z=>⟨EA j z e,?_⟩) q⟩;refine⟨ρ,U,rs.mono (G.stab rm),j,mt _ _ _ _ (λds M2 fv vs H2 J B F=>?_) pv⟩;exact O v vs H2 Q ⟨x,ds,M2,B,z.mono (J.stab j),F,L _ _ _ _ _ (λd M' k=>k.ext (G.trans J)) fv⟩
noncomputable def gY:D->List D->Mem->QD->Prop:=λx ds M Q=>∃a xs y,x=.ref a/\ds=[y]/\M a=Z (.lst xs)/\xs.length<Kn/\Q .non (af M a (.lst (xs++[y])))
theorem iD:jG gY:=λ_ _ _ _ _ h j=>(by obtain⟨a,xs,y,e1,e2,B,z,q⟩:=j;exact⟨a,xs,y,e1,e2,B,z,h _ _ q⟩)
theorem kM{o0:O}(rm:RM K M H)(m:M a=Z o0)(rd:RDs K H ds vs)(r:RD K H d v)(q:KE' K M H Q d (af M a (.lst ds)))(w:fz (Z o0)=N3:=by rfl):
 Q v (upd H a (.lst vs)):=by
 have st:Stab H (upd H a (.lst vs)):=rm.stabPut m w;exact q v _ (Ext.put m w) (rm.put m ⟨vs,aM,rd.mono st⟩ w) (r.mono st)
theorem yd(v:V)(vs:List V)(H:Hp)(Q:VK)(h:lMt K gY v vs H Q):qY v vs H Q:=by
 obtain⟨x,ds,M,rm,rx,rs,a,xs,y,rfl,rfl,e,z,q⟩:=h
 cases Vn.mp rx
 obtain⟨w,rfl,rw'⟩:=rs.one;obtain⟨us,j,ru⟩:=rm _ _ e;exact⟨a,us,w,rfl,rfl,j,by rw[ru.length];exact z,kM rm e (ru.append (RDs.cons rw' RDs.nil)) (Vu.mpr rfl) q⟩
noncomputable abbrev BT:=D->ar->Option ar
noncomputable abbrev BTs:=List D->ar->Option ar
noncomputable def br(i:Nat):BT:=λd ρ=>Z (ρ.set i (Z d))
noncomputable def fE:BTs:=λds ρ=>match ds with|[]=>Z ρ|_=>Y
noncomputable def bw(b:BT)(bs:BTs):BTs:=λds ρ=>match ds with|d::r=>(b d ρ).bind λρ'=>bs r ρ'|[]=>Y
noncomputable def oU(bs:BTs):BT:=λd ρ=>match d with|.tup ds=>bs ds ρ|_=>Y
noncomputable def lG(K:Frag)(b:BT):TG:=λv σ H Q=>∃d ρ ρ',RD K H d v/\RS K H σ ρ/\b d ρ=Z ρ'/\∀σ',RS K H σ' ρ'->Q σ' H
noncomputable def lGs(K:Frag)(b:BTs):TGs:=λvs σ H Q=>∃ds ρ ρ',RDs K H ds vs/\RS K H σ ρ/\b ds ρ=Z ρ'/\∀σ',RS K H σ' ρ'->Q σ' H
theorem PG.imp{t t':TG}(h:PG X e t)(i:∀v σ H Q,t' v σ H Q->t v σ H Q):PG X e t':=λpins s σ H v u Q I r q=>h pins s σ H v u Q I r (i _ _ _ _ q)
theorem PGs.imp{e:List Expr}{t t':TGs}(h:PGs X e t)(i:∀v σ H Q,t' v σ H Q->t v σ H Q):PGs X e t':=λpins s σ H v u Q I r q=>h pins s σ H v u Q I r (i _ _ _ _ q)
theorem AR{x:Str}(j:X.N.Nodup)(hi:X.N[i]?=Z x)(hx:Loc X.env.scope x)(hf:X.fn x=F2∨X.env.scope.names.lookup x=Z .local):PG X (.Name x pos) (lG X.K (br i)):=
 PG.imp (qV j hi hx hf) λv σ H Q ⟨d,ρ,ρ',r,rs,e,q⟩=>by
  cases e
  exact q _ (rs.set i r)
theorem AS:PGs X [] (lGs X.K fE):=PGs.imp Ae λvs σ H Q ⟨ds,ρ,ρ',r,rs,e,q⟩=>by
 cases ds with
 |nil=>cases e;exact⟨RDs.nil_iff.mp r,q σ rs⟩
 |cons _ _=>cases e
theorem ye{es:List Expr}{b:BT}{bs:BTs}(h1:PG X e (lG X.K b))(h2:PGs X es (lGs X.K bs))(hs:(N7 (e::es) X.env).map (·.2)=assign e X.env::(N7 es X.env).map (·.2)):
 PGs X (e::es) (lGs X.K (bw b bs)):=PGs.imp (xr h1 h2 hs) λvs σ H Q ⟨ds,ρ,ρ',r,rs,e,q⟩=>by
 cases ds with
 |nil=>cases e
 |cons d ds=>
  obtain⟨v,vr,rfl,j,z⟩:=Vp.mp r;simp only[bw]at e
  cases e1:b d ρ with
  |none=>rw[e1]at e;cases e
  |some ρ1=>rw[e1]at e;exact⟨v,vr,rfl,d,ρ,ρ1,j,rs,e1,λσ' rs'=>⟨ds,ρ1,ρ',z,rs',e,q⟩⟩
theorem CY{es:List Expr}{k:Nat}{bs:BTs}{n:Nat}(hc:X.calm=F2)(hlen:∀ds ρ ρ',bs ds ρ=Z ρ'->ds.length=n)(h:PGs X es (lGs X.K bs))(z:(N7 es X.env).length=n)(j:(N7 es X.env).findIdx? (·.1)=Y):
 PG X (.Tuple es k pos) (lG X.K (oU bs)):=PG.imp (Cd hc h z j) λv σ H Q ⟨d,ρ,ρ',r,rs,e,q⟩=>by
 cases d with
 |tup ds=>obtain⟨a,vs,rfl,B,rv⟩:=Vs r;exact⟨a,vs,rfl,B,by rw[rv.length];exact hlen _ _ _ e,ds,ρ,ρ',rv,rs,e,q⟩
 |_=>cases e
noncomputable abbrev TId:=ar->Mem->(List D->(Mem->Prop)->Mem->Prop)->Prop
def bZ(T:TId):Prop:=∀ρ M Q Q',(∀xs c M',Q xs c M'->Q' xs c M')->T ρ M Q->T ρ M Q'
def Yl(H H':Hp):Prop:=H'=H∨∃q vs,H q=Y/\H'=upd H q (.tup vs)
def gk(K:Frag)(H1:Hp)(xs:List D)(chk:Mem->Prop)(J:It):Prop:=∀M H,Stab H1 H->RM K M H->chk M->∀i,(xs.length<=i->J.stop i H)/\(i<xs.length->J.go i H /\
 ∀x H',J.yld i H x H'->Yl H H'/\∃d,xs[i]?=Z d/\RD K H' d x)
noncomputable def lI(K:Frag)(T:TId):TI:=λσ H R=>∃ρ M,RS K H σ ρ/\RM K M H/\T ρ M (λxs chk M1=>∀J H1,Ext M H M1 H1->RM K M1 H1->gk K H1 xs chk J->R J H1)
theorem PI.imp{t t':TI}(h:PI X tg e t)(i:∀σ H Q,t' σ H Q->t σ H Q):PI X tg e t':=λpins s σ H Q I q=>h pins s σ H Q I (i _ _ _ q)
theorem Yl.ext{H':Hp}(rm:RM K M H)(y:Yl H H'):Ext M H M H'/\RM K M H':=by
 rcases y with rfl|⟨q,vs,n,rfl⟩
 ·exact⟨Ext.refl,rm⟩
 ·exact⟨Vx n,rm.new n⟩
noncomputable def FK(K:Frag)(tl:TE):TI:=λσ H R=>tl σ H λx H1=>∃a,x=.ref a/\(((∃xs,SqL K H1 a xs)/\R (Itl K a) H1)∨((∃xs,SqT K H1 a xs)/\R (Itt K a) H1))
theorem CZ{l:Expr}{tl:TE}(hl:PE X l tl):PI X tg l (FK X.K tl):=by
 intro pins s σ H R I h;refine thn (hl pins s σ H _ I h) λv s1 B=>?_;obtain⟨x,H1,j,F,G⟩:=B;obtain⟨a,e,q⟩:=G;subst e
 cases F
 rcases q with⟨⟨xs,z⟩,q⟩|⟨⟨xs,z⟩,q⟩
 ·obtain⟨its,rv,p,J⟩:=j.list z;refine Ni p.isList ?_;refine⟨s1.heap.objs.size,[s1.heap.objs.size],_,_,H1,rfl,j.kept (t':=s1.toks) λb o e=>hW _ e,uD a _,⟨_,Kj _ rfl,rfl,rfl⟩,λb hb=>?_,q⟩;have e:b=s1.heap.objs.size:=by simpa using hb
  subst e;exact j.fpOk (Ku _) (j.hok.fresh (Ku _))
 ·obtain⟨its,rv,p,J⟩:=j.tuple z;refine MM (show s1.heap.IsTuple a its.toArray from p) ?_;refine⟨s1.heap.objs.size,[s1.heap.objs.size],_,_,H1,rfl,j.kept (t':=s1.toks) λb o e=>hW _ e,sD a _,⟨_,Kj _ rfl,rfl,rfl⟩,λb hb=>?_,q⟩;have e:b=s1.heap.objs.size:=by simpa using hb
  subst e;exact j.fpOk (Ku _) (j.hok.fresh (Ku _))
noncomputable def tu(ta:TEd):TId:=λρ M R=>ta ρ M λx M1=>∃ds,ax M1 x=Z ds/\R ds (λM=>ax M x=Z ds) M1
theorem yf(h:ae ta):bZ (tu ta):=λρ M Q Q' i q=>h _ _ _ _ (λx B j=>(by obtain⟨ds,e,z⟩:=j;exact⟨ds,e,i _ _ _ z⟩)) q
theorem vq{chk:Mem->Prop}(h:∀M H,Stab H1 H->RM K M H->chk M->∃vs,SqL K H a vs/\RDs K H ds vs):gk K H1 ds chk (Itl K a):=λM H st rm c i=>by
 obtain⟨vs,sq,r⟩:=h M H st rm c;have l:=r.length;refine⟨λhi=>⟨vs,sq,∅⟩,λhi=>⟨⟨vs,vs[i]'∅,sq,I7 ∅⟩,λx H' y=>?_⟩⟩
 obtain⟨e,y⟩:=y;subst e;exact⟨.inl rfl,r.getV (y vs sq)⟩
theorem D3{chk:Mem->Prop}(h:∀M H,Stab H1 H->RM K M H->chk M->∃vs,SqT K H a vs/\RDs K H ds vs):gk K H1 ds chk (Itt K a):=λM H st rm c i=>by
 obtain⟨vs,sq,r⟩:=h M H st rm c;have l:=r.length;refine⟨λhi=>⟨vs,sq,∅⟩,λhi=>⟨⟨vs,vs[i]'∅,sq,I7 ∅⟩,λx H' y=>?_⟩⟩
 obtain⟨e,y⟩:=y;subst e;exact⟨.inl rfl,r.getV (y vs sq)⟩
theorem D4{l:Expr}(m:ae ta)(hl:PE X l (lE X.K ta)):PI X tg l (lI X.K (tu ta)):=by
 refine PI.imp (CZ hl) λσ H R h=>?_;obtain⟨ρ,M,rs,rm,q⟩:=h;refine⟨ρ,M,rs,rm,m _ _ _ _ (λx G g9 v H1 F j rd1=>?_) q⟩;obtain⟨ds,e,B⟩:=g9
 cases x with
 |tup es=>
  cases e
  obtain⟨a,vs,rfl,z,rv⟩:=Vs rd1;exact⟨a,rfl,.inr ⟨⟨vs,z⟩,B _ H1 F j (D3 λM' H' st _ _=>⟨vs,st.sqT z,rv.mono st⟩)⟩⟩
 |con es=>
  cases e
  obtain⟨a,vs,rfl,z,rv⟩:=Vr.mp rd1;exact⟨a,rfl,.inl ⟨⟨vs,z.sq⟩,B _ H1 F j (vq λM' H' st _ _=>⟨vs,(st.sqF z).sq,rv.mono st⟩)⟩⟩
 |ref a=>
  cases Vn.mp rd1
  have get:∀{M':Mem} {es:List D},ax M' (.ref a)=Z es->M' a=Z (.lst es):=λ{M' es} e=>by
   simp only[ax]at e
   cases e0:M' a with
   |none=>rw[e0]at e;cases e
   |some o=>
    rw[e0]at e
    cases o with
    |dct _ _=>cases e
    |fdc _=>cases e
    |dcn _=>cases e
    |fdn _=>cases e
    |lst es'=>cases e;rfl
  obtain⟨vs,z,rv⟩:=j _ _ (get e);exact⟨a,rfl,.inl ⟨⟨vs,SqL.of z⟩,B _ H1 F j (vq λM' H' st rm' c=>by obtain⟨us,hb,ru⟩:=rm' _ _ (get c);exact⟨us,SqL.of hb,ru⟩)⟩⟩
 |_=>cases e
noncomputable def bV(lo:Int)(n:Nat):List D:=(D1 n).map λi=>.int (lo+(i:Nat))
theorem vt{lo:Int}{n:Nat}:gk K H1 (bV lo n) (λ_=>True) (Itr lo n):=λM H st rm c i=>by
 have l:(bV lo n).length=n:=by simp[bV]
 refine⟨λhi=>by show n<=i;lia,λhi=>⟨by show i<n;lia,λx H' y=>?_⟩⟩
 obtain⟨e,y⟩:=y;subst e y;refine⟨.inl rfl,.int (lo+i),?_,Vm.mpr rfl⟩;simp only[bV,KH,LY (show i<n by lia),NQ]
noncomputable def nD(ta:TAd):TId:=λρ M R=>ta ρ M λds M1=>∃j:Int,ds=[.int j] /\ -(2^62)<=j/\j<2^62/\R (bV 0 j.toNat) (λ_=>True) M1
noncomputable def nE(ta:TAd):TId:=λρ M R=>ta ρ M λds M1=>∃i j:Int,ds=[.int i,.int j]/\(-(2^62)<=i/\i<2^62 /\ -(2^62)<=j/\j<2^62)/\R (bV i (j-i).toNat) (λ_=>True) M1
theorem vw{ta:TAd}(h:b5 ta):bZ (nD ta):=λρ M Q Q' i q=>h _ _ _ _ (λx F z=>(by obtain⟨j,e,a,b,B⟩:=z;exact⟨j,e,a,b,i _ _ _ B⟩)) q
theorem vx{ta:TAd}(h:b5 ta):bZ (nE ta):=λρ M Q Q' i q=>h _ _ _ _ (λx F z=>(by obtain⟨k,j,e,a,B⟩:=z;exact⟨k,j,e,a,i _ _ _ B⟩)) q
theorem AT{a:Expr}{ta:TAd}(m:b5 ta)(B:Gl X "range")(hm:X.mg "range"=Y)(F:PA X [a] (lA X.K ta))(hs:L8 [a] X.env=[(N3,eval a X.env)]):PI X tg (.Call (.Name "range" p) [a] [] pos) (lI X.K (nD ta)):=by
 refine PI.imp (uE B hm F hs) λσ H R h=>?_;obtain⟨ρ,M,rs,rm,q⟩:=h;refine⟨ρ,M,rs,rm,m _ _ _ _ (λds U g9 vs H1 O z rd1=>?_) q⟩;obtain⟨j,e,G,J,L⟩:=g9;subst e;obtain⟨v,rfl,r⟩:=rd1.one
 cases Vm.mp r
 exact⟨j,rfl,G,J,L _ H1 O z vt⟩
theorem AU{a b:Expr}{ta:TAd}(m:b5 ta)(G:Gl X "range")(hm:X.mg "range"=Y)(J:PA X [a,b] (lA X.K ta))(hs:L8 [a,b] X.env=[(N3,eval a X.env),(N3,eval b X.env)])(B:L8 [b] X.env=[(N3,eval b X.env)]):
 PI X tg (.Call (.Name "range" p) [a,b] [] pos) (lI X.K (nE ta)):=by
 refine PI.imp (uF G hm J hs B) λσ H R h=>?_;obtain⟨ρ,M,rs,rm,q⟩:=h;refine⟨ρ,M,rs,rm,m _ _ _ _ (λds fv g9 vs H1 O F rd1=>?_) q⟩;obtain⟨i,j,e,z,L⟩:=g9;subst e;obtain⟨v,u,rfl,U,pv⟩:=rd1.two
 cases Vm.mp U
 cases Vm.mp pv
 exact⟨i,j,rfl,z,L _ H1 O F vt⟩
end
end
variable{b:BT}{xs:List D}{pos':Pos}
section
section
variable{X:Cx}
noncomputable def isT:D->Bool|.tup _=>F2|_=>N3
theorem eY(rm:RM K M H)(r:RD K H x v)(e:ax M x=Z ds):∃p vs,v=.ref p/\SqV K (isT x) H p vs/\RDs K H ds vs:=by
 cases x with
 |tup es=>
  cases e
  obtain⟨a,vs,rfl,j,rv⟩:=Vs r;exact⟨a,vs,rfl,j,rv⟩
 |con es=>
  cases e
  obtain⟨a,vs,rfl,j,rv⟩:=Vr.mp r;exact⟨a,vs,rfl,j.sq,rv⟩
 |ref a=>
  cases Vn.mp r
  simp only[ax]at e
  cases e0:M a with
  |none=>rw[e0]at e;cases e
  |some o=>
   rw[e0]at e
   cases o with
   |dct _ _=>cases e
   |fdc _=>cases e
   |dcn _=>cases e
   |fdn _=>cases e
   |lst es=>
    cases e
    obtain⟨vs,j,rv⟩:=rm _ _ e0;exact⟨a,vs,rfl,SqL.of j,rv⟩
 |_=>cases e
noncomputable def fF(x y:D):D:=.tup [x,y]
noncomputable def kN(ta tb:TEd):TId:=λρ M R=>aG ta (aG tb bo) ρ M λds M1=>∃x y xs ys,ds=[x,y]/\ax M1 x=Z xs/\ax M1 y=Z ys/\R (Nc fF xs ys) (λM=>ax M x=Z xs/\ax M y=Z ys) M1
theorem yg{tb:TEd}(j:ae ta)(hb:ae tb):bZ (kN ta tb):=λρ M Q Q' i q=>aq j (aq hb aw) _ _ _ _ (λds F z=>(by obtain⟨x,y,xs,ys,e,e1,e2,B⟩:=z;exact⟨x,y,xs,ys,e,e1,e2,i _ _ _ B⟩)) q
theorem oV{p:VH}{o:HO}(n:H p=Y):Stab H (upd H p o):=⟨λa xs e=>by rw[ao (λz=>by rw[z,n]at e;cases e)];exact e,λa o u e=>by rw[ao (λz=>by rw[z,n]at e;cases e)];exact e⟩
theorem D5{y:D}{ys:List D}{b:VH}(rx:RD K H1 x (.ref a))(ry:RD K H1 y (.ref b)):gk K H1 (Nc fF xs ys) (λM=>ax M x=Z xs/\ax M y=Z ys) (Itz K (isT x) (isT y) a b):=λM H st rm c i=>by
 obtain⟨O,vs,e1,j,G⟩:=eY rm (rx.mono st) c.1;obtain⟨p2,us,e2,q,J⟩:=eY rm (ry.mono st) c.2
 cases e1
 cases e2
 have l1:=G.length;have l2:=J.length;have lz:(Nc fF xs ys).length=min xs.length ys.length:=List.length_zipWith;refine⟨λhi=>⟨vs,us,j,q,∅⟩,λhi=>⟨⟨vs,us,vs[i]'∅,us[i]'∅,j,q,I7 ∅,I7 ∅⟩,λv H' L=>?_⟩⟩
 obtain⟨p,v1,v2,n,rfl,rfl,g⟩:=L;obtain⟨g1,g2⟩:=g vs us j q;obtain⟨d1,z,B⟩:=G.getV g1;obtain⟨d2,hd2,F⟩:=J.getV g2;have sb:=oV (o:=.tup [v1,v2]) n;refine⟨.inr ⟨p,[v1,v2],n,rfl⟩,.tup [d1,d2],?_,Vv ⟨p,[v1,v2],rfl,aM,RDs.cons (B.mono sb) (RDs.cons (F.mono sb) RDs.nil)⟩⟩;rw[List.getElem?_zipWith,z,hd2];rfl
theorem D6{elts:List Expr}{cx}{a b:Expr}{tb:TEd}(ma:ae ta)(mb:ae tb)(G:Gl X "zip")(hm:X.mg "zip"=Y)(J:PA X [a,b] (lA X.K (aG ta (aG tb bo))))(hs:L8 [a,b] X.env=[(N3,eval a X.env),(N3,eval b X.env)])(z:L8 [b] X.env=[(N3,eval b X.env)]):
 PI X (.Tuple elts cx pos) (.Call (.Name "zip" p) [a,b] [] pos') (lI X.K (kN ta tb)):=by
 refine PI.imp (CG G hm J hs z) λσ H R h=>?_;obtain⟨ρ,M,rs,rm,q⟩:=h;refine⟨ρ,M,rs,rm,aq ma (aq mb aw) _ _ _ _ (λds pv g9 vs H1 O j rd1=>?_) q⟩;obtain⟨x,y,xs,ys,e,e1,e2,L⟩:=g9;subst e;obtain⟨v,u,rfl,B,F⟩:=rd1.two;obtain⟨U,vs,rfl,s1,_⟩:=eY j B e1;obtain⟨p2,us,rfl,s2,_⟩:=eY j F e2;exact⟨U,p2,isT x,isT y,vs,us,rfl,s1,s2,L _ H1 O j (D5 B F)⟩
end
end
section
section
variable{X:Cx}
noncomputable def fG(xs:List D):List D:=xs.mapIdx λi x=>.tup [.int (i:Nat),x]
noncomputable def nF(ta:TEd):TId:=λρ M R=>ta ρ M λx M1=>∃xs,ax M1 x=Z xs/\R (fG xs) (λM=>ax M x=Z xs) M1
theorem vy(h:ae ta):bZ (nF ta):=λρ M Q Q' i q=>h _ _ _ _ (λx B j=>(by obtain⟨ds,e,z⟩:=j;exact⟨ds,e,i _ _ _ z⟩)) q
theorem D7(rx:RD K H1 x (.ref a)):gk K H1 (fG xs) (λM=>ax M x=Z xs) (Ite K (isT x) a):=λM H st rm c i=>by
 obtain⟨G,vs,e1,j,B⟩:=eY rm (rx.mono st) c
 cases e1
 have l1:=B.length;have lz:(fG xs).length=xs.length:=by simp[fG]
 refine⟨λhi=>⟨vs,j,∅⟩,λhi=>⟨⟨vs,vs[i]'∅,j,I7 ∅⟩,λv H' F=>?_⟩⟩
 obtain⟨p,v1,n,rfl,rfl,g⟩:=F;obtain⟨d1,q,z⟩:=B.getV (g vs j);have sb:=oV (o:=.tup [.int (i:Nat),v1]) n;refine⟨.inr ⟨p,[.int (i:Nat),v1],n,rfl⟩,.tup [.int (i:Nat),d1],?_,Vv ⟨p,[.int (i:Nat),v1],rfl,aM,RDs.cons (Vm.mpr rfl) (RDs.cons (z.mono sb) RDs.nil)⟩⟩;simp[fG,Qf,q]
theorem AV{elts:List Expr}{cx}{a:Expr}(ma:ae ta)(B:Gl X "enumerate")(hm:X.mg "enumerate"=Y)(F:PA X [a] (lA X.K (aG ta bo)))(hs:L8 [a] X.env=[(N3,eval a X.env)]):
 PI X (.Tuple elts cx pos) (.Call (.Name "enumerate" p) [a] [] pos') (lI X.K (nF ta)):=by
 refine PI.imp (As B hm F hs) λσ H R h=>?_;obtain⟨ρ,M,rs,rm,q⟩:=h;refine⟨ρ,M,rs,rm,ma _ _ _ _ (λx O g9 vs H1 J j rd1=>?_) q⟩;obtain⟨xs,e1,G⟩:=g9;obtain⟨v,rfl,z⟩:=rd1.one;obtain⟨L,us,rfl,s1,_⟩:=eY j z e1;exact⟨L,isT x,us,rfl,s1,G _ H1 J j (D7 z)⟩
end
end
variable{te:TEd}{src:TId}
section
noncomputable abbrev NC:=ar->Mem->List D->Prop
noncomputable abbrev TCd:=ar->Mem->List D->NC->Prop
def ca(T:TCd):Prop:=∀ρ M acc N N',(∀ρ' M' acc',N ρ' M' acc'->N' ρ' M' acc')->T ρ M acc N->T ρ M acc N'
structure ExtP(p:VH)(M:Mem)(H:Hp)(M':Mem)(H':Hp):Prop where
 kp:∀a o,a≠p->fz (M a)=F2->H a=Z o->H' a=Z o
 nw:∀a o,fz (M a)=F2->H a=Z o->M' a=M a
section
variable{K:Frag}{M M' M'':Mem}{H H' H'':Hp}{p:VH}
theorem ExtP.new(x:ExtP p M H M' H')(a:VH)(o:HO)(n:M a=Y)(e:H a=Z o):M' a=Y:=(x.nw a o (by rw[n];rfl) e).trans n
theorem Ext.toP(x:Ext M H M' H'):ExtP p M H M' H':=⟨λa o _=>x.kp a o,x.nw⟩
theorem ExtP.refl:ExtP p M H M H:=⟨λ_ _ _ _ h=>h,λ_ _ _ _=>rfl⟩
theorem ExtP.trans(a:ExtP p M H M' H')(q:H p=Z (.lst vs))(j:∃vs',H' p=Z (.lst vs'))(b:ExtP p M' H' M'' H''):ExtP p M H M'' H'':=
 ⟨fun c o ne n h=>b.kp c o ne (by rw[a.nw c o n h];exact n) (a.kp c o ne n h),fun c o n h=>by
  have n':fz (M' c)=F2:=by rw[a.nw c o n h];exact n
  refine Eq.trans ?_ (a.nw c o n h)
  by_cases z:c=p
  ·subst z;obtain⟨vs',e⟩:=j;exact b.nw c _ n' e
  ·exact b.nw c o n' (a.kp c o z n h)⟩
theorem ExtP.stab(r:RM K M H)(j:H p=Z (.lst vs))(x:ExtP p M H M' H'):Stab H H' where
 tup:=λa xs e=>x.kp a _ (λz=>by subst z;rw[j]at e;cases e) (by rw[r.fzT e];rfl) e
 frz:=λa o u e=>x.kp a _ (λz=>by subst z;rw[j]at e;cases e) (r.fzF e) e
theorem oW{ho:HO}(j:H p=Z (.lst vs)):Stab H (upd H p ho):=⟨λa xs e=>by rw[ao (λz=>by subst z;rw[j]at e;cases e)];exact e,λa o u e=>by rw[ao (λz=>by subst z;rw[j]at e;cases e)];exact e⟩
theorem RM.side{ho:HO}(r:RM K M H)(n:M p=Y)(j:H p=Z (.lst vs)):RM K M (upd H p ho):=λa o e=>by
 have ne:a≠p:=λz=>by subst z;rw[n]at e;cases e
 exact(r a o e).mono (oW j) λB q=>by rw[ao ne];exact q
end
def gZ(K:Frag)(H:Hp)(p:VH)(acc:List D):Prop:=∃vs,H p=Z (.lst vs)/\RDs K H acc vs
noncomputable def KC(K:Frag)(p:VH)(M:Mem)(H:Hp)(N:St->Hp->Prop):NC:=λρ' M' acc'=>∀σ' H',ExtP p M H M' H'->RS K H' σ' ρ'->RM K M' H'->gZ K H' p acc'->N σ' H'
noncomputable def lC(K:Frag)(p:VH)(T:TCd):TC:=λσ H N=>∃ρ M acc,RS K H σ ρ/\RM K M H/\M p=Y/\gZ K H p acc/\T ρ M acc (KC K p M H N)
theorem KC.ext{p:VH}{M2 M':Mem}{H2:Hp}{N:St->Hp->Prop}{ρ:ar}{acc:List D}(q:H p=Z (.lst vs))(j:∃vs',H2 p=Z (.lst vs'))(x:ExtP p M H M2 H2)(h:KC K p M H N ρ M' acc):KC K p M2 H2 N ρ M' acc:=λσ' H' y=>h σ' H' (x.trans q j y)
noncomputable def cC(te:TEd):TCd:=λρ M acc N=>te ρ M λx M1=>acc.length<Kn/\N ρ M1 (acc++[x])
noncomputable def bf:List TTd->TCd->TCd
 |[],tb=>tb
 |t::r,tb=>λρ M acc N=>t ρ M λb M1=>if b=F2 then bf r tb ρ M1 acc N else N ρ M1 acc
noncomputable def bx(b:BT)(tb:TCd)(chk:Mem->Prop)(N:NC):List D->NC
 |[]=>λρ M acc=>chk M/\N ρ M acc
 |x::xs=>λρ M acc=>chk M/\∃ρ',b x ρ=Z ρ'/\tb ρ' M acc (bx b tb chk N xs)
noncomputable def dE(src:TId)(b:BT)(tb:TCd):TCd:=λρ M acc N=>src ρ M λxs chk M1=>bx b tb chk N xs ρ M1 acc
noncomputable def hJ(fr:List (Option Nat))(src:TId)(b:BT)(tb:TCd):TEd:=λρ M Q=>src ρ M λxs chk M1=>bx b tb chk (λ_ M' acc=>∀p,M' p=Y->Q (.ref p) (af M' p (.lst acc))) xs (sW fr ρ) M1 []
theorem bD(h:ae te):ca (cC te):=λρ M acc N N' i q=>h _ _ _ _ (λx F j=>(by obtain⟨z,B⟩:=j;exact⟨z,i _ _ _ B⟩)) q
theorem aS{tb:TCd}(hb:ca tb):∀{ts:List TTd},(∀t∈ts,aJ t)->ca (bf ts tb)
 |[],_=>hb
 |t::r,h=>fun ρ M acc N N' i q=>h t Lc _ _ _ _ (fun b B j=>by
  cases b with
  |true=>rw[if_pos rfl]at j⊢;exact aS hb (λt' z=>h t' (KQ _ z)) _ _ _ _ _ i j
  |false=>rw[if_neg Kl]at j⊢;exact i _ _ _ j) q
theorem gm{b:BT}{tb:TCd}(hb:ca tb){chk:Mem->Prop}{N N':NC}(i:∀ρ' M' acc',N ρ' M' acc'->N' ρ' M' acc'):∀(xs:List D) (ρ:ar) (M:Mem) (acc:List D),bx b tb chk N xs ρ M acc->bx b tb chk N' xs ρ M acc
 |[],ρ,M,acc,h=>⟨h.1,i _ _ _ h.2⟩
 |x::xs,ρ,M,acc,⟨c,ρ',e,q⟩=>⟨c,ρ',e,hb _ _ _ _ _ (λρ2 M2 j z=>gm hb i xs ρ2 M2 j z) q⟩
theorem iE{tb:TCd}(hs:bZ src)(hb:ca tb):ca (dE src b tb):=λρ M acc N N' i q=>hs _ _ _ _ (λxs c z j=>gm hb i xs _ _ _ j) q
theorem lZ{fr:List (Option Nat)}{tb:TCd}(hs:bZ src)(hb:ca tb):ae (hJ fr src b tb):=λρ M Q Q' i q=>hs _ _ _ _ (λxs c B j=>gm hb (λ_ M' acc z p n=>i _ _ (z p n)) xs _ _ _ j) q
section
variable{K:Frag}{p:VH}
theorem gn(m:ae te)(σ:St)(H:Hp)(N:St->Hp->Prop)(h:lC K p (cC te) σ H N):zI p (lE K te) σ H N:=by
 obtain⟨ρ,M,acc,rs,rm,n,⟨vs,L,ra⟩,q⟩:=h;refine⟨ρ,M,rs,rm,m _ _ _ _ (λx pv g9 v H1 F G J=>?_) q⟩;obtain⟨z,O⟩:=g9;have j:=F.keep p _ n L;have U:=F.new p _ n L;have st:=F.stab rm;have B:Stab H1 (upd H1 p (.lst (vs++[v]))):=oW j;refine⟨vs,j,by rw[ra.length];exact z,O σ _ ⟨λa o ne m' e=>?_,F.nw⟩ ((rs.mono st).mono B) (G.side U j) ⟨vs++[v],aM,((ra.mono st).mono B).append (RDs.cons (J.mono B) RDs.nil)⟩⟩
 rw[ao ne];exact F.kp a o m' e
theorem jH{tb:TCd}(mb:ca tb):∀{ts:List TTd},(∀t∈ts,aJ t)->∀(σ:St) (H:Hp) (N:St->Hp->Prop),lC K p (bf ts tb) σ H N->jv (ts.map (lT K)) (lC K p tb) σ H N
 |[],_,σ,H,N,h=>h
 |t::r,hm,σ,H,N,h=>by
  obtain⟨ρ,M,acc,rs,rm,n,⟨vs,G,ra⟩,q⟩:=h;refine⟨ρ,M,rs,rm,hm t Lc _ _ _ _ (λb L F H1 z B=>?_) q⟩;have j:=z.keep p _ n G;have O:=z.new p _ n G;have st:=z.stab rm
  cases b with
  |false=>rw[if_neg Kl]at F;dsimp only;rw[if_neg Kl];exact F σ H1 z.toP (rs.mono st) B ⟨vs,j,ra.mono st⟩
  |true=>
   rw[if_pos rfl]at F;dsimp only;rw[if_pos rfl];exact jH mb (λt' J=>hm t' (KQ _ J)) σ H1 N ⟨ρ,L,acc,rs.mono st,B,O,⟨vs,j,ra.mono st⟩,
    aS mb (λt' J=>hm t' (KQ _ J)) _ _ _ _ _ (λρ' M' acc' k=>k.ext G ⟨vs,j⟩ z.toP) F⟩
theorem m8{tb:TCd}(mb:ca tb){chk:Mem->Prop}{J:It}{B:Mem}{Nd:NC}{N:St->Hp->Prop}{σ:St}{ρ:ar}{acc:List D}(it:gk K H1 xs chk J)(rs:RS K H1 σ ρ)(rm:RM K B H1)(n:B p=Y)(ac:gZ K H1 p acc)(q:bx b tb chk Nd xs ρ B acc)(hN:∀ρ' M' acc' σ' H',ExtP p B H1 M' H'->RS K H' σ' ρ'->RM K M' H'->gZ K H' p acc'->Nd ρ' M' acc'->N σ' H'):
 cz J (lG K b) (lC K p tb) N σ H1:=by
 obtain⟨HY,F,_⟩:=id ac;refine⟨λi m σ H=>m=xs.length-i/\i<=xs.length/\∃ρ M acc,RS K H σ ρ/\RM K M H/\M p=Y/\gZ K H p acc/\ExtP p B H1 M H/\bx b tb chk Nd (xs.drop i) ρ M acc,⟨xs.length,by simp,Mj _,ρ,B,acc,rs,rm,n,ac,ExtP.refl,q⟩,?_⟩
 rintro i m σ H ⟨rfl,hi,ρ,M,acc,rs,j,n,ac,x,q⟩;have st:=x.stab rm F;obtain⟨vs,hp,ra⟩:=id ac
 by_cases z:i<xs.length
 ·rw[Mu z]at q;obtain⟨c,ρ',hb,q⟩:=q;obtain⟨go,yl⟩:=(it M H st j c i).2 z;refine .inr ⟨go,λσ' H'=>∃m',m'<xs.length-i/\(m'=xs.length-(i+1)/\i+1<=xs.length/\∃ρ M acc,RS K H' σ' ρ/\RM K M H'/\M p=Y/\gZ K H' p acc/\ExtP p B H1 M H'/\bx b tb chk Nd (xs.drop (i+1)) ρ M acc),λσ' H' h=>h,λx' H' y=>?_⟩;obtain⟨yy,d,hd,rd⟩:=yl x' H' y;rw[I7 z]at hd
  cases hd
  obtain⟨xy,rmy⟩:=yy.ext j;have sty:=xy.stab j;have G:=xy.keep p _ n hp;refine⟨_,ρ,ρ',rd,rs.mono sty,hb,λσ2 O=>?_⟩;refine⟨ρ',M,acc,O,rmy,n,⟨vs,G,ra.mono sty⟩,mb _ _ _ _ _ (λρ3 M3 L q3 σ3 H3 x3 U pv fv=>?_) q⟩;have n3:M3 p=Y:=x3.new p _ n G;exact⟨xs.length-(i+1),∅,rfl,z,ρ3,M3,L,U,pv,n3,fv,(x.trans F ⟨vs,hp⟩ xy.toP).trans F ⟨vs,G⟩ x3,q3⟩
 ·have e:i=xs.length:=by lia
  subst e;rw[Ui]at q;exact .inl ⟨(it M H st j q.1 _).1 (Ku _),hN ρ M acc σ H x rs j ac q.2⟩
theorem iF{tb:TCd}(ms:bZ src)(mb:ca tb)(σ:St)(H:Hp)(N:St->Hp->Prop)(h:lC K p (dE src b tb) σ H N):(lI K src) σ H λJ H1=>cz J (lG K b) (lC K p tb) N σ H1:=by obtain⟨ρ,M,acc,rs,rm,n,⟨vs,B,ra⟩,q⟩:=h;refine⟨ρ,M,rs,rm,ms _ _ _ _ (λxs chk O G J H1 z F it=>?_) q⟩;have j:=z.keep p _ n B;have L:=z.new p _ n B;have st:=z.stab rm;exact m8 mb it (rs.mono st) F L ⟨vs,j,ra.mono st⟩ G λρ' M' acc' σ' H' x2 rs' rm' ac' k=>k σ' H' (z.toP.trans B ⟨vs,j⟩ x2) rs' rm' ac'
theorem eD{fr:List (Option Nat)}{tb:TCd}(ms:bZ src)(mb:ca tb)(σ:St)(H:Hp)(Q:VK)(h:lE K (hJ fr src b tb) σ H Q):sV (lI K src) (lG K b) (λp=>lC K p tb) fr σ H Q:=by
 obtain⟨ρ,M,rs,rm,q⟩:=h;refine⟨ρ,M,rs,rm,ms _ _ _ _ (λxs chk F O J H1 B j it p n=>?_) q⟩;have st:=B.stab rm;have xn:Ext F H1 F (upd H1 p (.lst [])):=Vx n;have stn:=xn.stab j;have L:F p=Y:=j.out n;refine m8 (p:=p) mb (xs:=xs) (chk:=chk) (λM' H' st'=>it M' H' ⟨λa xs e=>st'.tup _ _ (stn.tup _ _ e),λa o u e=>st'.frz _ _ _ (stn.frz _ _ _ e)⟩) (((rs.mono st).mono stn).inh fr) (j.new n) L ⟨[],aM,RDs.nil⟩ O λρ' M' acc' σ' H' G rs' rm' ac' k=>?_;obtain⟨vs,U,ra⟩:=ac';have n':M' p=Y:=G.new p _ L aM;refine k p n' (.ref p) H' ⟨λa o m e=>?_,λa o m e=>?_⟩ (λa o e=>?_) (Vn.mpr rfl)
 ·have e1:=B.kp a o m e;have ne:a≠p:=λz=>by subst z;rw[n]at e1;cases e1
  exact G.kp a o ne (by rw[B.nw a o m e];exact m) (by rw[ao ne];exact e1)
 ·have e1:=B.kp a o m e;have ne:a≠p:=λz=>by subst z;rw[n]at e1;cases e1
  rw[al ne];exact(G.nw a o (by rw[B.nw a o m e];exact m) (by rw[ao ne];exact e1)).trans (B.nw a o m e)
 ·by_cases z:a=p
  ·subst z;rw[aa]at e;cases e;exact⟨vs,U,ra⟩
  ·rw[al z]at e;exact rm' a o e
end
end
variable{u:TSd}{c:TTd}
section
noncomputable def jI:TSd:=λD ρ M=>D.nx ρ M
noncomputable def yh(t u:TSd):TSd:=λD ρ M=>t {D with nx:=u D} ρ M
noncomputable def jJ:TSd:=λD ρ M=>D.bk ρ M
noncomputable def nG:TSd:=λD ρ M=>D.ct ρ M
noncomputable def nH(te:TEd):TSd:=λD ρ M=>te ρ M λ_ M1=>D.nx ρ M1
noncomputable def tw(te:TEd):TSd:=λD ρ M=>te ρ M D.rt
noncomputable def sIf(c:TTd)(t u:TSd):TSd:=λD ρ M=>c ρ M λb M1=>if b=F2 then t D ρ M1 else u D ρ M1
noncomputable def kP(te:TEd)(b:BT):TSd:=λD ρ M=>te ρ M λx M1=>∃ρ',b x ρ=Z ρ'/\D.nx ρ' M1
noncomputable def tz(ta:TAd)(bs:BTs):TSd:=λD ρ M=>ta ρ M λxs M1=>∃ρ',bs xs ρ=Z ρ'/\D.nx ρ' M1
noncomputable def bA(b:BT)(tb:TSd)(chk:Mem->Prop)(D:bh):List Mi.D->ar->Mem->Prop
 |[]=>λρ M=>chk M/\D.nx ρ M
 |x::xs=>λρ M=>chk M/\∃ρ',b x ρ=Z ρ'/\tb {D with nx:=bA b tb chk D xs,ct:=bA b tb chk D xs,bk:=D.nx} ρ' M
noncomputable def tD(src:TId)(b:BT)(tb:TSd):TSd:=λD ρ M=>src ρ M λxs chk M1=>bA b tb chk D xs ρ M1
noncomputable def bg(c:TTd)(tb:TSd)(D:bh):Nat->ar->Mem->Prop
 |0=>λ_ _=>False
 |n+1=>λρ M=>c ρ M λb M1=>if b=F2 then tb {D with nx:=bg c tb D n,ct:=bg c tb D n,bk:=D.nx} ρ M1 else D.nx ρ M1
noncomputable def jK(c:TTd)(tb:TSd):TSd:=λD ρ M=>∃n,bg c tb D n ρ M
theorem m9:aH jI:=λ_ _ _ _ h q=>h.nx _ _ q
theorem tE:aH jJ:=λ_ _ _ _ h q=>h.bk _ _ q
theorem vz:aH nG:=λ_ _ _ _ h q=>h.ct _ _ q
theorem vA{t:TSd}(j:aH t)(z:aH u):aH (yh t u):=λa b ρ M h q=>j {a with nx:=u a} {b with nx:=u b} _ _ ⟨λρ' M' q'=>z _ _ _ _ h q',h.rt,h.bk,h.ct⟩ q
theorem vB(h:ae te):aH (nH te):=λa b ρ M i q=>h _ _ _ _ (λ_ z j=>i.nx _ _ j) q
theorem yi(h:ae te):aH (tw te):=λa b ρ M i q=>h _ _ _ _ (λd z j=>i.rt _ _ j) q
theorem yj{t:TSd}(hc:aJ c)(z:aH t)(B:aH u):aH (sIf c t u):=λa b ρ M i q=>hc _ _ _ _ (λk F j=>by
 cases k with
 |true=>rw[if_pos rfl]at j⊢;exact z _ _ _ _ i j
 |false=>rw[if_neg Kl]at j⊢;exact B _ _ _ _ i j) q
theorem yk{bt:BT}(h:ae te):aH (kP te bt):=λa b ρ M i q=>h _ _ _ _ (λd B j=>(by obtain⟨ρ',e,z⟩:=j;exact⟨ρ',e,i.nx _ _ z⟩)) q
theorem ym{ta:TAd}{bs:BTs}(h:b5 ta):aH (tz ta bs):=λa b ρ M i q=>h _ _ _ _ (λd B j=>(by obtain⟨ρ',e,z⟩:=j;exact⟨ρ',e,i.nx _ _ z⟩)) q
theorem gp{bt:BT}{tb:TSd}(hb:aH tb){chk:Mem->Prop}{a b:bh}(i:LeD a b):∀(xs:List D) (ρ:ar) (M:Mem),bA bt tb chk a xs ρ M->bA bt tb chk b xs ρ M
 |[],ρ,M,h=>⟨h.1,i.nx _ _ h.2⟩
 |x::xs,ρ,M,⟨c,ρ',e,q⟩=>⟨c,ρ',e,hb {a with nx:=bA bt tb chk a xs,ct:=bA bt tb chk a xs,bk:=a.nx} {b with nx:=bA bt tb chk b xs,ct:=bA bt tb chk b xs,bk:=b.nx} _ _ ⟨λρ2 M2 j=>gp hb i xs ρ2 M2 j,i.rt,i.nx,λρ2 M2 j=>gp hb i xs ρ2 M2 j⟩ q⟩
theorem yn{bt:BT}{tb:TSd}(hs:bZ src)(hb:aH tb):aH (tD src bt tb):=λa b ρ M i q=>hs _ _ _ _ (λxs c z j=>gp hb i xs _ _ j) q
theorem eU{c:TTd}{tb:TSd}(hc:aJ c)(hb:aH tb){a b:bh}(i:LeD a b):∀(n:Nat) (ρ:ar) (M:Mem),bg c tb a n ρ M->bg c tb b n ρ M
 |0,ρ,M,h=>h
 |n+1,ρ,M,h=>hc _ _ _ _ (fun k z j=>by
  cases k with
  |true=>rw[if_pos rfl]at j⊢;exact hb {a with nx:=bg c tb a n,ct:=bg c tb a n,bk:=a.nx} {b with nx:=bg c tb b n,ct:=bg c tb b n,bk:=b.nx} _ _ ⟨λρ2 M2 q=>eU hc hb i n ρ2 M2 q,i.rt,i.nx,λρ2 M2 q=>eU hc hb i n ρ2 M2 q⟩ j
  |false=>rw[if_neg Kl]at j⊢;exact i.nx _ _ j) h
theorem tF{tb:TSd}(hc:aJ c)(hb:aH tb):aH (jK c tb):=λa b ρ M i g9=>(by obtain⟨n,q⟩:=g9;exact⟨n,eU hc hb i n _ _ q⟩)
section
variable{K:Frag}
theorem md(D:bF)(σ:St)(H:Hp)(h:lS K jI D σ H):sy D σ H:=by obtain⟨ρ,M,A,rs,rm,l,q⟩:=h;exact l.nx ρ M σ H Ext.refl rs rm q
theorem tG(D:bF)(σ:St)(H:Hp)(h:lS K jJ D σ H):uA D σ H:=by obtain⟨ρ,M,A,rs,rm,l,q⟩:=h;exact l.bk ρ M σ H Ext.refl rs rm q
theorem vC(D:bF)(σ:St)(H:Hp)(h:lS K nG D σ H):zy D σ H:=by obtain⟨ρ,M,A,rs,rm,l,q⟩:=h;exact l.ct ρ M σ H Ext.refl rs rm q
theorem yo{t:TSd}(mt:aH t)(mu:aH u)(D:bF)(σ:St)(H:Hp)(h:lS K (yh t u) D σ H):C9 (lS K t) (lS K u) D σ H:=by obtain⟨ρ,M,A,rs,rm,l,q⟩:=h;exact⟨ρ,M,{A with nx:=u A},rs,rm,⟨λρ' M' σ' H' x rs' rm' q'=>⟨ρ',M',A,rs',rm',l.ext x,q'⟩,l.rt,l.bk,l.ct⟩,q⟩
theorem vD(m:ae te)(D:bF)(σ:St)(H:Hp)(h:lS K (nH te) D σ H):zz (lE K te) D σ H:=by obtain⟨ρ,M,A,rs,rm,l,q⟩:=h;exact⟨ρ,M,rs,rm,m _ _ _ _ (λd B F v H1 z j G=>l.nx ρ B σ H1 z (rs.mono (z.stab rm)) j F) q⟩
theorem yp(m:ae te)(D:bF)(σ:St)(H:Hp)(h:lS K (tw te) D σ H):Ca (lE K te) D σ H:=by obtain⟨ρ,M,A,rs,rm,l,q⟩:=h;exact⟨ρ,M,rs,rm,m _ _ _ _ (λd B F v H1 G j z=>l.rt d B v H1 G j z F) q⟩
theorem AW{t:TSd}(mc:aJ c)(D:bF)(σ:St)(H:Hp)(h:lS K (sIf c t u) D σ H):Cc (lT K c) (lS K t) (lS K u) D σ H:=by
 obtain⟨ρ,M,A,rs,rm,l,q⟩:=h;refine⟨ρ,M,rs,rm,mc _ _ _ _ (λk F z H1 B j=>?_) q⟩
 cases k with
 |true=>rw[if_pos rfl]at z⊢;exact⟨ρ,F,A,rs.mono (B.stab rm),j,l.ext B,z⟩
 |false=>rw[if_neg Kl]at z⊢;exact⟨ρ,F,A,rs.mono (B.stab rm),j,l.ext B,z⟩
theorem yq(m:ae te)(D:bF)(σ:St)(H:Hp)(h:lS K (kP te b) D σ H):sB (lE K te) (lG K b) D σ H:=by obtain⟨ρ,M,A,rs,rm,l,q⟩:=h;refine⟨ρ,M,rs,rm,m _ _ _ _ (λd F g9 v H1 B j z=>?_) q⟩;obtain⟨ρ',e,G⟩:=g9;exact⟨d,ρ,ρ',z,rs.mono (B.stab rm),e,λσ' rs'=>l.nx ρ' F σ' H1 B rs' j G⟩
theorem mf(m:ae te)(D:bF)(σ:St)(H:Hp)(h:lS K (kP te (br i)) D σ H):sB (lE K te) (jj i) D σ H:=by
 obtain⟨ρ,M,A,rs,rm,l,q⟩:=h;refine⟨ρ,M,rs,rm,m _ _ _ _ (λd z g9 v H1 j rm1 rd1=>?_) q⟩;obtain⟨ρ',e,B⟩:=g9
 cases e
 exact l.nx _ z _ H1 j ((rs.mono (j.stab rm)).set i rd1) rm1 B
theorem yr{tb:TSd}(ms:bZ src)(mb:aH tb)(D:bF)(σ:St)(H:Hp)(h:lS K (tD src b tb) D σ H):Cj (lI K src) (lG K b) (lS K tb) D σ H:=by
 obtain⟨ρ,M,A,rs,rm,l,q⟩:=h;refine⟨ρ,M,rs,rm,ms _ _ _ _ (λxs chk M1 q1 J H1 x1 G it=>?_) q⟩;refine⟨λi m σ H'=>m=xs.length-i/\i<=xs.length/\∃ρ M2,RS K H' σ ρ/\RM K M2 H'/\Ext M1 H1 M2 H'/\bA b tb chk A (xs.drop i) ρ M2,⟨xs.length,by simp,Mj _,ρ,M1,rs.mono (x1.stab rm),G,Ext.refl,q1⟩,?_⟩
 rintro i m σ2 H2 ⟨rfl,hi,ρ2,M2,L,j,x2,O⟩;have U:=x2.stab G
 by_cases B:i<xs.length
 ·rw[Mu B]at O;obtain⟨c,ρ',hb,q3⟩:=O;obtain⟨go,yl⟩:=(it M2 H2 U j c i).2 B;refine .inr ⟨go,λσ' H'=>∃m',m'<xs.length-i/\(m'=xs.length-(i+1)/\i+1<=xs.length/\∃ρ M,RS K H' σ' ρ/\RM K M H'/\Ext M1 H1 M H'/\bA b tb chk A (xs.drop (i+1)) ρ M),λσ' H' h=>h,λx' H' y=>?_⟩;obtain⟨yy,d,hd,rd⟩:=yl x' H' y;rw[I7 B]at hd
  cases hd
  obtain⟨xy,rmy⟩:=yy.ext j;have pv:=x1.trans (x2.trans xy);refine⟨_,ρ2,ρ',rd,L.mono (xy.stab j),hb,λσ3 HY=>?_⟩;have nx:∀ρ5 F σ5 z,Ext M2 H' F z->RS K z σ5 ρ5->RM K F z->bA b tb chk A (xs.drop (i+1)) ρ5 F->∃m',m'<xs.length-i/\(m'=xs.length-(i+1)/\i+1<=xs.length/\∃ρ M,RS K z σ5 ρ/\RM K M z/\Ext M1 H1 M z/\bA b tb chk A (xs.drop (i+1)) ρ M):=λρ5 F σ5 z fv HZ I0 q5=>⟨xs.length-(i+1),∅,rfl,B,ρ5,F,HZ,I0,(x2.trans xy).trans fv,q5⟩
  refine⟨ρ',M2,{A with nx:=bA b tb chk A (xs.drop (i+1)),ct:=bA b tb chk A (xs.drop (i+1)),bk:=A.nx},HY,rmy,⟨nx,λd F v z fv=>l.rt d F v z (pv.trans fv),λρ5 F σ5 z fv=>l.nx ρ5 F σ5 z (pv.trans fv),nx⟩,q3⟩
 ·have e:i=xs.length:=by lia
  subst e;rw[Ui]at O;exact .inl ⟨(it M2 H2 U j O.1 _).1 (Ku _),l.nx ρ2 M2 σ2 H2 (x1.trans x2) L j O.2⟩
theorem tH{tb:TSd}(mc:aJ c)(mb:aH tb)(D:bF)(σ:St)(H:Hp)(h:lS K (jK c tb) D σ H):uC (lT K c) (lS K tb) D σ H:=by
 obtain⟨ρ,M,A,rs,rm,l,n,q⟩:=h;refine⟨λm σ' H'=>∃ρ' M',RS K H' σ' ρ'/\RM K M' H'/\Ext M H M' H'/\bg c tb A m ρ' M',⟨n,ρ,M,rs,rm,Ext.refl,q⟩,?_⟩;rintro m σ1 H1 ⟨ρ1,M1,J,L,x1,q1⟩
 cases m with
 |zero=>exact q1.elim
 |succ m=>
  refine⟨ρ1,M1,J,L,mc _ _ _ _ (λk M2 fv H2 x2 O=>?_) q1⟩;have j:=x1.trans x2;have U:=J.mono (x2.stab L)
  cases k with
  |false=>rw[if_neg Kl]at fv;dsimp only;rw[if_neg Kl];exact l.nx ρ1 M2 σ1 H2 j U O fv
  |true=>
   rw[if_pos rfl]at fv;dsimp only;rw[if_pos rfl];refine⟨λσ' H'=>∃ρ' M',RS K H' σ' ρ'/\RM K M' H'/\Ext M H M' H'/\bg c tb A m ρ' M',λσ' H' h=>⟨m,Uj m,h⟩,ρ1,M2,{A with nx:=bg c tb A m,ct:=bg c tb A m,bk:=A.nx},U,O,⟨?_,λd z v pv B=>l.rt d z v pv (j.trans B),λρ5 z σ5 pv B=>l.nx ρ5 z σ5 pv (j.trans B),?_⟩,fv⟩
   ·exactλρ5 z σ5 pv B F G q5=>⟨ρ5,z,F,G,j.trans B,q5⟩
   ·exactλρ5 z σ5 pv B F G q5=>⟨ρ5,z,F,G,j.trans B,q5⟩
end
noncomputable def fH:D->D->D->Mem->(Mem->Prop)->Prop:=λo i v M Q=>∃a,o=.ref a /\
 ((∃xs k j,i=.int k/\M a=Z (.lst xs)/\ixN xs.length k=Z j/\Q (af M a (.lst (xs.set j v)))) ∨
  ∃t kvs,M a=Z (.dct t kvs)/\eC t i=F2/\kvs.length<Kn/\Q (af M a (.dct t (eR kvs i v))))
noncomputable def tI(te to ti:TEd):TSd:=λD ρ M=>te ρ M λv M1=>to ρ M1 λo M2=>ti ρ M2 λi M3=>fH o i v M3 λM4=>D.nx ρ M4
theorem mj{o i v:D}{Q Q':Mem->Prop}(h:∀M',Q M'->Q' M')(q:fH o i v M Q):fH o i v M Q':=by
 obtain⟨a,e,⟨xs,k,j,e1,e2,z,q⟩|⟨t,kvs,e1,e2,z,q⟩⟩:=q
 ·exact⟨a,e,.inl ⟨xs,k,j,e1,e2,z,h _ q⟩⟩
 ·exact⟨a,e,.inr ⟨t,kvs,e1,e2,z,h _ q⟩⟩
theorem yt{ti:TEd}(he:ae te)(ho:ae to)(hi:ae ti):aH (tI te to ti):=λa b ρ M i q=>he _ _ _ _ (λv F j=>ho _ _ _ _ (λo M2 z=>hi _ _ _ _ (λk G B=>mj (λM' q'=>i.nx _ _ q') B) z) j) q
section
variable{X:Cx}{K:Frag}
theorem oZ(j:X.A.units+1<NA):PSet X (λo i v H Q=>∃a H',o=.ref a/\DPut H a i v H'/\Q H'):=by
 intro pins s σ H o i v ov iv u Q I ro ri rv h;obtain⟨a,H',rfl,g,q⟩:=h
 cases ro
 exact uT j I g ri rv λs' I'=>⟨H',I',q⟩
theorem PSet.or{t t':kz}(h:PSet X t)(h':PSet X t'):PSet X (λo i v H Q=>t o i v H Q∨t' o i v H Q):=by
 intro pins s σ H o i v ov iv u Q I ro ri rv q
 rcases q with q|q
 ·exact h pins s σ H o i v ov iv u Q I ro ri rv q
 ·exact h' pins s σ H o i v ov iv u Q I ro ri rv q
section
variable{κ:Type}[DecidableEq κ]{H:Hp}{RK:D->κ->Prop}(inj:∀{d e:D} {k:κ},RK d k->RK e k->d=e)(fn:∀{d:D} {k k':κ},RK d k->RK d k'->k=k')
include inj fn
theorem rl{k:D}{q:κ}(j:RK k q):∀{kvs:List (D×D)} {ps:List (κ×V)},LP (λp r=>RK p.1 r.1/\RD K H p.2 r.2) kvs ps->
 (kvs.any λp=>decide (p.1=k))=(ps.any λp=>decide (p.1=q))
 |_,_,.nil=>rfl
 |_,_,.cons (a:=p) (b:=r) hr t=>by
  rw[MU,MU,rl j t];congr 1
  by_cases e:p.1=k
  ·have e':r.1=q:=by have h1:=hr.1;rw[e]at h1;exact fn h1 j
   rw[decide_eq_true e,decide_eq_true e']
  ·have e':¬r.1=q:=λz=>e (by have h1:=hr.1;rw[z]at h1;exact inj h1 j)
   rw[decide_eq_false e,decide_eq_false e']
theorem rn{k:D}{q:κ}(B:RK k q){d:D}{v:V}(F:RD K H d v):∀{kvs:List (D×D)} {ps:List (κ×V)},LP (λp r=>RK p.1 r.1/\RD K H p.2 r.2) kvs ps->
 LP (λp r=>RK p.1 r.1/\RD K H p.2 r.2) (kvs.map λp=>if p.1=k then(p.1,d)else p) (ps.map λp=>if p.1=q then(p.1,v)else p)
 |_,_,.nil=>.nil
 |_,_,.cons (a:=p) (b:=r) j t=>by
  refine .cons ?_ (rn B F t)
  by_cases e:p.1=k
  ·have e':r.1=q:=by have h1:=j.1;rw[e]at h1;exact fn h1 B
   dsimp only;rw[if_pos e,if_pos e'];exact⟨j.1,F⟩
  ·have e':¬r.1=q:=λz=>e (by have h1:=j.1;rw[z]at h1;exact inj h1 B)
   dsimp only;rw[if_neg e,if_neg e'];exact j
theorem p9{k:D}{q:κ}(j:RK k q)(z:RD K H d v){ps:List (κ×V)}(r:LP (λp r=>RK p.1 r.1/\RD K H p.2 r.2) kvs ps):
 LP (λp r=>RK p.1 r.1/\RD K H p.2 r.2) (eR kvs k d) (cc ps q v):=by
 unfold eR cc;rw[rl (K:=K) (H:=H) (RK:=RK) inj fn j r]
 by_cases e:(ps.any λp=>decide (p.1=q))=F2
 ·rw[if_pos e,if_pos e];exact rn (RK:=RK) inj fn j z r
 ·rw[if_neg e,if_neg e];exact r.snoc ⟨j,z⟩
end
theorem pe{o i v:D}{ov iv vv:V}{Qd:Mem->Prop}{Q:Hp->Prop}(rm:RM K M H)(ro:RD K H o ov)(ri:RD K H i iv)(rv:RD K H v vv)(h:fH o i v M Qd)(J:∀M' H',Ext M H M' H'->RM K M' H'->Qd M'->Q H'):
 zE ov iv vv H Q∨∃a H',ov=.ref a/\DPut H a iv vv H'/\Q H':=by
 obtain⟨a,rfl,⟨xs,k,j,rfl,e2,G,q⟩|⟨t,kvs,e1,e2,G,q⟩⟩:=h
 ·cases Vn.mp ro
  cases Vm.mp ri
  obtain⟨vs,O,rs⟩:=rm _ _ e2;have st:Stab H (upd H a (.lst (vs.set j vv))):=rm.stabPut e2;exact .inl ⟨a,vs,k,j,rfl,rfl,O,by rw[rs.length];exact G,J _ _ (Ext.put e2) (rm.put (o:=.lst (xs.set j v)) e2 ⟨_,aM,(rs.set j rv).mono st⟩) q⟩
 ·cases Vn.mp ro
  have ro':=rm _ _ e1
  cases t with
  |false=>obtain⟨ps,L,pr⟩:=ro';obtain⟨kq,F⟩:=oz (show fB i=F2 from e2);have st:Stab H (upd H a (.dK (cc ps kq vv))):=rm.stabPut e1;have B:=p9 (RK:=RKey) RKey.inj RKey.fun F rv pr;rw[kJ F ri];refine .inr ⟨a,_,rfl,DPut.k L (by rw[<-P1 pr];exact G),J _ _ (Ext.put e1) (rm.put (o:=.dct N3 (eR kvs i v)) e1 ⟨_,aM,Vq B λ_ _ z=>⟨z.1,z.2.mono st⟩⟩) q⟩
  |true=>
   obtain⟨ps,L,pr⟩:=ro';obtain⟨kq,F⟩:=r9 (show dP i=F2 from e2);have st:Stab H (upd H a (.dT (cc ps kq vv))):=rm.stabPut e1;have B:=p9 (RK:=RKeys) RKeys.inj RKeys.fun F rv pr
   cases i<;>first
    |exact F.elim
    | (obtain⟨b,us,rfl,hb,ru⟩:=VG (rf e2) ri
       rw[iR F ru]at hb;exact .inr ⟨a,_,rfl,DPut.t L hb (by rw[<-P1 pr];exact G),J _ _ (Ext.put e1) (rm.put (o:=.dct F2 (eR kvs _ v)) e1 ⟨_,aM,Vq B λ_ _ z=>⟨z.1,z.2.mono st⟩⟩) q⟩)
theorem D8 {o i:Expr}{ti:TEd}{tpos:Pos}(hu:X.A.units+1<NA)(me:ae te)(mo:ae to)(mi:ae ti)(he:PE X e (lE X.K te))(ho:PE X o (lE X.K to))(hi:PE X i (lE X.K ti))(hs:P2 [.Subscript o i tpos] e pos.line X.env=pure N3)(hw:NY [.Subscript o i tpos] e X.env=pure Y)(ha:∀v,assign (.Subscript o i tpos) X.env v=(do
   let ov <-holding [v] (eval o X.env)
   let iv <-holding [v,ov] (eval i X.env)
   R7 tpos
   holding [v,ov,iv] (SO ov iv v)
   release [v,ov,iv] [])):PS X (.Assign [.Subscript o i tpos] e pos) (lS X.K (tI te to ti)):=by
 refine PS.imp (uB he (Ce ho hi (PSet.or og (oZ hu)) ha) hs hw rfl) λD σ H h=>?_;obtain⟨ρ,M,A,rs,rm,l,q⟩:=h;refine⟨ρ,M,rs,rm,me _ _ _ _ (λv M1 q1 vv H1 F j G=>?_) q⟩;refine⟨ρ,M1,rs.mono (F.stab rm),j,mo _ _ _ _ (λov M2 q2 vo H2 J z L=>?_) q1⟩;refine⟨ρ,M2,(rs.mono (F.stab rm)).mono (J.stab j),z,mi _ _ _ _ (λiv M3 q3 vi H3 O U pv=>?_) q2⟩;have B:=F.trans (J.trans O);exact pe U (L.mono (O.stab z)) pv ((G.mono (J.stab j)).mono (O.stab z)) q3 λM' H' x4 fv q4=>l.nx ρ M' σ H' (B.trans x4) (rs.mono ((B.trans x4).stab rm)) fv q4
noncomputable def jL:R2d
 |.int i,.int j,M,Q=>Q (.int (i+j)) M
 |_,_,_,_=>False
noncomputable def jM:R2d
 |.int i,.int j,M,Q=>Q (.int (i-j)) M
 |_,_,_,_=>False
noncomputable def jO:R2d
 |.int i,.int j,M,Q=>MulOk i j/\Q (.int (i*j)) M
 |_,_,_,_=>False
theorem gu:aB jL:=by
 intro x y M Q Q' h q
 cases x<;>cases y<;>first|exact q.elim|exact h _ _ q
theorem gv:aB jM:=by
 intro x y M Q Q' h q
 cases x<;>cases y<;>first|exact q.elim|exact h _ _ q
theorem gw:aB jO:=by
 intro x y M Q Q' h q
 cases x<;>cases y<;>first|exact q.elim|exact⟨q.1,h _ _ q.2⟩
theorem mm:OpR X (NF .Add) (l2 X.K jL):=by
 refine OpR.of Ag λv u H Q h=>?_;obtain⟨x,y,M,rm,rx,ry,q⟩:=h
 cases x<;>cases y<;>first
  |exact q.elim
  |(cases Vm.mp rx;cases Vm.mp ry;exact⟨_,_,rfl,rfl,q _ H Ext.refl rm (Vm.mpr rfl)⟩)
theorem mn:OpR X (NF .Sub) (l2 X.K jM):=by
 refine OpR.of Ah λv u H Q h=>?_;obtain⟨x,y,M,rm,rx,ry,q⟩:=h
 cases x<;>cases y<;>first
  |exact q.elim
  |(cases Vm.mp rx;cases Vm.mp ry;exact⟨_,_,rfl,rfl,q _ H Ext.refl rm (Vm.mpr rfl)⟩)
theorem vE:OpR X (NF .Mult) (rI MulOk λi j=>.int (i*j)):=opI λ_ _ _ _ _ _ _ hc q=>imul_int q hc.ok
theorem mq:OpR X (NF .Mult) (l2 X.K jO):=by
 refine OpR.of vE λv u H Q h=>?_;obtain⟨x,y,M,rm,rx,ry,q⟩:=h
 cases x<;>cases y<;>first
  |exact q.elim
  |(cases Vm.mp rx;cases Vm.mp ry;exact⟨_,_,rfl,rfl,q.1,q.2 _ H Ext.refl rm (Vm.mpr rfl)⟩)
noncomputable def tJ(i:Nat)(rd:R2d)(te:TEd):TSd:=λD ρ M=>∃x,ρ[i]?=Z (Z x)/\te ρ M λy M1=>rd x y M1 λz M2=>D.nx (ρ.set i (Z z)) M2
theorem yu{rd:R2d}(j:aB rd)(he:ae te):aH (tJ i rd te):=λa b ρ M l g9=>(by obtain⟨x,e,q⟩:=g9;exact⟨x,e,he _ _ _ _ (λy G B=>j _ _ _ _ _ (λz M2 F=>l.nx _ _ F) B) q⟩)
theorem jP{x:Str}{op:OL}{rd:R2d}(U:X.N.Nodup)(hi:X.N[i]?=Z x)(hx:Loc X.env.scope x)(he:PE X e (lE X.K te))(ho:OpR X (NF op) (l2 X.K rd))(pv:aB rd)(me:ae te)(hf:X.fn x=F2∨X.env.scope.names.lookup x=Z .local):PS X (.AugAssign (.Name x pos') op e pos) (lS X.K (tJ i rd te)):=by refine PS.imp (Ch U hi hx he (ti:=l2 X.K rd) ho hf) λD σ H h=>?_;obtain⟨ρ,M,A,rs,rm,l,d,e,q⟩:=h;obtain⟨v,fv,j⟩:=rs.2 i d e;refine⟨v,fv,ρ,M,rs,rm,me _ _ _ _ (λy M1 q1 u H1 B F G=>?_) q⟩;refine⟨d,y,M1,F,j.mono (B.stab rm),G,pv _ _ _ _ _ (λz M2 q2 w H2 O J L=>?_) q1⟩;exact l.nx _ M2 _ H2 (B.trans O) ((rs.mono ((B.trans O).stab rm)).set i L) J q2
end
end
end Mi
namespace Mi
variable{K:Frag}
theorem vF{ta:TAd}{i j:Nat}(m:b5 ta)(D:bF)(σ:St)(H:Hp)(h:lS K (tz ta (bw (br i) (bw (br j) fE))) D σ H):Cf i j (lA K ta) D σ H:=by
 obtain⟨ρ,M,A,rs,rm,l,q⟩:=h;refine⟨ρ,M,rs,rm,m _ _ _ _ (λds G g9 vs H1 F B z=>?_) q⟩;obtain⟨ρ',e,J⟩:=g9
 match ds,e,z with
 |[d1,d2],e,z=>obtain⟨v,u,rfl,L,O⟩:=z.two;simp only[bw,br,fE,RE,TQ]at e;subst e;exact⟨v,u,rfl,l.nx _ G _ H1 F (((rs.mono (F.stab rm)).set i L).set j O) B J⟩
end Mi
section
section
variable{X:Cx}
theorem aD:Ci X (λo i H Q=>∃a xs k x,o=.ref a/\i=.int k/\SqL X.K H a xs/\atI xs k=Z x/\Q x H):=by
 intro pins s σ H o i ov iv Q I ro ri h;obtain⟨a,xs,k,x,rfl,rfl,sq,he,q⟩:=h
 cases ro
 obtain⟨t,rfl⟩:=ri;obtain⟨its,r,pl,G⟩:=I.list sq;obtain⟨j,h1,h2,J,B,F⟩:=kD he;obtain⟨w,ew,rw'⟩:=r.get h2;have hl:=r.length;have L:=eW;have fin:EP X pins σ Q w s:=⟨x,H,I,rw',q⟩
 by_cases h0:0<=k
 ·have z:k.toNat=j:=MN.inj (by rw[<-h1,Sw h0 F])
  exact wpAny_getItem_list pl.isList h0 ∅ (by rw[z];simpa using ew) fin
 ·have z:(k+(its.toArray.size:Int)).toNat=j:=by
   rw[Kq,<-hl];exact MN.inj (by rw[<-h1,RW ∅ B])
  exact RY pl.isList ∅ (by rw[Kq];lia) ∅ (by rw[z];simpa using ew) fin
end
namespace Mi
section
variable{X:Cx}
noncomputable def zL:R2d:=λx y M Q=>∃a ds k d,x=.ref a/\y=.int k/\M a=Z (.lst ds)/\atI ds k=Z d/\Q d M
theorem vG:aB zL:=λ_ _ _ _ _ h j=>(by obtain⟨a,ds,k,d,e1,e2,z,B,q⟩:=j;exact⟨a,ds,k,d,e1,e2,z,B,h _ _ q⟩)
noncomputable def nI(to ti te:TEd)(rd:R2d):TSd:=λD ρ M=>to ρ M λo M1=>ti ρ M1 λi M2=>zL o i M2 λx M3=>te ρ M3 λy M4=>rd x y M4 λz M5=>fH o i z M5 λM6=>D.nx ρ M6
theorem vH{to ti te:TEd}{rd:R2d}(ho:ae to)(hi:ae ti)(he:ae te)(j:aB rd):aH (nI to ti te rd):=λa b ρ M l q=>ho _ _ _ _ (λo U B=>hi _ _ _ _ (λi M2 F=>vG _ _ _ _ _ (λx pv G=>he _ _ _ _ (λy fv J=>j _ _ _ _ _ (λz M5 L=>mj (λM6 O=>l.nx _ _ O) L) J) G) F) B) q
theorem kQ{o i e:Expr}{to ti te:TEd}{op:OL}{rd:R2d}{pos tpos:Pos}(hu:X.A.units+1<NA)(mo:ae to)(mi:ae ti)(me:ae te)(hr:aB rd)(ho:PE X o (lE X.K to))(hi:PE X i (lE X.K ti))(he:PE X e (lE X.K te))(J:OpR X (NF op) (l2 X.K rd))(ha:∀ov iv new,augStore i ov iv new=(do holding [new,ov,iv] (SO ov iv new);release [new,ov,iv] [];pure .next)):PS X (.AugAssign (.Subscript o i tpos) op e pos) (lS X.K (nI to ti te rd)):=by
 refine PS.imp (Af ho hi aD he (tip:=l2 X.K rd) J (PSet.or og (oZ hu)) ha) λD σ H h=>?_;obtain⟨ρ,M,A,rs,rm,l,q⟩:=h;refine⟨ρ,M,rs,rm,mo _ _ _ _ (λd1 M1 q1 v1 H1 x1 j L=>?_) q⟩;have B:=rs.mono (x1.stab rm);refine⟨ρ,M1,B,j,mi _ _ _ _ (λd2 M2 q2 v2 H2 O z U=>?_) q1⟩;have pv:=B.mono (O.stab j);have F:=L.mono (O.stab j);obtain⟨a,ds,k,d,rfl,rfl,e3,e4,q3⟩:=q2
 cases Vn.mp F
 cases Vm.mp U
 obtain⟨vs,fv,rv⟩:=z _ _ e3;obtain⟨v3,HY,HZ⟩:=jC rv e4;refine⟨a,vs,k,v3,rfl,rfl,SqL.of fv,HY,?_⟩;refine⟨ρ,M2,pv,z,me _ _ _ _ (λd4 M4 q4 v4 H4 x4 I0 I8=>?_) q3⟩;refine⟨d,d4,M4,I0,HZ.mono (x4.stab z),I8,hr _ _ _ _ _ (λd5 M5 q5 v5 H5 x5 I9 Ia=>?_) q4⟩;have G:=((x1.trans O).trans x4).trans x5;exact pe I9 (Vn.mpr rfl) (Vm.mpr rfl) Ia q5 λM' H' x6 Ib q6=>l.nx ρ M' σ H' (G.trans x6) (rs.mono ((G.trans x6).stab rm)) Ib q6
end
section
section
variable{X:Cx}
noncomputable def isD:D->D->Option Bool
 |x,.non=>Z (match x with|.non=>F2|_=>N3)
 |x,.bl b=>Z (match x with|.bl c=>c==b|_=>N3)
 |_,_=>Y
noncomputable def wIs:R2d:=λx y M Q=>∃k,isD x y=Z k/\Q (.bl k) M
theorem AX:aB wIs:=λ_ _ _ _ _ h j=>(by obtain⟨k,e,q⟩:=j;exact⟨k,e,h _ _ q⟩)
theorem AY{M:Po}{A:Lr}{E:hH->p7->Prop}{s:p7}{Q:hH->p7->Prop}{v:hH}{b:Bool}(j:∀id,v≠.builtin id)(h:Q (.bool (v==.bool b)) s):Kr M A (Ml .Is v (.bool b)) Q E s:=by cases v<;>first|exact D0 h|exact absurd rfl (j _)
theorem D9{K:Frag}{H:Hp}{x y:D}{v w:V}{u t:hH}{k:Bool}(e:isD x y=Z k)(rx:RD K H x v)(ry:RD K H y w)(ru:RelV v u)(rt:RelV w t):(t=.none/\(u==.none)=k)∨∃b,t=.bool b/\(u==.bool b)=k/\∀id,u≠.builtin id:=by
 cases y with
 |non=>
  cases Vu.mp ry
  cases rt
  refine .inl ⟨rfl,?_⟩
  cases x with
  |non=>cases Vu.mp rx;cases ru;cases e;rfl
  |bl c=>cases Vo.mp rx;cases ru;cases e;rfl
  |int i=>cases Vm.mp rx;obtain⟨tk,rfl⟩:=ru;cases e;rfl
  |str z=>cases Vt.mp rx;obtain⟨tk,rfl⟩:=ru;cases e;rfl
  |tup ds=>obtain⟨a,vs,rfl,_⟩:=Vs rx;cases ru;cases e;rfl
  |con ds=>obtain⟨a,vs,rfl,_⟩:=Vr.mp rx;cases ru;cases e;rfl
  |ref a=>cases Vn.mp rx;cases ru;cases e;rfl
  |fn z=>obtain⟨a,rfl,_⟩:=VE.mp rx;cases ru;cases e;rfl
 |bl b=>
  cases Vo.mp ry
  cases rt
  refine .inr ⟨b,rfl,?_⟩
  cases x with
  |non=>cases Vu.mp rx;cases ru;cases e;exact⟨rfl,λ_ z=>by cases z⟩
  |bl c=>cases Vo.mp rx;cases ru;cases e;exact⟨by cases b<;>cases c<;>rfl,λ_ z=>by cases z⟩
  |int i=>cases Vm.mp rx;obtain⟨tk,rfl⟩:=ru;cases e;exact⟨rfl,λ_ z=>by cases z⟩
  |str z=>cases Vt.mp rx;obtain⟨tk,rfl⟩:=ru;cases e;exact⟨rfl,λ_ z=>by cases z⟩
  |tup ds=>obtain⟨a,vs,rfl,_⟩:=Vs rx;cases ru;cases e;exact⟨rfl,λ_ z=>by cases z⟩
  |con ds=>obtain⟨a,vs,rfl,_⟩:=Vr.mp rx;cases ru;cases e;exact⟨rfl,λ_ z=>by cases z⟩
  |ref a=>cases Vn.mp rx;cases ru;cases e;exact⟨rfl,λ_ z=>by cases z⟩
  |fn z=>obtain⟨a,rfl,_⟩:=VE.mp rx;cases ru;cases e;exact⟨rfl,λ_ z=>by cases z⟩
 |_=>cases e
theorem AZ:OpR X (Ml .Is) (l2 X.K wIs):=by
 intro pins s σ H v w u t Q I ru rt h;obtain⟨x,y,M,rm,rx,ry,k,e,q⟩:=h;have fin:EP X pins σ Q (.bool k) s:=⟨.bl k,H,I,rfl,q _ H Ext.refl rm (Vo.mpr rfl)⟩
 rcases D9 e rx ry ru rt with⟨rfl,e2⟩|⟨b,rfl,e2,nb⟩
 ·exact is_none_gen (by rw[e2];exact fin)
 ·exact AY nb (by rw[e2];exact fin)
noncomputable def nJ(t:Bool):TEd:=λ_ M Q=>∀p,M p=Y->Q (.ref p) (af M p (.dct t []))
theorem vI{t:Bool}:ae (nJ t):=λ_ _ _ _ i q p n=>i _ _ (q p n)
theorem B0{t:Bool}{pos:Pos}:PE X (.Dict [] [] pos) (lE X.K (nJ t)):=by
 cases t with
 |false=>refine PE.imp xK λσ H Q g9 p n=>?_;obtain⟨ρ,M,rs,rm,q⟩:=g9;exact q p (rm.out n) (.ref p) _ (Ext.lay n) (rm.lay n ⟨[],aM,.nil⟩) (Vn.mpr rfl)
 |true=>refine PE.imp xL λσ H Q g9 p n=>?_;obtain⟨ρ,M,rs,rm,q⟩:=g9;exact q p (rm.out n) (.ref p) _ (Ext.lay n) (rm.lay n ⟨[],aM,.nil⟩) (Vn.mpr rfl)
end
end
end Mi
end
namespace Srt
structure Cm(prog:KW)(w:Lo)(A:Lr)(s:p7)(kd:P9)(P:Ko->Prop)(lt:Ko->Ko->Bool):Prop where
 asym:∀x y,lt x y=F2->lt y x=N3
 neg:∀x y z,lt x z=F2->lt x y=F2∨lt y z=F2
 run:∀(x y:Ko) (E:hH->p7->Prop) (Q:Bool->p7->Prop),P x->P y->Q (lt x y) s->Kr (KN prog w) A (keyLt' kd x.1 y.1) Q E s
variable{M:Po}{x y:Ko}{st:LM}{i:Nat}
section
variable{prog:KW}{w:Lo}{A:Lr}{E:hH->p7->Prop}{s:p7}{kd:P9}{P:Ko->Prop}{lt:Ko->Ko->Bool}
theorem ab{σ α:Type}{x:α}{st:σ}{Q:α->σ->Prop}(q:Q x st):wpS M A E s (pure x) Q st:=λ_ _ _=>⟨rfl,q⟩
theorem cJ{σ:Type}{tag:String}{st:σ}{Q:Unit->σ->Prop}(q:Q () st):wpS M A E s (liftM (PySem.rule tag)) Q st:=wpS_lift (MW ⟨rfl,q⟩)
theorem B1{σ:Type}{st st':σ}{Q:PUnit->σ->Prop}(q:Q PUnit.unit st'):wpS M A E s (set st') Q st:=λ_ _ _=>⟨rfl,q⟩
theorem jQ(c:Cm prog w A s kd P lt){Q:Option Bool->LM->Prop}(j:Mw st=kd)(hx:P x)(z:P y)(q:Q (Z (lt x y)) st):wpS (KN prog w) A E s (lt' x y) Q st:=by rw[lt'_eq];refine Kk (Pc ?_);refine Kk (wpS_lift ?_);rw[j];intro Γ p hp;rw[Sem.wp_attempt];exact c.run x y (λe s'=>s'=s/\wpS (KN prog w) A E s (do modify λs=>Q1 (Mw s) (Lu s) (KJ s) (gallopOf s) (Z e);pure Y) Q st) (λb s'=>s'=s/\wpS (KN prog w) A E s (pure (Z b)) Q st) hx z ⟨rfl,ab q⟩ Γ p hp
theorem aE{arr:Array Ko}{Q:Ko->LM->Prop}(h:arr[i]?=Z x)(q:Q x st):wpS (KN prog w) A E s (elem' arr i) Q st:=by rw[elem'_eq,h];exact ab q
theorem Cm.le_trans(c:Cm prog w A s kd P lt){z:Ko}(h:lt y x=N3)(h2:lt z y=N3):lt z x=N3:=by
 cases e:lt z x with
 |false=>rfl
 |true=>rcases c.neg z y x e with q|q<;>simp_all
theorem Cm.irr(c:Cm prog w A s kd P lt):lt x x=N3:=by
 cases e:lt x x with
 |false=>rfl
 |true=>have:=c.asym x x e;rw[e]at this;exact this
theorem aF{σ α:Type}{m:StateT σ Sem α}{st:σ}{Q Q':α->σ->Prop}(h:wpS M A E s m Q st)(q:∀a st',Q a st'->Q' a st'):wpS M A E s m Q' st:=LW h (λa s' z=>⟨z.1,q _ _ z.2⟩) λ_ _ z=>z
end
noncomputable abbrev Da:=Bool->Ko->Array Ko->Nat->Nat->Nat->StateT LM Sem (Option Nat)
noncomputable abbrev Db:=Array Ko->Array Ko->StateT LM Sem (Array Ko)
noncomputable def bey(lt:Ko->Ko->Bool)(left:Bool)(key x:Ko):Bool:=if left=F2 then lt x key else !(lt key x)
structure Same(st st':LM):Prop where
 arr:Lu st'=Lu st
 kind:Mw st'=Mw st
 pend:KJ st'=KJ st
 fail:Nt st'=Nt st
def i3(prog:KW)(w:Lo)(A:Lr)(E:hH->p7->Prop)(s:p7)(kd:P9)(P:Ko->Prop)(lt:Ko->Ko->Bool)(g:Da):Prop:=
 ∀(left:Bool) (key:Ko) (arr:Array Ko) (L xs R:List Ko) (base n hint:Nat) (st:LM) (Q:Option Nat->LM->Prop),Mw st=kd->P key->arr.toList=L++xs++R->base=L.length->n=xs.length->(∀x∈xs,P x)->hint<n->
  xs.Pairwise (λx y=>lt y x=N3)->
  (∀X pv,xs=X++pv->(∀x∈X,bey lt left key x=F2)->(∀x∈pv,bey lt left key x=N3)->Q (Z X.length) st)->
  wpS (KN prog w) A E s (g left key arr base n hint) Q st
def i4(prog:KW)(w:Lo)(A:Lr)(E:hH->p7->Prop)(s:p7)(kd:P9)(P:Ko->Prop)(lt:Ko->Ko->Bool)(m:Db):Prop:=
 ∀(a b:Array Ko) (st:LM) (Q:Array Ko->LM->Prop),Mw st=kd->(∀x∈a.toList,P x)->(∀x∈b.toList,P x)->0<a.size->0<b.size->
  a.toList.Pairwise (λx y=>lt y x=N3)->b.toList.Pairwise (λx y=>lt y x=N3)->(∀x y,a[0]?=Z x->b[0]?=Z y->lt x y=N3)->(∀x y,a[a.size-1]?=Z x->b[b.size-1]?=Z y->lt x y=N3)->
  (∀r st',r.toList.Perm (a.toList++b.toList)->r.toList.Pairwise (λx y=>lt y x=N3)->Same st st'->Q r st')->
  wpS (KN prog w) A E s (m a b) Q st
variable{left:Bool}{key:Ko}{j ia ib n na nb:Nat}{xs X l pv la lb:List Ko}{a b:Array Ko}
section
variable{prog:KW}{w:Lo}{A:Lr}{E:hH->p7->Prop}{s:p7}{kd:P9}{P:Ko->Prop}{lt:Ko->Ko->Bool}
theorem gx(c:Cm prog w A s kd P lt){arr:Array Ko}{Q:Option Bool->LM->Prop}(z:Mw st=kd)(hx:P key)(B:P x)(e:arr[j]?=Z x)(q:Q (Z (bey lt left key x)) st):
 wpS (KN prog w) A E s (do
  let x <-elem' arr j
  if left=F2 then lt' x key else do
   let r <-lt' key x
   pure (Option.map (λx=>!x) r)) Q st:=by
 refine Kk (aE e ?_)
 cases left with
 |true=>exact jQ c z B hx q
 |false=>exact Kk (jQ c z hx B (ab q))
theorem pf(c:Cm prog w A s kd P lt)(h:lt y x=N3)(hb:bey lt left key y=F2):bey lt left key x=F2:=by
 unfold bey at hb⊢
 cases left with
 |true=>
  rw[if_pos rfl]at hb⊢
  rcases c.neg y x key hb with q|q
  ·rw[h]at q;cases q
  ·exact q
 |false=>
  simp at hb⊢
  cases e:lt key x with
  |false=>rfl
  |true=>
   rcases c.neg key y x e with q|q
   ·rw[hb]at q;cases q
   ·rw[h]at q;cases q
structure Gal(lt:Ko->Ko->Bool)(left:Bool)(key:Ko)(xs:List Ko)(lo hi:Nat):Prop where
 le:lo<=hi
 len:hi<=xs.length
 up:∀i x,i<lo->xs[i]?=Z x->bey lt left key x=F2
 dn:∀i x,hi<=i->xs[i]?=Z x->bey lt left key x=N3
theorem eZ{R:Ko->Ko->Prop}(h:xs.Pairwise R)(q:i<j)(hx:xs[i]?=Z x)(z:xs[j]?=Z y):R x y:=by obtain⟨h1,e1⟩:=KO.mp hx;obtain⟨h2,e2⟩:=KO.mp z;rw[<-e1,<-e2];exact List.pairwise_iff_getElem.mp h i j h1 h2 q
theorem i5(c:Cm prog w A s kd P lt)(h:xs.Pairwise (λx y=>lt y x=N3))(q:xs[j]?=Z y)(hb:bey lt left key y=F2):∀i x,i<j+1->xs[i]?=Z x->bey lt left key x=F2:=by
 intro i x hi hx
 by_cases e:i=j
 ·subst e;rw[hx]at q;cases q;exact hb
 ·exact pf c (eZ h ∅ hx q) hb
theorem i6(c:Cm prog w A s kd P lt)(h:xs.Pairwise (λx y=>lt y x=N3))(z:xs[j]?=Z y)(hb:bey lt left key y=N3):∀i x,j<=i->xs[i]?=Z x->bey lt left key x=N3:=by
 intro i x hi hx
 by_cases e:i=j
 ·subst e;rw[hx]at z;cases z;exact hb
 ·cases q:bey lt left key x with
  |false=>rfl
  |true=>have:=pf c (eZ h ∅ z hx) q;rw[hb]at this;cases this
theorem Gal.out{k:Nat}(g:Gal lt left key xs k k):∃X pv,xs=X++pv/\X.length=k/\(∀x∈X,bey lt left key x=F2)/\(∀x∈pv,bey lt left key x=N3):=by
 refine⟨xs.take k,xs.drop k,(N4 k xs).symm,by rw[L3];exact Nm g.len,λx hx=>?_,λx hx=>?_⟩
 ·obtain⟨i,hi,e⟩:=MQ.mp hx;rw[L3]at hi;exact g.up i x ∅ (by rw[List.getElem_take]at e;rw[<-e];exact I7 _)
 ·obtain⟨i,hi,e⟩:=MQ.mp hx;rw[MP]at hi;refine g.dn (k+i) x ∅ ?_
  rw[List.getElem_drop]at e;rw[<-e];exact I7 _
noncomputable abbrev Ord(lt:Ko->Ko->Bool)(l:List Ko):Prop:=l.Pairwise λx y=>lt y x=N3
theorem ph{out A' B:List Ko}(h1:Ord lt (out++(X++A')))(h2:Ord lt (out++B))(h:∀x∈X,∀y∈B,lt y x=N3):Ord lt ((out++X)++A')/\Ord lt ((out++X)++B):=by
 refine⟨by rw[KD];exact h1,?_⟩
 rw[KD];obtain⟨j,q,F⟩:=Kh.mp h1;obtain⟨O,p2,G⟩:=Kh.mp h2;obtain⟨J,U,pv⟩:=Kh.mp q;refine Kh.mpr ⟨j,Kh.mpr ⟨J,p2,h⟩,λx hx y L=>?_⟩
 rcases Kz.mp L with z|z
 ·exact F x hx y (Lz _ z)
 ·exact G x hx y z
structure ML(lt:Ko->Ko->Bool)(la lb out:List Ko)(ia ib:Nat):Prop where
 pa:Ord lt (out++la.drop ia)
 pb:Ord lt (out++lb.drop ib)
 pm:(out++(la.drop ia++lb.drop ib)).Perm (la++lb)
theorem rp(c:Cm prog w A s kd P lt)(h:Ord lt (l.drop i))(j:l[i]?=Z y)(hx:lt y x=N3):∀z∈l.drop i,lt z x=N3:=by
 obtain⟨hi,e⟩:=KO.mp j;rw[Mu hi,e]at h⊢;intro z B
 rcases Km.mp B with q|q
 ·rw[q];exact hx
 ·exact c.le_trans hx ((Ph.mp h).1 z q)
theorem dS(e:l.drop i=X++pv):l.drop (i+X.length)=pv:=by rw[<-QP,e,List.drop_left]
theorem ML.galA(c:Cm prog w A s kd P lt){out:List Ko}(m:ML lt la lb out ia ib)(e:la.drop ia=X++pv)(j:lb[ib]?=Z y)(h:∀x∈X,lt y x=N3):ML lt la lb (out++X) (ia+X.length) ib:=by
 have p2:=(Kh.mp m.pb).2.1;have q:=ph (X:=X) (A':=pv) (by rw[<-e];exact m.pa) m.pb λx hx=>rp c p2 j (h x hx)
 refine⟨by rw[dS e];exact q.1,q.2,?_⟩
 rw[dS e];refine NH.trans (OA ?_) m.pm;rw[e];simp
theorem ML.galB(c:Cm prog w A s kd P lt){out:List Ko}(m:ML lt la lb out ia ib)(e:lb.drop ib=X++pv)(j:la[ia]?=Z y)(h:∀x∈X,lt y x=N3):ML lt la lb (out++X) ia (ib+X.length):=by
 have p2:=(Kh.mp m.pa).2.1;have q:=ph (X:=X) (A':=pv) (by rw[<-e];exact m.pb) m.pa λx hx=>rp c p2 j (h x hx)
 refine⟨q.2,by rw[dS e];exact q.1,?_⟩
 rw[dS e];refine NH.trans ?_ m.pm;rw[e,KD];refine Lv _ ?_;rw[<-KD,<-KD];exact LU _ OH
theorem dU(h:l[i]?=Z x):l.drop i=[x]++l.drop (i+1):=by obtain⟨hi,e⟩:=KO.mp h;rw[Mu hi,e];rfl
theorem ML.pushA(c:Cm prog w A s kd P lt){out:List Ko}(m:ML lt la lb out ia ib)(hx:la[ia]?=Z x)(j:lb[ib]?=Z y)(h:lt y x=N3):ML lt la lb (out++[x]) (ia+1) ib:=m.galA c (dU hx) j (by simpa using h)
theorem ML.pushB(c:Cm prog w A s kd P lt){out:List Ko}(m:ML lt la lb out ia ib)(hx:la[ia]?=Z x)(j:lb[ib]?=Z y)(h:lt x y=N3):ML lt la lb (out++[y]) ia (ib+1):=m.galB c (dU j) hx (by simpa using h)
def Res(lt:Ko->Ko->Bool)(la lb r:List Ko):Prop:=r.Perm (la++lb)/\Ord lt r
theorem ML.fin{out:List Ko}(m:ML lt la lb out ia ib)(h:lb.length<=ib):Res lt la lb (out++la.drop ia++lb.drop ib):=by rw[Nx h,Mg];refine⟨?_,m.pa⟩;have:=m.pm;rw[Nx h,Mg]at this;exact this
theorem ML.finE{out:List Ko}(m:ML lt la lb out ia ib)(h:la.length<=ia):Res lt la lb (out++la.drop ia++lb.drop ib):=by rw[Nx h,Mg];refine⟨?_,m.pb⟩;have:=m.pm;rw[Nx h,Qj]at this;exact this
theorem ML.finA{out:List Ko}(m:ML lt la lb out ia ib)(h:∀x∈lb,∀y∈la.drop ia,lt y x=N3):Res lt la lb (out++lb.drop ib++la.drop ia):=by
 refine⟨?_,?_⟩
 ·refine NH.trans ?_ m.pm;rw[KD];exact Lv _ OH
 ·obtain⟨F,q,B⟩:=Kh.mp m.pa;refine Kh.mpr ⟨m.pb,q,λx hx y j=>?_⟩
  rcases Kz.mp hx with z|z
  ·exact B x z y j
  ·exact h x (NV z) y j
theorem ML.size{out:List Ko}(m:ML lt la lb out ia ib)(j:ia<=la.length)(hb:ib<=lb.length):out.length=ia+ib:=by have:=m.pm.length_eq;simp only[D2,MP]at this;lia
theorem aD(h:i<a.size):∃x,a[i]?=Z x/\a.toList[i]?=Z x/\x∈a.toList:=by refine⟨a[i],L9 h,?_,Array.getElem_mem_toList h⟩;rw[KS];exact L9 h
theorem bH:(a.extract i).toList=a.toList.drop i:=by rw[Nf];simp only[PF];exact Ny (by simp)
theorem B2(e:a.toList.drop i=X++pv):(a.extract i (i+X.length)).toList=X:=by rw[Nf];simp[PF,e]
theorem Same.refl:Same st st:=⟨rfl,rfl,rfl,rfl⟩
theorem Same.trans{a b c:LM}(h:Same a b)(g:Same b c):Same a c:=⟨g.arr.trans h.arr,g.kind.trans h.kind,g.pend.trans h.pend,g.fail.trans h.fail⟩
theorem mv{O A' B:List Ko}(h1:Ord lt (A'++(pv++O)))(h2:Ord lt (B++O))(h:∀y∈pv,∀x∈B,lt y x=N3):Ord lt (B++(pv++O)):=by
 obtain⟨J,j,L⟩:=Kh.mp h1;obtain⟨q,p2,F⟩:=Kh.mp h2;refine Kh.mpr ⟨q,j,λx hx y G=>?_⟩
 rcases Kz.mp G with z|z
 ·exact h y z x hx
 ·exact F x hx y z
structure MH(lt:Ko->Ko->Bool)(la lb out:List Ko)(na nb:Nat):Prop where
 pa:Ord lt (la.take na++out.reverse)
 pb:Ord lt (lb.take nb++out.reverse)
 pm:(la.take na++lb.take nb++out.reverse).Perm (la++lb)
theorem i7(c:Cm prog w A s kd P lt)(h:Ord lt (l.take n))(G:0<n)(B:l[n-1]?=Z y)(hx:lt x y=N3):∀z∈l.take n,lt x z=N3:=by
 intro z F;obtain⟨i,hi,e⟩:=MQ.mp F;have j:(l.take n)[i]?=Z z:=by rw[<-e];exact I7 hi
 have q:(l.take n)[n-1]?=Z y:=by rw[P5 ∅];exact B
 rw[L3]at hi
 by_cases hin:i=n-1
 ·subst hin;rw[q]at j;cases j;exact hx
 ·exact c.le_trans (eZ h ∅ j q) hx
theorem dW(e:l.take n=X++pv):l.take X.length=X:=by
 have h:X.length<=n:=by have:=congrArg Q9 e;simp only[L3,D2]at this;lia
 have h2:(l.take n).take X.length=X:=by rw[e,List.take_left]
 rw[List.take_take,Nm h]at h2;exact h2
theorem MH.galA(c:Cm prog w A s kd P lt){out:List Ko}(m:MH lt la lb out na nb)(e:la.take na=X++pv)(j:0<nb)(z:lb[nb-1]?=Z y)(h:∀x∈pv,lt x y=N3):MH lt la lb (out++pv.reverse) X.length nb:=by
 have p2:=(Kh.mp m.pb).1;have h1:Ord lt (X++(pv++out.reverse)):=by rw[<-KD,<-e];exact m.pa
 have q:=mv h1 m.pb λx hx=>i7 c p2 j z (h x hx);refine⟨by rw[dW e];simpa using h1,by simpa using q,?_⟩
 rw[dW e];refine NH.trans ?_ m.pm;rw[e];simp only[List.reverse_append,SG,KD];refine Lv _ ?_;rw[<-KD,<-KD];exact LU _ OH
theorem MH.galB(c:Cm prog w A s kd P lt){out:List Ko}(m:MH lt la lb out na nb)(e:lb.take nb=X++pv)(j:0<na)(z:la[na-1]?=Z y)(h:∀x∈pv,lt x y=N3):MH lt la lb (out++pv.reverse) na X.length:=by
 have p2:=(Kh.mp m.pa).1;have h1:Ord lt (X++(pv++out.reverse)):=by rw[<-KD,<-e];exact m.pb
 have q:=mv h1 m.pa λx hx=>i7 c p2 j z (h x hx);refine⟨by simpa using q,by rw[dW e];simpa using h1,?_⟩
 rw[dW e];refine NH.trans (OA ?_) m.pm;rw[e];simp
theorem cK(j:0<n)(h:l[n-1]?=Z x):l.take n=l.take (n-1)++[x]:=by
 obtain⟨k,rfl⟩:∃k,n=k+1:=⟨n-1,∅⟩
 rw[Nat.add_sub_cancel]at h⊢;rw[TR,h];rfl
theorem rq(j:0<n)(h:l[n-1]?=Z x):(l.take (n-1)).length=n-1:=by obtain⟨hi,_⟩:=KO.mp h;rw[L3];lia
theorem MH.pushA(c:Cm prog w A s kd P lt){out:List Ko}(m:MH lt la lb out na nb)(j:0<na)(hb:0<nb)(hx:la[na-1]?=Z x)(z:lb[nb-1]?=Z y)(h:lt x y=N3):MH lt la lb (out++[x]) (na-1) nb:=by
 have q:=m.galA c (cK j hx) hb z (by simpa using h)
 rw[rq j hx]at q;simpa using q
theorem MH.pushB(c:Cm prog w A s kd P lt){out:List Ko}(m:MH lt la lb out na nb)(z:0<na)(hb:0<nb)(hx:la[na-1]?=Z x)(j:lb[nb-1]?=Z y)(h:lt y x=N3):MH lt la lb (out++[y]) na (nb-1):=by
 have q:=m.galB c (cK hb j) z hx (by simpa using h)
 rw[rq hb j]at q;simpa using q
theorem MH.fin{out:List Ko}(m:MH lt la lb out na nb)(h:na=0∨nb=0):Res lt la lb (la.take na++lb.take nb++out.reverse):=by
 refine⟨m.pm,?_⟩
 rcases h with rfl|rfl
 ·simpa using m.pb
 ·simpa using m.pa
theorem MH.finB{out:List Ko}(m:MH lt la lb out na nb)(h:∀x∈lb.take nb,∀y∈la,lt y x=N3):Res lt la lb (lb.take nb++la.take na++out.reverse):=by
 refine⟨NH.trans (LU _ OH) m.pm,?_⟩;obtain⟨j,F,q⟩:=Kh.mp m.pb;rw[KD];refine Kh.mpr ⟨j,m.pa,λx hx y B=>?_⟩
 rcases Kz.mp B with z|z
 ·exact h x hx y (NW z)
 ·exact q x hx y z
theorem MH.size{out:List Ko}(m:MH lt la lb out na nb)(j:na<=la.length)(hb:nb<=lb.length):out.length+na+nb=la.length+lb.length:=by have:=m.pm.length_eq;simp only[D2,L3,SX]at this;lia
theorem eE:a.toList.take a.size=a.toList:=Ny (by simp)
theorem be:(a.extract 0 i).toList=a.toList.take i:=by rw[Nf];simp[PF]
theorem yv(e:a.toList.take n=X++pv):(a.extract X.length n).toList=pv:=by rw[Nf];simp only[PF];rw[<-List.drop_take,e,List.drop_left]
theorem yw:∀(m old L R:List Ko) (a:Array Ko),a.toList=L++old++R->m.length=old.length->(PX (λa x=>a.setIfInBounds (L.length+x.snd) x.fst) a m.zipIdx).toList=L++m++R:=by
 have g:∀(m old L R:List Ko) (k:Nat) (a:Array Ko),a.toList=L++old++R->m.length=old.length->∀b:Nat,b+k=L.length->(PX (λa x=>a.setIfInBounds (b+x.snd) x.fst) a (m.zipIdx k)).toList=L++m++R:=by
  intro m
  induction m with
  |nil=>intro old L R k a e h b hb;have:old=[]:=Ls.mp h.symm;subst this;simpa using e
  |cons x m ih=>
   intro old L R k a e h b hb
   cases old with
   |nil=>simp at h
   |cons y old=>
    rw[Rz,Se];have e2:(a.setIfInBounds (b+k) x).toList=(L++[x])++old++R:=by rw[QR,e,hb];simp
    have:=ih old (L++[x]) R (k+1) _ e2 (by simpa using h) b (by simp;lia)
    rw[this];simp
 exactλm old L R a e h=>g m old L R 0 a e h L.length ∅
theorem ag{σ α:Type}{p:Prop}[Decidable p]{j q:StateT σ Sem α}{st:σ}{Q:α->σ->Prop}(h1:p->wpS M A E s j Q st)(h2:¬p->wpS M A E s q Q st):wpS M A E s (if p then j else q) Q st:=by
 split
 ·next h=>exact h1 h
 ·next h=>exact h2 h
theorem ML.cut{out:Array Ko}(m:ML lt la lb (out.toList++X) i j)(e:a.toList.drop n=X++pv):ML lt la lb (out++a.extract n (n+X.length)).toList i j:=by rw[Kw,B2 e];exact m
theorem MH.cut{out:Array Ko}(m:MH lt la lb (out.toList++pv.reverse) i j)(e:a.toList.take n=X++pv):MH lt la lb (out++(a.extract X.length n).reverse).toList i j:=by rw[Kw,Lq,yv e];exact m
theorem vJ{σ α:Type}{m:StateT σ Sem α}{st:σ}{Q:α->σ->Prop}{P:σ->Prop}(j:P st)(h:∀st',P st'->wpS M A E s m Q st'):wpS M A E s m Q st:=h st j
theorem zM{σ α:Type}{m:StateT σ Sem α}{st:σ}{Q:α->σ->Prop}(h:∀Q':α->σ->Prop,(∀a st',Q a st'->Q' a st')->wpS M A E s m Q' st):wpS M A E s m Q st:=h Q λ_ _ h=>h
theorem zN(h:bey lt N3 key x=F2):lt key x=N3:=by simpa[bey]using h
theorem vK(h:bey lt N3 key x=N3):lt key x=F2:=by simpa[bey]using h
theorem zO(h:bey lt F2 key x=F2):lt x key=F2:=by simpa[bey]using h
theorem vL(h:bey lt F2 key x=N3):lt x key=N3:=by simpa[bey]using h
theorem pi(e:l.drop i=X++pv)(h:l[i+X.length]?=Z x):x∈pv:=by rw[<-dS e,dU h];simp
theorem pj(e:l.take n=X++pv)(h0:0<X.length)(h:l[X.length-1]?=Z x):x∈X:=by have:=cK h0 h;rw[dW e]at this;rw[this];simp
theorem pA(e:a.toList.drop i=X++pv):X.length<=a.size-i:=by have:=congrArg Q9 e;simp at this;lia
theorem mw(e:a.toList.take n=X++pv)(h:n<=a.size):X.length+pv.length=n:=by have:=congrArg Q9 e;simp at this;lia
theorem fI(h:n<=a.size):n=(a.toList.take n).length:=by simp;lia
theorem ML.finR{out:Array Ko}(m:ML lt a.toList b.toList out.toList ia ib)(h:b.size<=ib):Res lt a.toList b.toList (out++a.extract ia++b.extract ib).toList:=by
 have:=m.fin (by simpa using h)
 simpa only[Kw,bH]using this
theorem ML.finS{out:Array Ko}(m:ML lt a.toList b.toList out.toList ia ib)(h:a.size<=ia):Res lt a.toList b.toList (out++a.extract ia++b.extract ib).toList:=by
 have:=m.finE (by simpa using h)
 simpa only[Kw,bH]using this
theorem ML.finL{out:Array Ko}(m:ML lt a.toList b.toList out.toList ia ib)(h:∀x∈b.toList,∀y∈a.toList.drop ia,lt y x=N3):Res lt a.toList b.toList (out++b.extract ib++a.extract ia).toList:=by have:=m.finA h;simpa only[Kw,bH]using this
theorem MH.finR{out:Array Ko}(m:MH lt a.toList b.toList out.toList na nb)(h:∀x∈b.toList.take nb,∀y∈a.toList,lt y x=N3):Res lt a.toList b.toList (b.extract 0 nb++a.extract 0 na++out.reverse).toList:=by have:=m.finB h;simpa only[Kw,Lq,be]using this
theorem MH.finL{out:Array Ko}(m:MH lt a.toList b.toList out.toList na nb)(h:na=0∨nb=0):Res lt a.toList b.toList (a.extract 0 na++b.extract 0 nb++out.reverse).toList:=by have:=m.fin h;simpa only[Kw,Lq,be]using this
theorem EB(c:Cm prog w A s kd P lt):
 ∃(g:Da) (lo hi:Db),(i3 prog w A E s kd P lt g/\(i3 prog w A E s kd P lt g->i4 prog w A E s kd P lt lo)/\(i3 prog w A E s kd P lt g->i4 prog w A E s kd P lt hi))/\(i3 prog w A E s kd P lt g->i4 prog w A E s kd P lt lo->i4 prog w A E s kd P lt hi->
  ∀(i sa na pa sb nb pb:Nat) (L r1 r2 R:List Ko) (st:LM) (Q:Bool->LM->Prop),Mw st=kd->Nt st=Y->(KJ st)[i]?=Z (sa,na,pa)->(KJ st)[i+1]?=Z (sb,nb,pb)->
   (Lu st).toList=L++(r1++r2)++R->sa=L.length->na=r1.length->sb=L.length+r1.length->nb=r2.length->r1≠[]->r2≠[]->(∀x∈r1,P x)->(∀x∈r2,P x)->Ord lt r1->Ord lt r2->
   (∀m st',(Lu st').toList=L++m++R->m.Perm (r1++r2)->Ord lt m->Mw st'=kd->Nt st'=Y->KJ st'=((KJ st).setIfInBounds i (sa,na+nb,pa)).eraseIdxIfInBounds (i+1)->Q F2 st')->
   wpS (KN prog w) A E s (V6 i) Q st):=by
 apply TU;apply TU;apply TU;apply PZ
 rotate_left
 ·intro hg JU JV i sa na pa sb nb pb L r1 r2 R st Q hk hf h1 h2 fv Jo IN Jp J2 JW JX Jy Jz o1 o2 q;unfold V6;refine Kk (Pc ?_);rw[h1,h2];dsimp only;refine Kk (B1 ?_);obtain⟨y0,t2,rfl⟩:∃y t,r2=y::t:=by cases r2 with|nil=>exact absurd rfl JX|cons y t=>exact⟨y,t,rfl⟩
  have hz:(Lu st)[sb]?=Z y0:=by rw[<-KS,fv,Jp];simp
  refine Kk (aE hz ?_);refine Kk (hg N3 y0 (Lu st) L r1 (y0::t2++R) sa na 0 _ _ hk (Jz _ (by simp)) (by rw[fv];simp) Jo IN Jy (by rw[IN];exact LB.mpr JW) o1 λX pv e hX hY=>?_)
  dsimp only;have lX:∀x∈X,lt y0 x=N3:=λx hx=>by have:=hX x hx;simpa[bey]using this
  have lY:∀x∈pv,lt x y0=N3:=λx hx=>c.asym _ _ (by have:=hY x hx;simpa[bey]using this)
  have hlen:na-X.length=pv.length:=by rw[IN,e];simp
  subst e;obtain⟨oX,oY,oXY⟩:=Kh.mp o1;have oy:=Ph.mp o2;have Jq:∀x∈X,∀z∈y0::t2,lt z x=N3:=λx hx z hz=>by
   rcases Km.mp hz with h|h
   ·rw[h];exact lX x hx
   ·exact c.le_trans (lX x hx) (oy.1 z h)
  refine ag (λh=>?_) (λh=>?_)
  ·have Jr:pv=[]:=Ls.mp (by rw[<-hlen];simpa using h)
   subst Jr;refine ab (q (X++(y0::t2)) _ (by simpa using fv) (by simp) ?_ hk hf rfl)
   exact Kh.mpr ⟨oX,o2,Jq⟩
  ·have Jr:0<pv.length:=by
    have:na-X.length≠0:=by simpa using h
    lia
   obtain⟨Y0,xl,rfl⟩:∃Y0 xl,pv=Y0++[xl]:=⟨pv.dropLast,pv.getLast (by intro z;rw[z]at Jr;simp at Jr),(Np _).symm⟩
   have JY:(Lu st)[sa+X.length+(na-X.length)-1]?=Z xl:=by
    rw[<-KS,fv,hlen,Jo];simp only[KD,D2,LJ];rw[J4 ∅,J4 ∅,J4 ∅]
    rw[show L.length+X.length+(Y0.length+1)-1-L.length-X.length-Y0.length=0 by lia];rfl
   refine Kk (aE JY ?_);refine Kk (hg F2 xl (Lu st) (L++(X++(Y0++[xl]))) (y0::t2) R sb nb (nb-1) _ _ hk (Jy _ (by simp)) (by rw[fv];simp) (by rw[Jp];simp) J2 Jz (by rw[J2];simp) o2 λX2 Y2 e2 IO IP=>?_)
   dsimp only;have JZ:∀x∈X2,lt xl x=N3:=λx hx=>c.asym _ _ (by have:=IO x hx;simpa[bey]using this)
   have JI:∀x∈Y2,lt x xl=N3:=λx hx=>by have:=IP x hx;simpa[bey]using this
   have K0:Ord lt (X2++Y2):=by rw[<-e2];exact o2
   obtain⟨K1,K5,JJ⟩:=Kh.mp K0;obtain⟨Kd,_,oYl⟩:=Kh.mp oY;have lYY:∀x∈Y0++[xl],∀z∈Y2,lt z x=N3:=λx hx z hz=>by
    rcases Kz.mp hx with h|h
    ·exact c.le_trans (oYl x h xl (by simp)) (JI z hz)
    ·simp at h;subst h;exact JI z hz
   refine ag (λh=>?_) (λh=>?_)
   ·have IG:X2=[]:=Ls.mp (by simpa using h)
    subst IG;have e2:y0::t2=Y2:=by simpa using e2
    refine ab (q (X++(Y0++[xl])++(y0::t2)) _ (by simpa using fv) (SH _) ?_ hk hf rfl)
    refine Kh.mpr ⟨o1,o2,λx hx z hz=>?_⟩
    rcases Kz.mp hx with g|g
    ·exact Jq x g z hz
    ·exact lYY x g z (by rw[<-e2];exact hz)
   ·have IG:X2≠[]:=λz=>h (by rw[z];rfl)
    have hx:((Lu st).extract (sa+X.length) sb).toList=Y0++[xl]:=by
     rw[Nf,fv,Jo,Jp];simp only[PF];have e1:(L++(X++(Y0++[xl])++y0::t2)++R).drop (L.length+X.length)=(Y0++[xl])++(y0::t2++R):=by rw[<-QP];simp
     rw[e1,show L.length+(X++(Y0++[xl])).length-(L.length+X.length)=(Y0++[xl]).length by simp only[D2];lia,List.take_left]
    have hy:((Lu st).extract sb (sb+X2.length)).toList=X2:=by
     rw[Nf,fv,Jp];simp only[PF];have e1:(L++(X++(Y0++[xl])++y0::t2)++R).drop (L.length+(X++(Y0++[xl])).length)=(y0::t2)++R:=by rw[<-QP];simp
     rw[e1,e2];simp
    have G:∀(r:Array Ko) (I8:LM),r.toList.Perm ((Y0++[xl])++X2)->Ord lt r.toList->Same (PyProof.Rows.SortSt.mk' (Mw st) (Lu st) (((KJ st).setIfInBounds i (sa,na+nb,pa)).eraseIdxIfInBounds (i+1)) (gallopOf st) (Nt st)) I8->∀HY:LM,Lu HY=PX (λa x=>a.setIfInBounds (sa+X.length+x.snd) x.fst) (Lu I8) r.toList.zipIdx->Mw HY=Mw I8->Nt HY=Nt I8->KJ HY=KJ I8->Q (Nt HY).isNone HY:=by
     intro r I8 hp ho hs HY g1 g2 g3 g4;have JK:Nt HY=Y:=g3.trans (hs.fail.trans hf);rw[JK];refine q (X++r.toList++Y2) HY ?_ ?_ ?_ (g2.trans (hs.kind.trans hk)) JK (g4.trans hs.pend)
     ·rw[g1,hs.arr];have e3:(Lu st).toList=(L++X)++((Y0++[xl])++X2)++(Y2++R):=by
       rw[fv,e2];simp
      rw[show sa+X.length=(L++X).length by rw[Jo];simp]
      rw[yw _ _ _ _ _ e3 (hp.length_eq)];simp
     ·rw[e2];refine NH.trans (LU _ (Lv _ hp)) ?_;simp
     ·refine Kh.mpr ⟨Kh.mpr ⟨oX,ho,λx hx z hz=>?_⟩,K5,λx hx z hz=>?_⟩
      ·rcases Kz.mp (hp.mem_iff.mp hz)with g|g
       ·exact oXY x hx z g
       ·exact Jq x hx z (by rw[e2];exact Lz _ g)
      ·rcases Kz.mp hx with g|g
       ·exact Jq x g z (by rw[e2];exact KR _ hz)
       ·rcases Kz.mp (hp.mem_iff.mp g)with g|g
        ·exact lYY x g z hz
        ·exact JJ x g z hz
    have Jw:∀x y,((Lu st).extract (sa+X.length) sb)[0]?=Z x->((Lu st).extract sb (sb+X2.length))[0]?=Z y->lt x y=N3:=by
     intro x y Iy J3;rw[<-KS,hx]at Iy;rw[<-KS,hy]at J3;have J6:=KU Iy;have:y=y0:=by
      cases X2 with
      |nil=>exact absurd rfl IG
      |cons z t=>simp at e2 J3;rw[<-J3,<-e2.1]
     subst this;exact lY x J6
    have preL:∀x y,((Lu st).extract (sa+X.length) sb)[((Lu st).extract (sa+X.length) sb).size-1]?=Z x->((Lu st).extract sb (sb+X2.length))[((Lu st).extract sb (sb+X2.length)).size-1]?=Z y->lt x y=N3:=by
     intro x y Iy J3;rw[<-KS,<-L6,hx]at Iy;rw[<-KS,<-L6,hy]at J3;have Iz:=KU J3;have:x=xl:=by simp at Iy;exact Iy.symm
     subst this;exact JZ y Iz
    have JL:0<((Lu st).extract (sa+X.length) sb).size:=by rw[<-L6,hx];simp
    have JM:0<((Lu st).extract sb (sb+X2.length)).size:=by rw[<-L6,hy];exact LB.mpr IG
    have JN:∀x∈((Lu st).extract (sa+X.length) sb).toList,P x:=by rw[hx];exactλx hx=>Jy x (KR _ hx)
    have JO:∀x∈((Lu st).extract sb (sb+X2.length)).toList,P x:=by rw[hy];exactλx hx=>Jz x (by rw[e2];exact Lz _ hx)
    have JP:Ord lt ((Lu st).extract (sa+X.length) sb).toList:=by rw[hx];exact oY
    have JQ:Ord lt ((Lu st).extract sb (sb+X2.length)).toList:=by rw[hy];exact K1
    refine ag (λh=>?_) (λh=>?_)
    ·refine Kk (JU _ _ _ _ hk JN JO JL JM JP JQ Jw preL λr I8 hp ho hs=>?_);rw[hx,hy]at hp;refine Kk (N8 ?_);refine Kk (Pc ?_);exact ab (G r I8 hp ho hs _ rfl rfl rfl rfl)
    ·refine Kk (JV _ _ _ _ hk JN JO JL JM JP JQ Jw preL λr I8 hp ho hs=>?_);rw[hx,hy]at hp;refine Kk (N8 ?_);refine Kk (Pc ?_);exact ab (G r I8 hp ho hs _ rfl rfl rfl rfl)
 apply PZ
 ·intro left key arr L xs R base n hint st Q hk IH fv JA hn hP hh hs q;subst JA hn;have at_:∀i,i<xs.length->∃x,xs[i]?=Z x/\arr[L.length+i]?=Z x/\P x:=by
   intro i hi;refine⟨xs[i],I7 hi,?_,hP _ (RF _)⟩;rw[<-KS,fv,KD,J4 ∅,KA ∅]
   rw[show L.length+i-L.length=i by lia]
   exact I7 hi
  obtain⟨x0,Iy,J7,K6⟩:=at_ hint hh;refine Kk (gx c hk IH K6 J7 ?_)
  try dsimp only
  refine ag (λhb=>?_) (λhb=>?_)
  ·skip
   refine Kk (aF (Q:=λr st'=>st'=st/\∃la ofs,r=(Y,la,ofs)/\hint+la<xs.length/\la<ofs/\(∀j x,j<hint+la+1->xs[j]?=Z x->bey lt left key x=F2)/\(xs.length<=hint+ofs∨∀j x,hint+ofs<=j->xs[j]?=Z x->bey lt left key x=N3))
    (LK (λi r st'=>st'=st/\∃la ofs,r=(Y,la,ofs)/\hint+la<xs.length/\la<ofs/\i+1<=ofs/\(∀j x,j<hint+la+1->xs[j]?=Z x->bey lt left key x=F2)) ?_ ?_ ⟨rfl,0,1,rfl,hh,∅,∅,i5 c hs Iy hb⟩) ?_)
   ·rintro i r st' _ hi ⟨rfl,la,ofs,rfl,h1,h2,h3,h4⟩
    try dsimp only
    refine ag (λIQ=>?_) (λIQ=>?_)
    ·exact ab ⟨rfl,la,ofs,rfl,h1,h2,h4,.inl ∅⟩
    ·skip
     obtain⟨x1,Ir,IR,IS⟩:=at_ (hint+ofs) ∅
     refine Kk (gx c hk IH IS IR ?_)
     try dsimp only
     refine ag (λhf=>?_) (λhf=>?_)
     ·exact ab ⟨rfl,la,ofs,rfl,h1,h2,h4,.inr (i6 c hs Ir (by simpa using hf))⟩
     ·exact ab ⟨rfl,ofs,2*ofs+1,rfl,∅,∅,∅,i5 c hs Ir (by simpa using hf)⟩
   ·rintro r st' ⟨rfl,la,ofs,rfl,h1,h2,h3,h4⟩;exact⟨rfl,la,ofs,rfl,h1,h2,h4,.inl ∅⟩
   ·rintro r st' ⟨rfl,la,ofs,rfl,h1,h2,h3,h4⟩
    try dsimp only
    have hG:Gal lt left key xs (hint+la+1) (hint+min ofs (xs.length-hint)):=by
     refine⟨∅,∅,h3,λi x hi hx=>?_⟩
     have Ke:i<xs.length:=(KO.mp hx).1
     rcases h4 with h4|h4
     ·lia
     ·exact h4 i x ∅ hx
    generalize hint+la+1=lo at hG;generalize hint+min ofs (xs.length-hint)=hi at hG;refine Kk (aF (Q:=λr st''=>st''=st'/\∃k,r=(Y,k,k)/\Gal lt left key xs k k)
     (LK (λi r st''=>st''=st'/\∃lo hi,r=(Y,lo,hi)/\Gal lt left key xs lo hi/\hi-lo+i<=xs.length) ?_ ?_ ⟨rfl,lo,hi,rfl,hG,by have:=hG.len;lia⟩) ?_)
    ·rintro i r st'' _ hi ⟨rfl,lo,hi,rfl,hG,hm⟩
     try dsimp only
     have hl:=hG.le;have J8:=hG.len;refine ag (λIQ=>?_) (λIQ=>?_)
     ·exact ab ⟨rfl,hi,by rw[show lo=hi by lia],by rw[show lo=hi by lia]at hG;exact hG⟩
     ·skip
      obtain⟨x1,Ir,IR,IS⟩:=at_ (lo+(hi-lo) / 2) ∅
      refine Kk (gx c hk IH IS IR ?_)
      try dsimp only
      refine ag (λhf=>?_) (λhf=>?_)
      ·exact ab ⟨rfl,_,_,rfl,⟨∅,J8,i5 c hs Ir hf,hG.dn⟩,∅⟩
      ·exact ab ⟨rfl,_,_,rfl,⟨∅,∅,hG.up,i6 c hs Ir (by simpa using hf)⟩,∅⟩
    ·rintro r st'' ⟨rfl,lo,hi,rfl,hG,hm⟩;have hl:=hG.le;exact⟨rfl,hi,by rw[show lo=hi by lia],by rw[show lo=hi by lia]at hG;exact hG⟩
    ·rintro r st'' ⟨rfl,k,rfl,hG⟩;obtain⟨X,pv,e,hl,hX,hY⟩:=hG.out;subst hl;exact ab (q X pv e hX hY)
  ·skip
   refine Kk (aF (Q:=λr st'=>st'=st/\∃la ofs,r=(Y,la,ofs)/\la<=hint/\la<ofs/\(∀j x,hint-la<=j->xs[j]?=Z x->bey lt left key x=N3)/\(hint<ofs∨∀j x,j<hint-ofs+1->xs[j]?=Z x->bey lt left key x=F2))
    (LK (λi r st'=>st'=st/\∃la ofs,r=(Y,la,ofs)/\la<=hint/\la<ofs/\i+1<=ofs/\(∀j x,hint-la<=j->xs[j]?=Z x->bey lt left key x=N3)) ?_ ?_ ⟨rfl,0,1,rfl,∅,∅,∅,i6 c hs Iy (by simpa using hb)⟩) ?_)
   ·rintro i r st' _ hi ⟨rfl,la,ofs,rfl,h1,h2,h3,h4⟩
    try dsimp only
    refine ag (λIQ=>?_) (λIQ=>?_)
    ·exact ab ⟨rfl,la,ofs,rfl,h1,h2,h4,.inl ∅⟩
    ·skip
     obtain⟨x1,Ir,IR,IS⟩:=at_ (hint-ofs) ∅
     refine Kk (gx c hk IH IS IR ?_)
     try dsimp only
     refine ag (λhf=>?_) (λhf=>?_)
     ·exact ab ⟨rfl,la,ofs,rfl,h1,h2,h4,.inr (i5 c hs Ir hf)⟩
     ·exact ab ⟨rfl,ofs,2*ofs+1,rfl,∅,∅,∅,i6 c hs Ir (by simpa using hf)⟩
   ·rintro r st' ⟨rfl,la,ofs,rfl,h1,h2,h3,h4⟩;exact⟨rfl,la,ofs,rfl,h1,h2,h4,.inl ∅⟩
   ·rintro r st' ⟨rfl,la,ofs,rfl,h1,h2,h3,h4⟩
    try dsimp only
    have hG:Gal lt left key xs (hint+1-min ofs (hint+1)) (hint-la):=by
     refine⟨∅,∅,λi x hi hx=>?_,h3⟩
     rcases h4 with h4|h4
     ·lia
     ·exact h4 i x ∅ hx
    generalize hint+1-min ofs (hint+1)=lo at hG;generalize hint-la=hi at hG;refine Kk (aF (Q:=λr st''=>st''=st'/\∃k,r=(Y,k,k)/\Gal lt left key xs k k)
     (LK (λi r st''=>st''=st'/\∃lo hi,r=(Y,lo,hi)/\Gal lt left key xs lo hi/\hi-lo+i<=xs.length) ?_ ?_ ⟨rfl,lo,hi,rfl,hG,by have:=hG.len;lia⟩) ?_)
    ·rintro i r st'' _ hi ⟨rfl,lo,hi,rfl,hG,hm⟩
     try dsimp only
     have hl:=hG.le;have J8:=hG.len;refine ag (λIQ=>?_) (λIQ=>?_)
     ·exact ab ⟨rfl,hi,by rw[show lo=hi by lia],by rw[show lo=hi by lia]at hG;exact hG⟩
     ·skip
      obtain⟨x1,Ir,IR,IS⟩:=at_ (lo+(hi-lo) / 2) ∅
      refine Kk (gx c hk IH IS IR ?_)
      try dsimp only
      refine ag (λhf=>?_) (λhf=>?_)
      ·exact ab ⟨rfl,_,_,rfl,⟨∅,J8,i5 c hs Ir hf,hG.dn⟩,∅⟩
      ·exact ab ⟨rfl,_,_,rfl,⟨∅,∅,hG.up,i6 c hs Ir (by simpa using hf)⟩,∅⟩
    ·rintro r st'' ⟨rfl,lo,hi,rfl,hG,hm⟩;have hl:=hG.le;exact⟨rfl,hi,by rw[show lo=hi by lia],by rw[show lo=hi by lia]at hG;exact hG⟩
    ·rintro r st'' ⟨rfl,k,rfl,hG⟩;obtain⟨X,pv,e,hl,hX,hY⟩:=hG.out;subst hl;exact ab (q X pv e hX hY)
 apply PZ
 ·intro hg a b st Q hk IT IU Js Jt sa sb J9 Ja q;refine Kk (cJ ?_);obtain⟨b0,Ju,Jb,K8⟩:=aD Jt;obtain⟨a0,J7,J0,K9⟩:=aD Js;refine Kk (aE Ju ?_);have m0:ML lt a.toList b.toList [] 0 0:=⟨sa,sb,by simp⟩
  have m1:ML lt a.toList b.toList [b0] 0 1:=m0.pushB c J0 Jb (J9 a0 b0 J7 Ju);have IA:∀x∈b.toList,∀(i:Nat),i+1=a.size->∀y∈a.toList.drop i,lt y x=N3:=by
   intro x hx i hi y hy;obtain⟨aL,Jv,Jc,_⟩:=aD (a:=a) (i:=i) ∅
   obtain⟨bL,JB,J1,_⟩:=aD (a:=b) (i:=b.size-1) ∅
   have e:a.toList.drop i=[aL]:=by rw[dU Jc,Nx (by simp;lia)];rfl
   rw[e]at hy;simp at hy;subst hy;have hl:=Ja y bL (by rw[show a.size-1=i by lia];exact Jv) JB
   obtain⟨j,hj,e⟩:=MQ.mp hx;have IV:b.toList[j]?=Z x:=by rw[<-e];exact I7 hj
   by_cases hjb:j=b.size-1
   ·subst hjb;rw[J1]at IV;cases IV;exact hl
   ·have:=eZ sb (show j<b.size-1 by simp at hj;lia) IV J1
    exact c.le_trans this hl
  try dsimp -zeta -zetaHave -zetaUnused only
  refine ag (λh=>?_) (λh=>?_)
  ·skip
   have h:1=b.size:=by simpa using h
   refine ab ?_;have r:=m1.fin (by simp;lia)
   exact q _ _ (by simpa only[Kw,KG,Lf,bH]using r.1) (by simpa only[Kw,KG,Lf,bH]using r.2) Same.refl
  ·skip
   refine ag (λh2=>?_) (λh2=>?_)
   ·skip
    have h2:0+1=a.size:=by simpa using h2
    refine ab ?_;have r:=m1.finA (IA · · 0 h2);exact q _ _ (by simpa only[Kw,KG,Lf,bH]using r.1) (by simpa only[Kw,KG,Lf,bH]using r.2) Same.refl
   ·skip
    have h:1≠b.size:=by simpa using h
    have h2:0+1≠a.size:=by simpa using h2
    refine Kk (Pc ?_)
    try dsimp -zeta -zetaHave -zetaUnused only
    refine Kk (aF (Q:=λr st'=>Same st st'/\∃res t,r=(Z res,t)/\Res lt a.toList b.toList res.toList)
     (LK (λi r st'=>Same st st'/\∃out ia ib mg,r=(Y,out,ia,ib,mg)/\ML lt a.toList b.toList out.toList ia ib/\ia+1<a.size/\ib<b.size/\i+1<=out.size) ?_ ?_ ⟨Same.refl,_,_,_,_,rfl,m1,∅,∅,by simp⟩) ?_)
    ·rintro i r Iu _ hi ⟨sm,out,ia,ib,mg,rfl,m,JC,JD,hsz⟩
     try dsimp -zeta -zetaHave -zetaUnused only
     refine Kk (aF (Q:=λr st'=>st'=Iu/\((∃B Ij Io ac bc,r=(Y,B,Ij,Io,ac,bc)/\ML lt a.toList b.toList B.toList Ij Io/\Ij+1<a.size/\Io<b.size/\i+2<=B.size)∨∃res t,r=(Z res,t)/\Res lt a.toList b.toList res.toList))
      (LK (λj r st'=>st'=Iu/\∃B Ij Io ac bc,r=(Y,B,Ij,Io,ac,bc)/\ML lt a.toList b.toList B.toList Ij Io/\Ij+1<a.size/\Io<b.size/\i+1+j<=B.size) ?_ ?_ ⟨rfl,_,_,_,_,_,rfl,m,JC,JD,∅⟩) ?_)
     ·rintro j r I8 _ hj ⟨rfl,B,Ij,Io,ac,bc,rfl,m2,h1,h2,h3⟩
      try dsimp only
      obtain⟨y,hy,Iv,Iz⟩:=aD (a:=b) h2;obtain⟨x,hx,Jd,J6⟩:=aD (a:=a) (i:=Ij) ∅
      refine Kk (aE hy (Kk (aE hx (Kk (jQ c (sm.kind.trans hk) (IU _ Iz) (IT _ J6) ?_)))))
      try dsimp only
      refine ag (λhl=>?_) (λhl=>?_)
      ·skip
       refine Kk (aE hy ?_)
       try dsimp only
       have m3:=m2.pushB c Jd Iv (c.asym _ _ hl);refine ag (λh=>?_) (λh=>?_)
       ·skip
        have h:Io+1=b.size:=by simpa using h
        exact ab ⟨rfl,.inr ⟨_,_,rfl,by simpa only[Kw,KG,Lf,bH]using m3.fin (by simp;lia)⟩⟩
       ·skip
        have h:Io+1≠b.size:=by simpa using h
        refine ag (λ_=>?_) (λ_=>?_)
        ·exact ab ⟨rfl,.inl ⟨_,_,_,_,_,rfl,by simpa only[Kw,KG]using m3,h1,∅,by simp;lia⟩⟩
        ·exact ab ⟨rfl,_,_,_,_,_,rfl,by simpa only[Kw,KG]using m3,h1,∅,by simp;lia⟩
      ·skip
       refine Kk (aE hx ?_)
       try dsimp only
       have m3:=m2.pushA c Jd Iv (by simpa using hl)
       refine ag (λh=>?_) (λh=>?_)
       ·skip
        have h:Ij+1+1=a.size:=by simpa using h
        exact ab ⟨rfl,.inr ⟨_,_,rfl,by simpa only[Kw,KG,Lf,bH]using m3.finA (IA · · _ h)⟩⟩
       ·skip
        have h:Ij+1+1≠a.size:=by simpa using h
        refine ag (λ_=>?_) (λ_=>?_)
        ·exact ab ⟨rfl,.inl ⟨_,_,_,_,_,rfl,by simpa only[Kw,KG]using m3,∅,h2,by simp;lia⟩⟩
        ·exact ab ⟨rfl,_,_,_,_,_,rfl,by simpa only[Kw,KG]using m3,∅,h2,by simp;lia⟩
     ·rintro r I8 ⟨rfl,B,Ij,Io,ac,bc,rfl,m2,h1,h2,h3⟩;exact⟨rfl,.inl ⟨_,_,_,_,_,rfl,m2,h1,h2,∅⟩⟩
     ·rintro r I8 ⟨rfl,⟨B,Ij,Io,ac,bc,rfl,m2,h1,h2,h3⟩|⟨res,t,rfl,J⟩⟩
      ·dsimp -zeta -zetaHave -zetaUnused only;refine Kk (cJ ?_);refine Kk (aF (Q:=fun r st'=>Same st st'/\((∃F Ia HZ Ik ac bc,r=(Y,F,Ia,HZ,Ik,ac,bc)/\ML lt a.toList b.toList F.toList Ia HZ/\Ia+1<a.size/\HZ<b.size/\i+2<=F.size)∨∃res t,r=(Z res,t)/\Res lt a.toList b.toList res.toList))
        (LK (λj r st'=>Same st st'/\∃F Ia HZ Ik ac bc,r=(Y,F,Ia,HZ,Ik,ac,bc)/\ML lt a.toList b.toList F.toList Ia HZ/\Ia+1<a.size/\HZ<b.size/\i+2<=F.size) ?_ ?_ ⟨sm,_,_,_,_,_,_,rfl,m2,h1,h2,h3⟩) ?_)
       ·rintro j r HY _ hj ⟨Il,F,Ia,HZ,Ik,Je,Jf,rfl,m3,h1,h2,h5⟩;obtain⟨y,hy,Iv,Iz⟩:=aD (a:=b) h2;refine zM λQQ hQ=>?_;have G:∀(st':LM) (res:Array Ko) t,Same st st'->Res lt a.toList b.toList res.toList->QQ (.done (Z res,t)) st':=λst' res t hs hr=>hQ _ _ ⟨hs,.inr ⟨_,_,rfl,hr⟩⟩;have JE:∀(st':LM) (out:Array Ko) ia ib mg ac bc,Same st st'->ML lt a.toList b.toList out.toList ia ib->ia+1<a.size->ib<b.size->i+2<=out.size->QQ (.done (Y,out,ia,ib,mg,ac,bc)) st'/\QQ (.yield (Y,out,ia,ib,mg,ac,bc)) st':=λst' out ia ib mg ac bc hs p1 p2 p3 p4=>⟨hQ _ _ ⟨hs,.inl ⟨_,_,_,_,_,_,rfl,p1,p2,p3,p4⟩⟩,hQ _ _ ⟨hs,_,_,_,_,_,_,rfl,p1,p2,p3,p4⟩⟩;clear hQ hj
        extract_lets -underBinder s0 vout s1 via s2 vib s3 vmg s4 vac vbc jp vmx
        have Jg:∀mg,wpS (KN prog w) A E s (jp () mg) QQ HY:=by
         intro mg;dsimp -zeta -zetaHave -zetaUnused only[jp,s0,vout,s1,via,s2,vib,s3,vmg,s4,vac,vbc];clear vmx jp vbc vac s4 vmg s3 vib s2 via s1 vout s0;refine Kk (N8 ?_);refine vJ (P:=Same st) (Il.trans ⟨rfl,rfl,rfl,rfl⟩) λIW Ib=>?_;have Jh:=Ib.kind.trans hk;refine Kk (aE hy ?_);refine Kk (hg N3 y a (a.toList.take Ia) (a.toList.drop Ia) [] _ _ _ _ _ Jh (IU _ Iz) (by simp) (fI ∅) (by simp) (λx hx=>IT x (NV hx)) ∅ ((Kh.mp m3.pa).2.1) λX pv e hX hY=>?_)
         dsimp -zeta -zetaHave -zetaUnused only;have m4:=m3.galA c e Iv λx hx=>zN (hX x hx);have Ic:∀x4,a.toList[Ia+X.length]?=Z x4->lt x4 y=N3:=λx4 IB=>c.asym _ _ (vK (hY x4 (pi e IB)));have IX:=pA e
         extract_lets -underBinder +onlyGivenNames vac IC
         clear_value vac
         have II:∀(O:Array Ko) (Iw:Nat),ML lt a.toList b.toList O.toList Iw HZ->(∀x4,a.toList[Iw]?=Z x4->lt x4 y=N3)->Iw+1<a.size->i+2<=O.size->wpS (KN prog w) A E s (IC () O Iw) QQ IW:=by
          intro O Iw JF ID Ka Ji;dsimp -zeta -zetaHave -zetaUnused only[IC];clear IC IX Ic m4 hX hY;obtain⟨x4,IB,Ih,Jj⟩:=aD (a:=a) (i:=Iw) ∅
          refine Kk (aE hy ?_);have m5:=JF.pushB c Ih Iv (ID x4 Ih);rw[<-KG]at m5;have Ii:i+2<=(O.push y).size:=by rw[Qp];lia
          try dsimp -zeta -zetaHave -zetaUnused only
          extract_lets -underBinder +onlyGivenNames vo5 vi5
          dsimp -zeta -zetaHave -zetaUnused only[vo5];clear vo5;have e5:vi5=HZ+1:=rfl
          clear_value vi5
          subst e5
          revert m5 Ii
          generalize O.push y=out5;intro m5 Ii;refine ag (λh=>?_) (λh=>?_)
          ·exact ab (G _ _ _ Ib (m5.finR (by have h:=NP h;lia)))
          ·have h:HZ+1≠b.size:=by simpa using h
           refine Kk (aE IB ?_);refine Kk (hg F2 x4 b (b.toList.take (HZ+1)) (b.toList.drop (HZ+1)) [] _ _ _ _ _ Jh (IT _ Jj) (by simp) (fI ∅) (by simp) (λx hx=>IU x (NV hx)) ∅ ((Kh.mp m5.pb).2.1) λX2 Y2 e2 IO IP=>?_)
           dsimp -zeta -zetaHave -zetaUnused only;have m6:=m5.galB c e2 Ih λx hx=>c.asym _ _ (zO (IO x hx));have Id:∀y6,b.toList[HZ+1+X2.length]?=Z y6->lt y6 x4=N3:=λy6 Jk=>vL (IP y6 (pi e2 Jk));have IY:=pA e2
           extract_lets -underBinder +onlyGivenNames vbc IE
           clear_value vbc
           have IJ:∀(I0:Array Ko) (IZ:Nat),ML lt a.toList b.toList I0.toList Iw IZ->(∀y6,b.toList[IZ]?=Z y6->lt y6 x4=N3)->IZ<b.size->i+2<=I0.size->wpS (KN prog w) A E s (IE () I0 IZ) QQ IW:=by
            intro I0 IZ JG IF Jx JR;dsimp -zeta -zetaHave -zetaUnused only[IE];clear IE IY Id m6 IO IP m5 Ii Ji h5 h1 h2 hsz JD JC h3;obtain⟨y6,Jk,IK,JS⟩:=aD (a:=b) (i:=IZ) Jx;refine Kk (aE IB ?_);have m7:=JG.pushA c Ih IK (IF y6 IK);rw[<-KG]at m7;dsimp only;refine ag (λh=>?_) (λh=>?_)
            ·exact ab (G _ _ _ Ib (m7.finL (IA · · (Iw+1) (NP h))))
            ·have h:Iw+1+1≠a.size:=by simpa using h
             have:=JE IW (I0.push x4) (Iw+1) IZ mg vac vbc Ib m7 ∅ Jx (by rw[Qp];lia)
             exact ag (λ_=>ab this.1) (λ_=>ab this.2)
           clear_value IE
           refine ag (λh0=>?_) (λh0=>?_)
           ·dsimp only;have m6:=m6.cut (a:=b) e2;refine ag (λh=>?_) (λh=>?_)
            ·exact ab (G _ _ _ Ib (m6.finR (by have h:=NP h;lia)))
            ·have h:HZ+1+X2.length≠b.size:=by simpa using h
             exact IJ _ _ m6 Id ∅ (by rw[OJ];lia)
           ·have IG:X2=[]:=Ls.mp ∅
            subst IG;exact IJ _ _ m5 Id ∅ Ii
         clear_value IC
         refine ag (λh0=>?_) (λh0=>?_)
         ·dsimp only;have m4:=m4.cut (a:=a) e;refine ag (λh=>?_) (λh=>?_)
          ·exact ab (G _ _ _ Ib (m4.finL (IA · · _ (NP h))))
          ·have h:Ia+X.length+1≠a.size:=by simpa using h
           refine ag (λh=>?_) (λh9=>?_)
           ·exact ab (G _ _ _ Ib (m4.finS (by have h:=NP h;lia)))
           ·have h9:Ia+X.length≠a.size:=by simpa using h9
            exact II _ _ m4 Ic ∅ (by rw[OJ];lia)
         ·have IG:X=[]:=Ls.mp ∅
          subst IG;exact II _ _ m3 Ic h1 h5
        clear_value jp
        exact ag (λ_=>Jg _) (λ_=>Jg _)
       ·rintro r HY ⟨Il,F,Ia,HZ,Ik,Je,Jf,rfl,m3,h1,h2,h5⟩;exact⟨Il,.inl ⟨_,_,_,_,_,_,rfl,m3,h1,h2,h5⟩⟩
       ·rintro r HY ⟨Il,⟨F,Ia,HZ,Ik,Je,Jf,rfl,m3,h1,h2,h5⟩|⟨res,t,rfl,J⟩⟩
        ·dsimp -zeta -zetaHave -zetaUnused only;refine Kk (N8 ?_);exact ab ⟨Il.trans ⟨rfl,rfl,rfl,rfl⟩,_,_,_,_,rfl,m3,h1,h2,∅⟩
        ·exact ab ⟨Il,_,_,rfl,J⟩
      ·exact ab ⟨sm,_,_,rfl,J⟩
    ·rintro r Iu ⟨sm,out,ia,ib,mg,rfl,m,JC,JD,hsz⟩;have:=m.size (by simp;lia) (by simp;lia)
     simp at this;lia
    ·rintro r Iu ⟨sm,res,t,rfl,J⟩;exact ab (q res Iu J.1 J.2 sm)
 ·intro hg a b st Q hk IT IU Js Jt sa sb J9 Ja q;refine Kk (cJ ?_);obtain⟨bL,JB,J1,Kb⟩:=aD (a:=b) (i:=b.size-1) ∅
  obtain⟨aL,Jv,Jc,Kc⟩:=aD (a:=a) (i:=a.size-1) ∅
  refine Kk (aE Jv ?_);have m0:MH lt a.toList b.toList [] a.size b.size:=⟨by rw[eE];simpa using sa,by rw[eE];simpa using sb,by rw[eE,eE];simp⟩
  have m1:MH lt a.toList b.toList [aL] (a.size-1) b.size:=m0.pushA c Js Jt Jc J1 (Ja aL bL Jv JB);have Iq:∀x∈b.toList.take 1,∀y∈a.toList,lt y x=N3:=by
   intro x hx y hy;obtain⟨b0,Ju,Jb,_⟩:=aD Jt;obtain⟨a0,J7,J0,_⟩:=aD Js;have ex:x=b0:=by
    rw[cK ∅ Jb]at hx
    simpa using hx
   subst ex;have h:=J9 a0 x J7 Ju;obtain⟨j,hj,e⟩:=MQ.mp hy;have IV:a.toList[j]?=Z y:=by rw[<-e];exact I7 hj
   by_cases hj0:j=0
   ·subst hj0;rw[J0]at IV;cases IV;exact h
   ·exact c.le_trans h (eZ sa ∅ J0 IV)
  try dsimp -zeta -zetaHave -zetaUnused only
  refine ag (λh=>?_) (λh=>?_)
  ·skip
   have h:a.size-1=0:=by simpa using h
   refine ab ?_;have r:=m1.fin (.inl h);exact q _ _ (by simpa only[Kw,KG,Lq,Lf,be]using r.1) (by simpa only[Kw,KG,Lq,Lf,be]using r.2) Same.refl
  ·skip
   refine ag (λh2=>?_) (λh2=>?_)
   ·skip
    have h2:b.size=1:=by simpa using h2
    refine ab ?_;have r:=m1.finB (by rw[h2];exact Iq)
    exact q _ _ (by simpa only[Kw,KG,Lq,Lf,be]using r.1) (by simpa only[Kw,KG,Lq,Lf,be]using r.2) Same.refl
   ·skip
    have h:a.size-1≠0:=by simpa using h
    have h2:b.size≠1:=by simpa using h2
    refine Kk (Pc ?_)
    try dsimp -zeta -zetaHave -zetaUnused only
    refine Kk (aF (Q:=λr st'=>Same st st'/\∃res t,r=(Z res,t)/\Res lt a.toList b.toList res.toList)
     (LK (λi r st'=>Same st st'/\∃na nb out mg,r=(Y,na,nb,out,mg)/\MH lt a.toList b.toList out.toList na nb/\0<na/\1<nb/\na<a.size/\nb<=b.size/\i+1<=out.size) ?_ ?_ ⟨Same.refl,_,_,_,_,rfl,m1,∅,∅,∅,∅,by simp⟩) ?_)
    ·rintro i r Iu _ hi ⟨sm,na,nb,out,mg,rfl,m,IN,J2,Jl,Jm,hsz⟩
     try dsimp -zeta -zetaHave -zetaUnused only
     refine Kk (aF (Q:=λr st'=>st'=Iu/\((∃Ie Ig B ac bc,r=(Y,Ie,Ig,B,ac,bc)/\MH lt a.toList b.toList B.toList Ie Ig/\0<Ie/\1<Ig/\Ie<a.size/\Ig<=b.size/\i+2<=B.size)∨∃res t,r=(Z res,t)/\Res lt a.toList b.toList res.toList))
      (LK (λj r st'=>st'=Iu/\∃Ie Ig B ac bc,r=(Y,Ie,Ig,B,ac,bc)/\MH lt a.toList b.toList B.toList Ie Ig/\0<Ie/\1<Ig/\Ie<a.size/\Ig<=b.size/\i+1+j<=B.size) ?_ ?_ ⟨rfl,_,_,_,_,_,rfl,m,IN,J2,Jl,Jm,∅⟩) ?_)
     ·rintro j r I8 _ hj ⟨rfl,Ie,Ig,B,ac,bc,rfl,m2,h1,h2,Im,Ip,h3⟩
      try dsimp only
      obtain⟨y,hy,Iv,Iz⟩:=aD (a:=b) (i:=Ig-1) ∅
      obtain⟨x,hx,Jd,J6⟩:=aD (a:=a) (i:=Ie-1) ∅
      refine Kk (aE hy (Kk (aE hx (Kk (jQ c (sm.kind.trans hk) (IU _ Iz) (IT _ J6) ?_)))))
      try dsimp only
      refine ag (λhl=>?_) (λhl=>?_)
      ·skip
       refine Kk (aE hx ?_)
       try dsimp only
       have m3:=m2.pushA c h1 ∅ Jd Iv (c.asym _ _ hl)
       refine ag (λh=>?_) (λh=>?_)
       ·skip
        have h:Ie-1=0:=by simpa using h
        exact ab ⟨rfl,.inr ⟨_,_,rfl,by have r:=m3.fin (.inl h);simpa only[Kw,KG,Lq,Lf,be]using r⟩⟩
       ·skip
        have h:Ie-1≠0:=by simpa using h
        refine ag (λ_=>?_) (λ_=>?_)
        ·exact ab ⟨rfl,.inl ⟨_,_,_,_,_,rfl,by simpa only[Kw,KG,Lq,Lf,be]using m3,∅,h2,∅,Ip,by simp;lia⟩⟩
        ·exact ab ⟨rfl,_,_,_,_,_,rfl,by simpa only[Kw,KG,Lq,Lf,be]using m3,∅,h2,∅,Ip,by simp;lia⟩
      ·skip
       refine Kk (aE hy ?_)
       try dsimp only
       have m3:=m2.pushB c h1 ∅ Jd Iv (by simpa using hl)
       refine ag (λh=>?_) (λh=>?_)
       ·skip
        have h:Ig-1=1:=by simpa using h
        exact ab ⟨rfl,.inr ⟨_,_,rfl,by have r:=m3.finB (by rw[h];exact Iq);simpa only[Kw,KG,Lq,Lf,be]using r⟩⟩
       ·skip
        have h:Ig-1≠1:=by simpa using h
        refine ag (λ_=>?_) (λ_=>?_)
        ·exact ab ⟨rfl,.inl ⟨_,_,_,_,_,rfl,by simpa only[Kw,KG,Lq,Lf,be]using m3,h1,∅,Im,∅,by simp;lia⟩⟩
        ·exact ab ⟨rfl,_,_,_,_,_,rfl,by simpa only[Kw,KG,Lq,Lf,be]using m3,h1,∅,Im,∅,by simp;lia⟩
     ·rintro r I8 ⟨rfl,Ie,Ig,B,ac,bc,rfl,m2,h1,h2,Im,Ip,h3⟩;exact⟨rfl,.inl ⟨_,_,_,_,_,rfl,m2,h1,h2,Im,Ip,∅⟩⟩
     ·rintro r I8 ⟨rfl,⟨Ie,Ig,B,ac,bc,rfl,m2,h1,h2,Im,Ip,h3⟩|⟨res,t,rfl,J⟩⟩
      ·try dsimp -zeta -zetaHave -zetaUnused only
       refine Kk (cJ ?_);refine Kk (aF (Q:=λr st'=>Same st st'/\((∃I9 U F Ik ac bc,r=(Y,I9,U,F,Ik,ac,bc)/\MH lt a.toList b.toList F.toList I9 U/\0<I9/\1<U/\I9<a.size/\U<=b.size/\i+2<=F.size)∨∃res t,r=(Z res,t)/\Res lt a.toList b.toList res.toList))
        (LK (λj r st'=>Same st st'/\∃I9 U F Ik ac bc,r=(Y,I9,U,F,Ik,ac,bc)/\MH lt a.toList b.toList F.toList I9 U/\0<I9/\1<U/\I9<a.size/\U<=b.size/\i+2<=F.size) ?_ ?_ ⟨sm,_,_,_,_,_,_,rfl,m2,h1,h2,Im,Ip,h3⟩) ?_)
       ·rintro j r HY _ hj ⟨Il,I9,U,F,Ik,Je,Jf,rfl,m3,h1,h2,Im,Ip,h5⟩;obtain⟨y,hy,Iv,Iz⟩:=aD (a:=b) (i:=U-1) ∅
        refine zM λQQ hQ=>?_;have G:∀(st':LM) (res:Array Ko) t,Same st st'->Res lt a.toList b.toList res.toList->QQ (.done (Z res,t)) st':=λst' res t hs hr=>hQ _ _ ⟨hs,.inr ⟨_,_,rfl,hr⟩⟩;have JE:∀(st':LM) (out:Array Ko) na nb mg ac bc,Same st st'->MH lt a.toList b.toList out.toList na nb->0<na->1<nb->na<a.size->nb<=b.size->i+2<=out.size->QQ (.done (Y,na,nb,out,mg,ac,bc)) st'/\QQ (.yield (Y,na,nb,out,mg,ac,bc)) st':=λst' out ia ib mg ac bc hs p1 p2 p3 p4 p5 p6=>⟨hQ _ _ ⟨hs,.inl ⟨_,_,_,_,_,_,rfl,p1,p2,p3,p4,p5,p6⟩⟩,hQ _ _ ⟨hs,_,_,_,_,_,_,rfl,p1,p2,p3,p4,p5,p6⟩⟩;clear hQ hj
        extract_lets -underBinder s0 vna s1 vnb s2 vout s3 vmg s4 vac vbc jp vmx
        have Jg:∀mg,wpS (KN prog w) A E s (jp () mg) QQ HY:=by
         intro mg;dsimp -zeta -zetaHave -zetaUnused only[jp,s0,vna,s1,vnb,s2,vout,s3,vmg,s4,vac,vbc];clear vmx jp vbc vac s4 vmg s3 vout s2 vnb s1 vna s0;refine Kk (N8 ?_);refine vJ (P:=Same st) (Il.trans ⟨rfl,rfl,rfl,rfl⟩) λIW Ib=>?_;have Jh:=Ib.kind.trans hk;refine Kk (aE hy ?_);refine Kk (hg N3 y a [] (a.toList.take I9) (a.toList.drop I9) _ _ _ _ _ Jh (IU _ Iz) (by simp) rfl (fI ∅) (λx hx=>IT x (NW hx)) ∅ ((Kh.mp m3.pa).1) λX pv e hX hY=>?_)
         dsimp -zeta -zetaHave -zetaUnused only;have m4:=m3.galA c e ∅ Iv λx hx=>c.asym _ _ (vK (hY x hx))
         have Ic:0<X.length->∀x4,a.toList[X.length-1]?=Z x4->lt y x4=N3:=λh0 x4 IB=>zN (hX x4 (pj e h0 IB));have IX:=mw e ∅
         extract_lets -underBinder +onlyGivenNames vk vac IC
         clear_value vac
         have II:∀(Ix:Nat) (O:Array Ko),MH lt a.toList b.toList O.toList Ix U->(∀x4,a.toList[Ix-1]?=Z x4->lt y x4=N3)->0<Ix->Ix<a.size->i+2<=O.size->wpS (KN prog w) A E s (IC () Ix O) QQ IW:=by
          intro Ix O JF ID Jn K7 Ji;dsimp -zeta -zetaHave -zetaUnused only[IC];clear IC vk IX Ic m4 hX hY;obtain⟨x4,IB,Ih,Jj⟩:=aD (a:=a) (i:=Ix-1) ∅
          refine Kk (aE hy ?_);have m5:=JF.pushB c Jn ∅ Ih Iv (ID x4 Ih)
          rw[<-KG]at m5;have Ii:i+2<=(O.push y).size:=by rw[Qp];lia
          try dsimp -zeta -zetaHave -zetaUnused only
          extract_lets -underBinder +onlyGivenNames vo5
          dsimp -zeta -zetaHave -zetaUnused only[vo5];clear vo5
          revert m5 Ii
          generalize O.push y=out5;intro m5 Ii;refine ag (λh=>?_) (λh=>?_)
          ·exact ab (G _ _ _ Ib (m5.finR (by rw[NP h];exact Iq)))
          ·have h:U-1≠1:=by simpa using h
           refine Kk (aE IB ?_);refine Kk (hg F2 x4 b [] (b.toList.take (U-1)) (b.toList.drop (U-1)) _ _ _ _ _ Jh (IT _ Jj) (by simp) rfl (fI ∅) (λx hx=>IU x (NW hx)) ∅ ((Kh.mp m5.pb).1) λX2 Y2 e2 IO IP=>?_)
           dsimp -zeta -zetaHave -zetaUnused only;have m6:=m5.galB c e2 Jn Ih λx hx=>vL (IP x hx);have Id:0<X2.length->∀y6,b.toList[X2.length-1]?=Z y6->lt x4 y6=N3:=λh0 y6 Jk=>c.asym _ _ (zO (IO y6 (pj e2 h0 Jk)));have IY:=mw e2 ∅
           extract_lets -underBinder +onlyGivenNames vk vbc IE
           clear_value vbc
           have IJ:∀(IM:Nat) (I0:Array Ko),MH lt a.toList b.toList I0.toList Ix IM->(∀y6,b.toList[IM-1]?=Z y6->lt x4 y6=N3)->1<IM->IM<=b.size->i+2<=I0.size->wpS (KN prog w) A E s (IE () IM I0) QQ IW:=by
            intro IM I0 JG IF JT JH JR;dsimp -zeta -zetaHave -zetaUnused only[IE];clear IE vk IY Id m6 IO IP m5 Ii Ji h5 h1 h2 Im Ip hsz IN J2 Jl Jm h3;obtain⟨y6,Jk,IK,JS⟩:=aD (a:=b) (i:=IM-1) ∅
            refine Kk (aE IB ?_);have m7:=JG.pushA c Jn ∅ Ih IK (IF y6 IK)
            rw[<-KG]at m7;dsimp only;refine ag (λh=>?_) (λh=>?_)
            ·exact ab (G _ _ _ Ib (m7.finL (.inl (NP h))))
            ·have h:Ix-1≠0:=by simpa using h
             have:=λmg ac bc=>JE IW (I0.push x4) (Ix-1) IM mg ac bc Ib m7 ∅ JT ∅ JH (by rw[Qp];lia)
             exact ag (λ_=>ab (this _ _ _).1) (λ_=>ab (this _ _ _).2)
           clear_value IE
           refine ag (λh0=>?_) (λh0=>?_)
           ·dsimp only;have m6:=m6.cut (a:=b) e2;refine ag (λh=>?_) (λh=>?_)
            ·exact ab (G _ _ _ Ib (m6.finR (by rw[NP h];exact Iq)))
            ·have h:X2.length≠1:=by simpa using h
             refine ag (λh9=>?_) (λh9=>?_)
             ·exact ab (G _ _ _ Ib (m6.finL (.inr (NP h9))))
             ·have h9:X2.length≠0:=by simpa using h9
              exact IJ _ _ m6 (Id ∅) ∅ ∅ (by rw[OJ];lia)
           ·have h0:¬(U-1-X2.length > 0):=h0;have hl:X2.length=U-1:=by lia
            have J8:0<X2.length:=∅
            have hr:=Id J8;rw[hl]at hr;exact IJ _ _ m5 hr ∅ ∅ Ii
         clear_value IC
         refine ag (λh0=>?_) (λh0=>?_)
         ·dsimp only;have m4:=m4.cut (a:=a) e;refine ag (λh=>?_) (λh=>?_)
          ·exact ab (G _ _ _ Ib (m4.finL (.inl (NP h))))
          ·have h:X.length≠0:=by simpa using h
           exact II _ _ m4 (Ic ∅) ∅ ∅ (by rw[OJ];lia)
         ·have h0:¬(I9-X.length > 0):=h0;have hl:X.length=I9:=by lia
          have hr:=Ic ∅
          rw[hl]at hr;exact II _ _ m3 hr h1 Im h5
        clear_value jp
        exact ag (λ_=>Jg _) (λ_=>Jg _)
       ·rintro r HY ⟨Il,I9,U,F,Ik,Je,Jf,rfl,m3,h1,h2,Im,Ip,h5⟩;exact⟨Il,.inl ⟨_,_,_,_,_,_,rfl,m3,h1,h2,Im,Ip,h5⟩⟩
       ·rintro r HY ⟨Il,⟨I9,U,F,Ik,Je,Jf,rfl,m3,h1,h2,Im,Ip,h5⟩|⟨res,t,rfl,J⟩⟩
        ·try dsimp -zeta -zetaHave -zetaUnused only
         refine Kk (N8 ?_);exact ab ⟨Il.trans ⟨rfl,rfl,rfl,rfl⟩,_,_,_,_,rfl,m3,h1,h2,Im,Ip,∅⟩
        ·exact ab ⟨Il,_,_,rfl,J⟩
      ·exact ab ⟨sm,_,_,rfl,J⟩
    ·rintro r Iu ⟨sm,na,nb,out,mg,rfl,m,IN,J2,Jl,Jm,hsz⟩;have:=m.size (by simp;lia) (by simp;lia)
     simp at this;lia
    ·rintro r Iu ⟨sm,res,t,rfl,J⟩;exact ab (q res Iu J.1 J.2 sm)
end
end Srt
namespace Srt
variable{st:LM}{L R xs:List Ko}{i j n:Nat}{x:Ko}
section
variable{prog:KW}{w:Lo}{A:Lr}{E:hH->p7->Prop}{s:p7}{kd:P9}{P:Ko->Prop}{lt:Ko->Ko->Bool}
structure Kp(st st':LM):Prop where
 kind:Mw st'=Mw st
 pend:KJ st'=KJ st
 fail:Nt st'=Nt st
theorem Kp.refl:Kp st st:=⟨rfl,rfl,rfl⟩
theorem Kp.trans{a b c:LM}(h:Kp a b)(g:Kp b c):Kp a c:=⟨g.kind.trans h.kind,g.pend.trans h.pend,g.fail.trans h.fail⟩
theorem qN{a:Array Ko}{B:List Ko}(e:a.toList=L++(B++R))(hi:i=L.length)(q:j=L.length+B.length):(mirror a i j ((j-i) / 2)).toList=L++(B.reverse++R):=by
 have hs:a.size=L.length+(B.length+R.length):=by rw[<-L6,e];simp
 apply MX;intro k;rw[KS,getElem?_mirror_all ∅]
 have g:∀n:Nat,a[n]?=(L++(B++R))[n]?:=λn=>by rw[<-KS,e]
 rw[g,g]
 by_cases h1:k<L.length
 ·rw[if_neg ∅,KA h1,KA h1]
 ·by_cases h2:k<j
  ·rw[if_pos ∅,J4 ∅,KA ∅,J4 ∅,KA (by simp;lia),List.getElem?_reverse ∅]
   congr 1;lia
  ·rw[if_neg ∅,J4 ∅,J4 ∅,J4 ∅,J4 (by simp;lia)]
   simp
theorem qO{a:Array Ko}{j q:List Ko}(e:a.toList=L++((j++q)++x::R)){src d:Nat}(hi:src=L.length+(j.length+q.length))(hd:d=q.length):(bubble a src d).toList=L++((j++x::q)++R):=by
 have hs:a.size=L.length+(j.length+q.length+(R.length+1)):=by rw[<-L6,e];simp;lia
 apply MX;intro k;rw[KS,getElem?_bubble ∅ d ∅]
 have g:∀n:Nat,a[n]?=(L++((j++q)++x::R))[n]?:=λn=>by rw[<-KS,e]
 rw[g,g,g]
 by_cases h1:k<L.length
 ·rw[if_neg ∅,if_neg ∅,KA h1,KA h1]
 ·by_cases h2:k<L.length+j.length
  ·rw[if_neg ∅,if_neg ∅,J4 ∅,KA (by simp;lia),KA ∅,J4 ∅,KA (by simp;lia),KA ∅]
  ·by_cases h3:k=L.length+j.length
   ·rw[if_pos ∅,J4 ∅,J4 (by simp;lia),J4 ∅,KA (by simp;lia),J4 ∅]
    have e1:src-L.length-(j++q).length=0:=by simp;lia
    have e2:k-L.length-j.length=0:=∅
    rw[e1,e2];rfl
   ·by_cases h4:k<=src
    ·rw[if_neg ∅,if_pos ∅,J4 ∅,KA (by simp;lia),J4 ∅,J4 ∅,KA (by simp;lia),J4 ∅]
     have e2:k-L.length-j.length=(k-1-L.length-j.length)+1:=∅
     rw[e2,Oe]
    ·rw[if_neg ∅,if_neg ∅,J4 ∅,J4 (by simp;lia),J4 ∅,J4 (by simp;lia)]
     have e2:k-L.length-(j++q).length=(k-L.length-(j++x::q).length)+1:=by simp;lia
     rw[e2,Oe]
theorem dF(c:Cm prog w A s kd P lt){y:Ko}{Q:Option Bool->LM->Prop}(z:Mw st=kd)(hx:(Lu st)[i]?=Z x)(B:(Lu st)[j]?=Z y)(px:P x)(py:P y)(q:Q (Z (lt x y)) st):wpS (KN prog w) A E s (ltAt' i j) Q st:=by rw[ltAt'_eq];exact Kk (Pc (Kk (aE hx (Kk (aE B (jQ c z px py q))))))
theorem jR{Q:Unit->LM->Prop}{B:List Ko}(e:(Lu st).toList=L++(B++R))(hi:i=L.length)(z:j=L.length+B.length)(q:∀st',(Lu st').toList=L++(B.reverse++R)->Kp st st'->Q () st'):wpS (KN prog w) A E s (reverseSlice' i j) Q st:=by rw[reverseSlice'_eq];exact N8 (q _ (qN e hi z) ⟨rfl,rfl,rfl⟩)
theorem cg(e:(Lu st).toList=L++xs)(hi:i=L.length+n):(Lu st)[i]?=xs[n]?:=by
 rw[<-KS,e,hi,J4 ∅]
 congr 1;lia
theorem pB(c:Cm prog w A s kd P lt){y:Ko}(h:Ord lt (xs.take n))(q:0<n)(hx:xs[n]?=Z x)(B:xs[n-1]?=Z y)(hl:lt x y=N3):Ord lt (xs.take (n+1)):=by
 rw[TR,hx];refine Kh.mpr ⟨h,by simp,λz F u j=>?_⟩
 simp at j;subst j;exact i7 c h q B hl z F
noncomputable abbrev cS(lt:Ko->Ko->Bool)(l:List Ko):Prop:=l.Pairwise λx y=>lt x y=N3
theorem iU(c:Cm prog w A s kd P lt){D:List Ko}{e:Ko}(h:cS lt (D++[e]))(hx:lt e x=N3):cS lt (D++[e]++[x]):=by
 refine Kh.mpr ⟨h,by simp,λz B u j=>?_⟩
 simp at j;subst j;obtain⟨_,_,F⟩:=Kh.mp h
 rcases Kz.mp B with g|g
 ·cases q:lt z u with
  |false=>rfl
  | true=>rcases c.neg z e u q with r|r
          ·rw[F z g e (by simp)]at r;cases r
          ·rw[hx]at r;cases r
 ·simp at g;subst g;exact hx
theorem rA{q F:List Ko}(h:cS lt (q++F))(he:∀x∈F,∀y∈F,lt x y=N3):cS lt (q++F.reverse):=by obtain⟨h1,h2,z⟩:=Kh.mp h;refine Kh.mpr ⟨h1,?_,λx hx y j=>z x hx y (OW.mp j)⟩;rw[Sn];exact h2.imp_of_mem λhx j _=>he _ j _ hx
theorem perm_take:(xs.take n++xs.drop n).Perm xs:=by rw[N4]
theorem qP(c:Cm prog w A s kd P lt){Q:Option Nat->LM->Prop}(hk:Mw st=kd)(O:(Lu st).toList=L++xs)(h0:xs≠[])(hP:∀x∈xs,P x)(q:∀r R st',(Lu st').toList=L++(r++R)->(r++R).Perm xs->r≠[]->Ord lt r->Kp st st'->Q (Z r.length) st'):wpS (KN prog w) A E s (countRun' L.length xs.length) Q st:=by
 have Iw:0<xs.length:=LB.mpr h0;rw[countRun'_eq]
 try dsimp -zeta -zetaHave -zetaUnused only
 refine Kk (aF (Q:=λr st'=>st'=st/\∃n,r=(Y,n)/\1<=n/\n<=xs.length/\Ord lt (xs.take n)/\(n=xs.length∨∃x y,xs[n]?=Z x/\xs[n-1]?=Z y/\lt x y=F2))
  (LK (fun i r st'=>st'=st/\r=(Y,i)/\Ord lt (xs.take i)) ?_ ?_ ⟨rfl,rfl,by
   cases xs with
   |nil=>exact absurd rfl h0
   |cons x t=>simp⟩) ?_)
 ·rintro i r st' h1 hi ⟨rfl,rfl,ho⟩;dsimp only;obtain⟨x,hx⟩:∃x,xs[i]?=Z x:=⟨_,I7 hi⟩;obtain⟨y,hy⟩:∃y,xs[i-1]?=Z y:=⟨_,I7 ∅⟩
  refine Kk (dF c hk ((cg O rfl).trans hx) ((cg O ∅).trans hy) (hP _ (KU hx)) (hP _ (KU hy)) ?_)
  dsimp only;refine ag (λh=>?_) (λh=>?_)
  ·exact ab ⟨rfl,i,rfl,h1,∅,ho,.inr ⟨x,y,hx,hy,h⟩⟩
  ·exact ab ⟨rfl,rfl,pB c ho ∅ hx hy (by simpa using h)⟩
 ·rintro r st' ⟨rfl,rfl,ho⟩;exact⟨rfl,_,rfl,∅,∅,ho,.inl ∅⟩
 ·rintro r st' ⟨rfl,n,rfl,IU,Ix,ho,hc⟩;dsimp -zeta -zetaHave -zetaUnused only;have Ih:Q (Z n) st':=by
   have:=q (xs.take n) (xs.drop n) st' (by rw[O,N4]) perm_take (λz=>by have h3:=congrArg Q9 z;rw[L3,Mb]at h3;lia) ho Kp.refl
   rw[L3,Nm Ix]at this;exact this
  extract_lets -underBinder +onlyGivenNames vr vn
  dsimp -zeta -zetaHave -zetaUnused only[vr];clear vr;have en:n=vn:=rfl
  clear_value vn
  subst en;refine ag (λh=>ab Ih) (λh=>?_);have II:n≠xs.length:=by simpa using h
  obtain⟨x,y,hx,hy,IJ⟩:=hc.resolve_left II;have IV:n<xs.length:=∅
  have exs:xs=xs.take n++x::xs.drop (n+1):=by have h1:=(N4 n xs).symm;rw[dU hx]at h1;exact h1
  have Iy:y∈xs.take n:=by rw[cK ∅ hy];simp
  extract_lets -underBinder +onlyGivenNames jp
  have Iz:∀(B:List Ko) (HZ:LM),(Lu HZ).toList=L++(B++x::xs.drop (n+1))->B.Perm (xs.take n)->B.length=n->(∀u∈B,∀v∈B,lt u v=N3)->y∈B->Kp st' HZ->wpS (KN prog w) A E s (jp ()) Q HZ:=by
   intro B HZ e1 hB I0 I8 I9 Ia;dsimp -zeta -zetaHave -zetaUnused only[jp];clear jp;refine Kk (cJ ?_)
   try dsimp -zeta -zetaHave -zetaUnused only
   extract_lets -underBinder +onlyGivenNames vn1 vq1
   have IK:vn1=n+1:=rfl;have eq1:vq1=0:=rfl
   clear_value vn1 vq1
   subst IK eq1;refine Kk (aF (Q:=λr U=>∃G F R neq,Kp st' U/\(Lu U).toList=L++((G++F)++R)/\((G++F)++R).Perm xs/\r=(Y,(G++F).length,neq)/\F.length=neq+1/\cS lt (G++F)/\(∀u∈F,∀v∈F,lt u v=N3))
    (LK (λi r U=>∃G F R neq,Kp st' U/\(Lu U).toList=L++((G++F)++R)/\((G++F)++R).Perm xs/\r=(Y,(G++F).length,neq)/\F.length=neq+1/\cS lt (G++F)/\(∀u∈F,∀v∈F,lt u v=N3)/\(G++F).length=i) ?_ ?_ ?_) ?_)
   ·rintro i r U IW hi ⟨G,F,R,neq,kp,ea,hp,rfl,hF,hN,hE,IA⟩;subst IA;have hlen:=hp.length_eq;rw[D2]at hlen;obtain⟨z,R',rfl⟩:∃z R',R=z::R':=by
     cases R with
     |nil=>simp at hlen;simp at hi;lia
     |cons z R'=>exact⟨z,R',rfl⟩
    have IM:F≠[]:=λz=>by rw[z]at hF;simp at hF
    obtain⟨F0,e,rfl⟩:∃F0 e,F=F0++[e]:=⟨F.dropLast,F.getLast IM,(Np _).symm⟩;have hz:(Lu U)[L.length+(G++(F0++[e])).length]?=Z z:=by rw[cg ea rfl,J4 ∅,Qy];rfl
    have he:(Lu U)[L.length+(G++(F0++[e])).length-1]?=Z e:=by rw[cg ea (n:=(G++F0).length) (by simp<;>lia),KA (by simp<;>lia),<-KD,J4 ∅,Qy];rfl
    have IB:P z:=hP z (hp.mem_iff.mp (by simp))
    have IC:P e:=hP e (hp.mem_iff.mp (by simp))
    dsimp only;refine Kk (dF c (kp.kind.trans hk) hz he IB IC ?_);dsimp only;have Il:cS lt (G++F0++[e]):=by rw[KD];exact hN
    refine ag (λIm=>?_) (λIm=>?_)
    ·have Ib:lt e z=N3:=c.asym _ _ Im;refine ag (λIc=>?_) (λIc=>?_)
     ·refine Kk (jR (L:=L++G) (B:=F0++[e]) (R:=z::R') (by rw[ea];simp) (by simp only[D2]at hF⊢;simp only[LJ]at hF⊢;lia) (by simp<;>lia) λfv e3 pv=>?_)
      refine ab ⟨G++(F0++[e]).reverse,[z],R',0,kp.trans pv,by rw[e3];simp,?_,by simp<;>lia,rfl,?_,?_,by simp<;>lia⟩
      ·refine NH.trans ?_ hp;rw[KD,KD,KD];exact Lv _ (LU _ (PH _))
      ·have h1:=rA hN hE;refine Kh.mpr ⟨h1,by simp,λu j v J=>?_⟩
       simp at J;subst J;have hm:=iU c Il Ib;refine(Kh.mp hm).2.2 u ?_ v (by simp)
       rw[KD]
       rcases Kz.mp j with g|g
       ·exact Lz _ g
       ·exact KR _ (OW.mp g)
      ·intro u j v J;simp at j J;subst j J;exact c.irr
     ·refine ab ⟨G++(F0++[e]),[z],R',0,kp,by rw[ea];simp,by simpa using hp,by simp<;>lia,rfl,?_,?_,by simp<;>lia⟩
      ·have hm:=iU c Il Ib;simpa using hm
      ·intro u j v J;simp at j J;subst j J;exact c.irr
    ·have IN:lt z e=N3:=by simpa using Im
     refine Kk (dF c (kp.kind.trans hk) he hz IC IB ?_);dsimp only;refine ag (λID=>?_) (λID=>?_)
     ·exact ab ⟨G,F0++[e],z::R',neq,kp,ea,hp,rfl,hF,hN,hE⟩
     ·have Ib:lt e z=N3:=by simpa using ID
      refine ab ⟨G,(F0++[e])++[z],R',neq+1,kp,by rw[ea];simp,by simpa using hp,by simp<;>lia,by simp at hF⊢;lia,?_,?_,by simp<;>lia⟩
      ·have hm:=iU c Il Ib;simpa using hm
      ·have IO:∀u∈F0++[e],lt u z=N3:=fun u j=>by
        cases q1:lt u z with
        |false=>rfl
        | true=>rcases c.neg u e z q1 with r|r
                ·rw[hE u j e (by simp)]at r;cases r
                ·rw[Ib]at r;cases r
       have IP:∀u∈F0++[e],lt z u=N3:=λu j=>by
        cases q1:lt z u with
        |false=>rfl
        | true=>rcases c.neg z e u q1 with r|r
                ·rw[IN]at r;cases r
                ·rw[hE e (by simp) u j]at r;cases r
       intro u j v J
       rcases Kz.mp j with g|g<;>rcases Kz.mp J with g2|g2
       ·exact hE u g v g2
       ·simp at g2;subst g2;exact IO u g
       ·simp at g;subst g;exact IP v g2
       ·simp at g g2;subst g g2;exact c.irr
   ·rintro r U ⟨G,F,R,neq,kp,ea,hp,hr,hF,hN,hE,IA⟩;exact⟨G,F,R,neq,kp,ea,hp,hr,hF,hN,hE⟩
   ·refine⟨B,[x],xs.drop (n+1),0,Ia,by rw[e1];simp,?_,by simp[I0],rfl,?_,?_,by simp[I0]⟩
    ·have h9:(B++x::xs.drop (n+1)).Perm xs:=by
      have h9:=LU (x::xs.drop (n+1)) hB;rw[<-exs]at h9;exact h9
     simpa using h9
    ·refine Kh.mpr ⟨List.Pairwise.imp_of_mem (λj J _=>I8 _ j _ J) (List.pairwise_of_forall_mem_list (r:=λ_ _=>True) λ_ _ _ _=>trivial),by simp,λu j v J=>?_⟩
     simp at J;subst J
     cases q1:lt u v with
     |false=>rfl
     | true=>rcases c.neg u y v q1 with r|r
             ·rw[I8 u j y I9]at r;cases r
             ·rw[c.asym _ _ IJ]at r;cases r
    ·intro u j v J;simp at j J;subst j J;exact c.irr
   ·rintro r U ⟨G,F,R,neq,kp,ea,hp,rfl,hF,hN,hE⟩;dsimp -zeta -zetaHave -zetaUnused only
    extract_lets -underBinder +onlyGivenNames vr vs vn2 vq2
    dsimp -zeta -zetaHave -zetaUnused only[vr];have IQ:vn2=(G++F).length:=rfl;have eq2:neq=vq2:=rfl
    clear_value vn2 vq2
    clear vs vr;subst IQ eq2
    extract_lets -underBinder +onlyGivenNames Id
    have Ii:∀(D:List Ko) (fv:LM),(Lu fv).toList=L++(D++R)->cS lt D->(D++R).Perm xs->D.length=(G++F).length->0<D.length->Kp st' fv->wpS (KN prog w) A E s (Id ()) Q fv:=by
     intro D fv e3 Io Ip Ie Ij pv;dsimp -zeta -zetaHave -zetaUnused only[Id];clear Id;have IR:0<D.length:=∅
     refine Kk (jR (L:=L) (B:=D) (R:=R) e3 rfl (by rw[Ie]) λIE e4 IF=>?_)
     have o4:Ord lt D.reverse:=Sn.mpr Io;have Ig:(D.reverse++R).Perm xs:=(LU _ (PH D)).trans Ip;have IG:(D.reverse++R).length=xs.length:=Ig.length_eq;have Iq:Ord lt ((D.reverse++R).take D.length):=by rw[List.take_append_of_le_length (by simp),Ny (by simp)];exact o4
     have Ir:∀u∈D.reverse++R,P u:=λu j=>hP u (Ig.mem_iff.mp j);have IS:D.length<=xs.length:=by rw[<-IG];simp
     rw[<-Ie];generalize D.length=N0 at Iq IR IS;generalize D.reverse++R=ys at e4 Ig IG Iq Ir;refine Kk (aF (Q:=λr HY=>HY=IE/\∃n,r=(Y,n)/\1<=n/\n<=xs.length/\Ord lt (ys.take n))
      (LK (λi r HY=>HY=IE/\r=(Y,i)/\Ord lt (ys.take i)) ?_ ?_ ⟨rfl,rfl,Iq⟩) ?_)
     ·rintro i r HY h1 hi ⟨rfl,rfl,ho⟩;dsimp only;obtain⟨u,j⟩:∃u,ys[i]?=Z u:=⟨_,I7 ∅⟩
      obtain⟨v,J⟩:∃v,ys[i-1]?=Z v:=⟨_,I7 ∅⟩
      refine Kk (dF c ((pv.trans IF).kind.trans hk) ((cg e4 rfl).trans j) ((cg e4 ∅).trans J) (Ir _ (KU j)) (Ir _ (KU J)) ?_)
      dsimp only;refine ag (λh=>?_) (λh=>?_)
      ·exact ab ⟨rfl,i,rfl,∅,∅,ho⟩
      ·exact ab ⟨rfl,rfl,pB c ho ∅ j J (by simpa using h)⟩
     ·rintro r HY ⟨rfl,rfl,ho⟩;exact⟨rfl,_,rfl,∅,∅,ho⟩
     ·rintro r HY ⟨rfl,m,rfl,IX,IY,ho⟩;refine ab ?_;have:=q (ys.take m) (ys.drop m) HY (by rw[e4,N4]) (perm_take.trans Ig) (fun z=>by
       have h3:=congrArg Q9 z;rw[L3,Mb]at h3;lia) ho (pv.trans IF)
      rw[L3,Nm ∅]at this
      exact this
    clear_value Id
    refine ag (λIc=>?_) (λIc=>?_)
    ·refine Kk (jR (L:=L++G) (B:=F) (R:=R) (by rw[ea];simp) (by simp<;>lia) (by simp<;>lia) λfv e3 pv=>?_)
     have pv:=kp.trans pv;have e3:(Lu fv).toList=L++((G++F.reverse)++R):=by rw[e3];simp
     have Io:=rA hN hE;have Ip:((G++F.reverse)++R).Perm xs:=(LU _ (Lv _ (PH _))).trans hp;have Ie:(G++F.reverse).length=(G++F).length:=by simp
     have Ij:0<(G++F.reverse).length:=by simp<;>lia
     exact Ii _ _ e3 Io Ip Ie Ij pv
    ·exact Ii _ _ ea hN hp rfl (by simp<;>lia) kp
  clear_value jp
  refine ag (λh1=>?_) (λh1=>?_)
  ·obtain⟨x0,Iu⟩:∃x0,xs[0]?=Z x0:=⟨_,I7 Iw⟩;refine Kk (dF c hk ((cg O (n:=0) ∅).trans Iu) ((cg O ∅).trans hy) (hP _ (KU Iu)) (hP _ (KU hy)) ?_)
   dsimp only;refine ag (λhr=>ab Ih) (λhr=>?_);have hr:lt x0 y=N3:=by simpa using hr
   have IH:∀u∈xs.take n,lt u x0=N3:=λu j=>by
    obtain⟨i,hi,eu⟩:=MQ.mp j;have Iv:(xs.take n)[i]?=Z u:=by rw[<-eu];exact I7 hi
    have Ik:(xs.take n)[0]?=Z x0:=by rw[P5 ∅];exact Iu
    by_cases hi0:i=0
    ·subst hi0;rw[Ik]at Iv;cases Iv;exact c.irr
    ·exact eZ ho ∅ Ik Iv
   have IT:∀u∈xs.take n,lt y u=N3:=i7 c ho ∅ hy c.irr
   have heq:∀u∈xs.take n,∀v∈xs.take n,lt u v=N3:=λu j v J=>by exact c.le_trans (c.le_trans (IT v J) hr) (IH u j)
   refine Kk (jR (L:=L) (B:=xs.take n) (R:=x::xs.drop (n+1)) (by rw[O];exact congrArg (L ++ ·) exs) rfl (by rw[L3,Nm Ix]) λHZ e1 Ia=>?_)
   have hB:(xs.take n).reverse.Perm (xs.take n):=PH _;have I0:(xs.take n).reverse.length=n:=by rw[SX,L3];lia
   have I8:∀u∈(xs.take n).reverse,∀v∈(xs.take n).reverse,lt u v=N3:=λu j v J=>heq u (OW.mp j) v (OW.mp J);have I9:y∈(xs.take n).reverse:=OW.mpr Iy;exact Iz _ _ e1 hB I0 I8 I9 Ia
  ·have HZ:=st';have hn:n=1:=by lia
   have Ia:Kp st' st':=Kp.refl;have e1:(Lu st').toList=L++(xs.take n++x::xs.drop (n+1)):=by rw[O];exact congrArg (L ++ ·) exs
   have hB:(xs.take n).Perm (xs.take n):=SH _;have I0:(xs.take n).length=n:=by rw[L3];lia
   have I9:=Iy;have I8:∀u∈xs.take n,∀v∈xs.take n,lt u v=N3:=λu j v J=>by
    have e0:xs.take n=[y]:=by subst hn;rw[cK ∅ hy];rfl
    rw[e0]at j J;simp at j J;subst j J;exact c.irr
   exact Iz _ _ e1 hB I0 I8 I9 Ia
end
end Srt
namespace Srt
variable{R:List Ko}{st:LM}
section
variable{prog:KW}{w:Lo}{A:Lr}{E:hH->p7->Prop}{s:p7}{kd:P9}{P:Ko->Prop}{lt:Ko->Ko->Bool}
theorem vM(c:Cm prog w A s kd P lt){L r:List Ko}{n:Nat}{Q:Bool->LM->Prop}(hk:Mw st=kd)(fv:(Lu st).toList=L++(r++R))(h0:r≠[])(ho:Ord lt r)(hn:r.length<=n)(HY:n<=(r++R).length)(hP:∀x∈r++R,P x)(q:∀r' R' st',(Lu st').toList=L++(r'++R')->(r'++R').Perm (r++R)->r'.length=n->Ord lt r'->Kp st st'->Q F2 st'):wpS (KN prog w) A E s (binarySort' L.length n r.length) Q st:=by
 have Ib:0<r.length:=LB.mpr h0;rw[binarySort'_eq];refine Kk (aF (Q:=λx st'=>x=(Y,())/\∃D T,Kp st st'/\(Lu st').toList=L++(D++T)/\(D++T).Perm (r++R)/\D.length=n/\Ord lt D)
  (LK (λi x st'=>x=(Y,())/\∃D T,Kp st st'/\(Lu st').toList=L++(D++T)/\(D++T).Perm (r++R)/\D.length=i/\Ord lt D) ?_ ?_ ⟨rfl,r,R,Kp.refl,fv,SH _,∅,ho⟩) ?_)
 ·rintro k x B Ic Id ⟨rfl,D,T,kp,ea,J,hD,O⟩;dsimp only;subst hD;have hlen:=J.length_eq;rw[D2]at hlen;obtain⟨z,T',rfl⟩:∃z T',T=z::T':=by
   cases T with
   |nil=>simp at hlen HY;lia
   |cons z T'=>exact⟨z,T',rfl⟩
  have HZ:∀u∈D,P u:=λu G=>hP u (J.mem_iff.mp (Lz _ G));have I0:P z:=hP z (J.mem_iff.mp (by simp))
  have hz:(Lu B)[L.length+D.length]?=Z z:=by rw[cg ea rfl,J4 ∅,Qy];rfl
  refine Kk (aF (Q:=λx st'=>st'=B/\∃k,x=(Y,k,k)/\Gal lt N3 z D k k)
   (LK (fun i x st'=>st'=B/\∃lo hi,x=(Y,lo,hi)/\Gal lt N3 z D lo hi/\hi-lo+i<=D.length) ?_ ?_ ⟨rfl,0,D.length,rfl,⟨∅,∅,fun _ _ h=>∅,fun i x hi hx=>by have:=(KO.mp hx).1;lia⟩,∅⟩) ?_)
  ·rintro i x U _ hi ⟨rfl,lo,j,rfl,F,hm⟩;dsimp only;have hl:=F.le;have I8:=F.len;refine ag (λI9=>?_) (λI9=>?_)
   ·exact ab ⟨rfl,j,by rw[show lo=j by lia],by rw[show lo=j by lia]at F;exact F⟩
   ·obtain⟨u,G⟩:∃u,D[(lo+j) / 2]?=Z u:=⟨_,I7 ∅⟩
    have Ia:(Lu U)[L.length+(lo+j) / 2]?=Z u:=by rw[cg ea rfl,KA ∅];exact G
    refine Kk (dF c (kp.kind.trans hk) hz Ia I0 (HZ _ (KU G)) ?_);dsimp only;refine ag (λhf=>?_) (λhf=>?_)
    ·exact ab ⟨rfl,_,_,rfl,⟨∅,∅,F.up,i6 c O G (by simp[bey,hf])⟩,∅⟩
    ·exact ab ⟨rfl,_,_,rfl,⟨∅,I8,i5 c O G (by simpa[bey]using hf),F.dn⟩,∅⟩
  ·rintro x U ⟨rfl,lo,j,rfl,F,hm⟩;have hl:=F.le;exact⟨rfl,j,by rw[show lo=j by lia],by rw[show lo=j by lia]at F;exact F⟩
  ·rintro x U ⟨rfl,l,rfl,F⟩;dsimp only;obtain⟨X,pv,e,hl,hX,hY⟩:=F.out;subst hl e;rw[moveDown'_eq];refine Kk (N8 ?_);refine ab ⟨rfl,X++z::pv,T',kp.trans ⟨rfl,rfl,rfl⟩,qO ea (by simp) (by simp;lia),?_,by simp;lia,?_⟩
   ·refine NH.trans ?_ J;rw[KD,KD];refine Lv _ ?_;rw[OX];exact Uk.symm
   ·obtain⟨o1,o2,o3⟩:=Kh.mp O;refine Kh.mpr ⟨o1,Ph.mpr ⟨λu G=>c.asym _ _ (by have:=hY u G;simpa[bey]using this),o2⟩,λu G v hv=>?_⟩
    rcases Km.mp hv with g|g
    ·subst g;have:=hX u G;simpa[bey]using this
    ·exact o3 u G v g
 ·rintro x B ⟨rfl,D,T,kp,ea,J,hD,O⟩;exact⟨rfl,D,T,kp,ea,J,∅,O⟩
 ·rintro x B ⟨rfl,D,T,kp,ea,J,hD,O⟩;exact ab (q D T B ea J hD O kp)
noncomputable def Pd:Nat->List (List Ko)->List (Nat×Nat×Nat)->Prop
 |_,[],ps=>ps=[]
 |s,r::rs,ps=>∃p t,ps=(s,r.length,p)::t/\Pd (s+r.length) rs t
theorem Pd.split:∀{l t:List (List Ko)} {s:Nat} {ps:List (Nat×Nat×Nat)},Pd s (l++t) ps->∃pl pt,ps=pl++pt/\pl.length=l.length/\Pd s l pl/\Pd (s+l.flatten.length) t pt
 |[],t,s,ps,h=>⟨[],ps,rfl,rfl,rfl,by simpa using h⟩
 |r::l,t,s,ps,h=>by
  obtain⟨p,q,e,h⟩:=h;obtain⟨pl,pt,e2,hl,h1,h2⟩:=Pd.split h;refine⟨(s,r.length,p)::pl,pt,by rw[e,e2];rfl,by simp[hl],⟨p,pl,rfl,h1⟩,?_⟩
  rw[LS,D2,<-Rk];exact h2
theorem Pd.join:∀{l t:List (List Ko)} {s:Nat} {pl pt:List (Nat×Nat×Nat)},Pd s l pl->Pd (s+l.flatten.length) t pt->Pd s (l++t) (pl++pt)
 |[],t,s,pl,pt,h,g=>by have:pl=[]:=h;subst this;simpa using g
 |r::l,t,s,pl,pt,h,g=>by obtain⟨p,q,e,h⟩:=h;subst e;refine⟨p,q++pt,rfl,Pd.join h ?_⟩;rw[LS,D2,<-Rk]at g;exact g
theorem Pd.length:∀{l:List (List Ko)} {s:Nat} {ps:List (Nat×Nat×Nat)},Pd s l ps->ps.length=l.length
 |[],_,_,h=>by rw[show _=[]from h];rfl
 |r::l,s,ps,h=>by obtain⟨p,q,e,h⟩:=h;rw[e];simp[h.length]
structure Rn(lt:Ko->Ko->Bool)(kd:P9)(a₀:List Ko)(st:LM)(rs:List (List Ko))(R:List Ko):Prop where
 arr:(Lu st).toList=rs.flatten++R
 perm:(rs.flatten++R).Perm a₀
 ord:∀r∈rs,r≠[]/\Ord lt r
 pend:Pd 0 rs (KJ st).toList
 kind:Mw st=kd
 fail:Nt st=Y
theorem Rn.merge(c:Cm prog w A s kd P lt){a₀:List Ko}(hP:∀x∈a₀,P x){l t:List (List Ko)}{j F:List Ko}(h:Rn lt kd a₀ st (l++j::F::t) R){i:Nat}(hi:i=l.length){Q:Bool->LM->Prop}(q:∀m st',Rn lt kd a₀ st' (l++m::t) R->m.length=j.length+F.length->Q F2 st'):wpS (KN prog w) A E s (V6 i) Q st:=by
 obtain⟨g,lo,Ia,⟨O,U,pv⟩,fv⟩:=EB (E:=E) c;obtain⟨pl,pt,ep,J,HY,HZ⟩:=h.pend.split;obtain⟨L,t1,e1,I0⟩:=HZ;obtain⟨p2,t2,e2,I8⟩:=I0;subst e1 e2;have o1:=h.ord j (by simp)
 have o2:=h.ord F (by simp)
 have G:∀x,x∈j∨x∈F->P x:=λx hx=>hP x (h.perm.mem_iff.mp (by simp only[Nu,LS,Kz];rcases hx with z|z<;>simp[z]))
 have ip:∀(k:Nat) (v:Nat×Nat×Nat),(KJ st).toList[k]?=Z v->(KJ st)[k]?=Z v:=λk v e=>by rw[<-KS];exact e
 refine fv O (U O) (pv O) i (0+l.flatten.length) j.length L (0+l.flatten.length+j.length) F.length p2 l.flatten j F (t.flatten++R) st Q h.kind h.fail (ip _ _ ?_) (ip _ _ ?_) (by rw[h.arr];simp) (Qz _) rfl ∅ rfl o1.1 o2.1 (λx hx=>G x (.inl hx)) (λx hx=>G x (.inr hx)) o1.2 o2.2 ?_
 ·rw[ep,hi,<-J,J4 ∅,Qy];rfl
 ·rw[ep,hi,<-J,J4 ∅,show pl.length+1-pl.length=1 by lia];rfl
 ·intro m st' ea hm om hk hf I9;have B:m.length=j.length+F.length:=by rw[hm.length_eq];simp
  refine q m st' ⟨by rw[ea];simp,?_,?_,?_,hk,hf⟩ B
  ·refine NH.trans ?_ h.perm;simp only[Nu,LS,KD];refine Lv _ ?_;rw[<-KD j];exact LU _ hm
  ·intro r hr
   rcases Kz.mp hr with z|z
   ·exact h.ord r (Lz _ z)
   ·rcases Km.mp z with z|z
    ·subst z;exact⟨λz=>by rw[z]at B;have:=LB.mpr o1.1;simp at B;lia,om⟩
    ·exact h.ord r (by simp[z])
  ·rw[I9];have e3:(((KJ st).setIfInBounds i (0+l.flatten.length,j.length+F.length,L)).eraseIdxIfInBounds (i+1)).toList=pl++(0+l.flatten.length,j.length+F.length,L)::t2:=by
    rw[Array.toList_eraseIdxIfInBounds,QR,ep,hi,<-J];rw[List.set_append_right _ _ ∅,Qy,List.eraseIdx_append_of_length_le ∅,show pl.length+1-pl.length=1 by lia];rfl
   rw[e3];refine HY.join ⟨L,t2,by rw[B],?_⟩
   rw[B,<-Rk];exact I8
theorem pC{α:Type}{l:List α}(h:1<l.length):∃t a b,l=t++[a,b]:=by
 obtain⟨t1,b,e1⟩:∃t b,l=t++[b]:=⟨l.dropLast,l.getLast (λz=>by rw[z]at h;simp at h),(Np _).symm⟩
 obtain⟨j,a,e2⟩:∃t b,t1=t++[b]:=⟨t1.dropLast,t1.getLast (λz=>by rw[e1,z]at h;simp at h),(Np _).symm⟩
 exact⟨j,a,b,by rw[e1,e2];simp⟩
theorem Dc{α:Type}{l:List α}{i:Nat}(h:i+1<l.length):∃t a b u,l=t++a::b::u/\t.length=i:=by
 refine⟨l.take i,l[i],l[i+1],l.drop (i+2),?_,by rw[L3];lia⟩
 rw[<-Mu ∅,<-Mu ∅,N4]
theorem Rn.size{a₀:List Ko}{rs:List (List Ko)}(h:Rn lt kd a₀ st rs R):rs.flatten.length+R.length=a₀.length:=by have:=h.perm.length_eq;rw[D2]at this;exact this
theorem rB:∀{rs:List (List Ko)},(∀r∈rs,r≠[])->rs.length<=rs.flatten.length
 |[],_=>by simp
 |r::rs,h=>by
  have h1:=LB.mpr (h r (by simp))
  have h2:=rB (rs:=rs) λr j=>h r (by simp[j])
  rw[LS,D2,L4];lia
theorem vN{l:List (List Ko)}{s pw:Nat}{ps:Array (Nat×Nat×Nat)}(h:Pd s l ps.toList):Pd s l (ps.modify (ps.size-1) λx=>(x.1,x.2.1,pw)).toList:=by
 rw[Array.toList_modify];have g:∀(l:List (List Ko)) (s k:Nat) (ps:List (Nat×Nat×Nat)),Pd s l ps->Pd s l (ps.modify k λx=>(x.1,x.2.1,pw)):=by
  intro l
  induction l with
  |nil=>intro s k ps h;have:ps=[]:=h;subst this;cases k<;>rfl
  |cons r l ih=>
   intro s k ps h;obtain⟨p,t,e,h⟩:=h;subst e
   cases k with
   |zero=>exact⟨pw,t,rfl,h⟩
   |succ k=>exact⟨p,_,rfl,ih _ k t h⟩
 exact g _ _ _ _ h
theorem qQ(c:Cm prog w A s kd P lt){Q:Unit->LM->Prop}(hk:Mw st=kd)(hf:Nt st=Y)(hp:KJ st=#[])(hP:∀x∈(Lu st).toList,P x)(q:∀st',(Lu st').toList.Perm (Lu st).toList->Ord lt (Lu st').toList->Nt st'=Y->Q () st'):wpS (KN prog w) A E s sortRuns' Q st:=by
 rw[sortRuns'_eq];refine Kk (Pc ?_)
 try dsimp only
 have hsz:(Lu st).size=(Lu st).toList.length:=by simp
 generalize hA:(Lu st).toList=a₀ at hP q hsz;generalize hS:(Lu st).size=size at hsz;generalize minRun' size size 0=minrun;refine Kk (aF (Q:=λr st'=>∃rs lo,r=(Y,lo)/\Rn lt kd a₀ st' rs [])
  (LK (λi r st'=>∃rs R,r=(Y,rs.flatten.length)/\Rn lt kd a₀ st' rs R/\i<=rs.flatten.length) ?_ ?_ ⟨[],a₀,rfl,⟨by simpa using hA,by simp,by simp,by rw[hp];rfl,hk,hf⟩,by simp⟩) ?_)
 ·rintro i r Ic _ hi ⟨rs,R,rfl,L,I9⟩
  try dsimp only
  have Ip:=L.size;refine ag (λIl=>?_) (λIl=>?_)
  ·have:R=[]:=Ls.mp ∅
   subst this;exact ab ⟨rs,_,rfl,L⟩
  ·have Id:size-rs.flatten.length=R.length:=by lia
   have Im:R≠[]:=λz=>by rw[z,Mb]at Id;lia
   have Ie:∀x∈R,P x:=λx hx=>hP x (L.perm.mem_iff.mp (KR _ hx));rw[Id];refine Kk (qP c L.kind L.arr Im Ie λr R1 J ea HY U ho kp=>?_)
   try dsimp only
   have F:Rn lt kd a₀ J rs (r++R1):=⟨ea,(Lv _ HY).trans L.perm,L.ord,by rw[kp.pend];exact L.pend,kp.kind.trans L.kind,kp.fail.trans L.fail⟩
   have Ig:r.length+R1.length=R.length:=by rw[<-HY.length_eq];simp
   refine ag (λIa=>?_) (λIa=>?_)
   ·refine Kk (cJ ?_);refine Kk (vM c F.kind F.arr U ho (n:=min R.length minrun) ∅ (by simp;lia) (λx hx=>Ie x (HY.mem_iff.mp hx)) λr2 R2 B Ih I8 G Io I0=>?_)
    try dsimp only
    refine ag (λh=>absurd h (by simp)) (λ_=>?_)
    have Ii:r2≠[]:=λz=>by rw[z]at G;simp at G;have:=LB.mpr U;lia
    have F:Rn lt kd a₀ B rs (r2++R2):=⟨Ih,(Lv _ I8).trans F.perm,F.ord,by rw[I0.pend];exact F.pend,I0.kind.trans F.kind,I0.fail.trans F.fail⟩
    rw[<-G];clear G I8 Ih I0 ea HY kp Ig Ia;generalize B=J at F;clear ho U;have ho:=Io;have U:=Ii;generalize r2=r at F ho U;generalize R2=R1 at F;refine Kk (Pc ?_)
    try dsimp only
    have Ij:(KJ J).size=rs.length:=by rw[<-L6];exact F.pend.length
    cases hb:(KJ J).back? with
    |none=>
     try dsimp only
     have HL:rs.flatten.length=rs.flatten.length:=rfl;refine Kk (N8 ?_);have Ib:=LB.mpr U;have pv:(rs++[r]).flatten.length=rs.flatten.length+r.length:=by rw[Nu,D2,HL];simp
     refine ab ⟨rs++[r],R1,by rw[pv],⟨by rw[show _=_ from F.arr];simp,?_,?_,?_,F.kind,F.fail⟩,by rw[pv];lia⟩
     ·refine NH.trans (OA (by simp)) F.perm
     ·intro u hu
      rcases Kz.mp hu with z|z
      ·exact F.ord u z
      ·simp at z;subst z;exact⟨U,ho⟩
     ·have h8:(KJ (Pj J ((KJ J).push (rs.flatten.length,r.length,0)))).toList=(KJ J).toList++[(rs.flatten.length,r.length,0)]:=by
       show((KJ J).push _).toList=_;rw[KG]
      rw[show _=_ from h8];exact F.pend.join ⟨0,[],by rw[HL,Qz],rfl⟩
    |some v=>
     obtain⟨s1,n1,p1⟩:=v
     try dsimp only
     refine Kk (aF (Q:=λx st'=>x=(Y,())/\∃rs',Rn lt kd a₀ st' rs' (r++R1)/\rs'.flatten.length=rs.flatten.length)
      (LK (λi x st'=>x=(Y,())/\∃rs',Rn lt kd a₀ st' rs' (r++R1)/\rs'.flatten.length=rs.flatten.length) ?_ ?_ ⟨rfl,rs,F,rfl⟩) ?_)
     ·rintro j x B _ hj ⟨rfl,rs',O,G⟩;refine Kk (Pc ?_)
      try dsimp only
      have HZ:(KJ B).size=rs'.length:=by rw[<-L6];exact O.pend.length
      by_cases h1:(KJ B).size > 1
      ·rw[if_pos h1];have h2:(KJ B)[(KJ B).size-2]?=Z ((KJ B)[(KJ B).size-2]'∅):=L9 ∅
       rw[h2]
       try dsimp only
       refine ag (λh=>?_) (λh=>?_)
       ·exact ab ⟨rfl,rs',O,G⟩
       ·obtain⟨t,a,b,e⟩:=pC (l:=rs') ∅
        subst e;refine Kk (O.merge c hP (by rw[HZ];simp) λm fv h4 hm=>?_)
        refine ag (λh=>absurd h (by simp)) (λ_=>ab ⟨rfl,_,h4,?_⟩)
        rw[<-G];simp[hm]
      ·rw[if_neg h1];exact ab ⟨rfl,rs',O,G⟩
     ·rintro x B ⟨rfl,rs',O,G⟩;exact⟨rfl,rs',O,G⟩
     ·rintro x B ⟨rfl,rs',O,G⟩
      try dsimp only
      refine Kk (N8 ?_);have h4:Rn lt kd a₀ (Pj B ((KJ B).modify ((KJ B).size-1) λx=>(x.1,x.2.1,power' size (2*s1+n1) (2*s1+n1+n1+r.length) size))) rs' (r++R1):=⟨O.arr,O.perm,O.ord,vN O.pend,O.kind,O.fail⟩;generalize Ik:Pj B ((KJ B).modify ((KJ B).size-1) λx=>(x.1,x.2.1,power' size (2*s1+n1) (2*s1+n1+n1+r.length) size))=fv at h4;have HL:=G;refine Kk (N8 ?_);have Ib:=LB.mpr U;have pv:(rs'++[r]).flatten.length=rs.flatten.length+r.length:=by rw[Nu,D2,HL];simp
      refine ab ⟨rs'++[r],R1,by rw[pv],⟨by rw[show _=_ from h4.arr];simp,?_,?_,?_,h4.kind,h4.fail⟩,by rw[pv];lia⟩
      ·refine NH.trans (OA (by simp)) h4.perm
      ·intro u hu
       rcases Kz.mp hu with z|z
       ·exact h4.ord u z
       ·simp at z;subst z;exact⟨U,ho⟩
      ·have h8:(KJ (Pj fv ((KJ fv).push (rs.flatten.length,r.length,0)))).toList=(KJ fv).toList++[(rs.flatten.length,r.length,0)]:=by
        show((KJ fv).push _).toList=_;rw[KG]
       rw[show _=_ from h8];exact h4.pend.join ⟨0,[],by rw[HL,Qz],rfl⟩
   ·clear ea HY kp Ig Ia;refine Kk (Pc ?_)
    try dsimp only
    have Ij:(KJ J).size=rs.length:=by rw[<-L6];exact F.pend.length
    cases hb:(KJ J).back? with
    |none=>
     try dsimp only
     have HL:rs.flatten.length=rs.flatten.length:=rfl;refine Kk (N8 ?_);have Ib:=LB.mpr U;have pv:(rs++[r]).flatten.length=rs.flatten.length+r.length:=by rw[Nu,D2,HL];simp
     refine ab ⟨rs++[r],R1,by rw[pv],⟨by rw[show _=_ from F.arr];simp,?_,?_,?_,F.kind,F.fail⟩,by rw[pv];lia⟩
     ·refine NH.trans (OA (by simp)) F.perm
     ·intro u hu
      rcases Kz.mp hu with z|z
      ·exact F.ord u z
      ·simp at z;subst z;exact⟨U,ho⟩
     ·have h8:(KJ (Pj J ((KJ J).push (rs.flatten.length,r.length,0)))).toList=(KJ J).toList++[(rs.flatten.length,r.length,0)]:=by
       show((KJ J).push _).toList=_;rw[KG]
      rw[show _=_ from h8];exact F.pend.join ⟨0,[],by rw[HL,Qz],rfl⟩
    |some v=>
     obtain⟨s1,n1,p1⟩:=v
     try dsimp only
     refine Kk (aF (Q:=λx st'=>x=(Y,())/\∃rs',Rn lt kd a₀ st' rs' (r++R1)/\rs'.flatten.length=rs.flatten.length)
      (LK (λi x st'=>x=(Y,())/\∃rs',Rn lt kd a₀ st' rs' (r++R1)/\rs'.flatten.length=rs.flatten.length) ?_ ?_ ⟨rfl,rs,F,rfl⟩) ?_)
     ·rintro j x B _ hj ⟨rfl,rs',O,G⟩;refine Kk (Pc ?_)
      try dsimp only
      have HZ:(KJ B).size=rs'.length:=by rw[<-L6];exact O.pend.length
      by_cases h1:(KJ B).size > 1
      ·rw[if_pos h1];have h2:(KJ B)[(KJ B).size-2]?=Z ((KJ B)[(KJ B).size-2]'∅):=L9 ∅
       rw[h2]
       try dsimp only
       refine ag (λh=>?_) (λh=>?_)
       ·exact ab ⟨rfl,rs',O,G⟩
       ·obtain⟨t,a,b,e⟩:=pC (l:=rs') ∅
        subst e;refine Kk (O.merge c hP (by rw[HZ];simp) λm fv h4 hm=>?_)
        refine ag (λh=>absurd h (by simp)) (λ_=>ab ⟨rfl,_,h4,?_⟩)
        rw[<-G];simp[hm]
      ·rw[if_neg h1];exact ab ⟨rfl,rs',O,G⟩
     ·rintro x B ⟨rfl,rs',O,G⟩;exact⟨rfl,rs',O,G⟩
     ·rintro x B ⟨rfl,rs',O,G⟩
      try dsimp only
      refine Kk (N8 ?_);have h4:Rn lt kd a₀ (Pj B ((KJ B).modify ((KJ B).size-1) λx=>(x.1,x.2.1,power' size (2*s1+n1) (2*s1+n1+n1+r.length) size))) rs' (r++R1):=⟨O.arr,O.perm,O.ord,vN O.pend,O.kind,O.fail⟩;generalize Ik:Pj B ((KJ B).modify ((KJ B).size-1) λx=>(x.1,x.2.1,power' size (2*s1+n1) (2*s1+n1+n1+r.length) size))=fv at h4;have HL:=G;refine Kk (N8 ?_);have Ib:=LB.mpr U;have pv:(rs'++[r]).flatten.length=rs.flatten.length+r.length:=by rw[Nu,D2,HL];simp
      refine ab ⟨rs'++[r],R1,by rw[pv],⟨by rw[show _=_ from h4.arr];simp,?_,?_,?_,h4.kind,h4.fail⟩,by rw[pv];lia⟩
      ·refine NH.trans (OA (by simp)) h4.perm
      ·intro u hu
       rcases Kz.mp hu with z|z
       ·exact h4.ord u z
       ·simp at z;subst z;exact⟨U,ho⟩
      ·have h8:(KJ (Pj fv ((KJ fv).push (rs.flatten.length,r.length,0)))).toList=(KJ fv).toList++[(rs.flatten.length,r.length,0)]:=by
        show((KJ fv).push _).toList=_;rw[KG]
       rw[show _=_ from h8];exact h4.pend.join ⟨0,[],by rw[HL,Qz],rfl⟩
 ·rintro r Ic ⟨rs,R,rfl,L,I9⟩;have:=L.size;have:R=[]:=Ls.mp ∅
  subst this;exact⟨rs,_,rfl,L⟩
 ·rintro r Ic ⟨rs,lo,rfl,L⟩
  try dsimp only
  refine Kk (aF (Q:=λr st'=>r=(Y,())/\∃rs,Rn lt kd a₀ st' rs []/\rs.length<=1)
   (LK (λi r st'=>r=(Y,())/\∃rs,Rn lt kd a₀ st' rs []/\rs.length+i<=size) ?_ ?_ ⟨rfl,rs,L,?_⟩) ?_)
  ·rintro i r J _ hi ⟨rfl,rs,L,I9⟩;refine Kk (Pc ?_)
   try dsimp only
   have Ij:(KJ J).size=rs.length:=by rw[<-L6];exact L.pend.length
   refine ag (λh=>?_) (λh=>?_)
   ·exact ab ⟨rfl,rs,L,∅⟩
   ·have go:∀k,k+1<rs.length->wpS (KN prog w) A E s (V6 k) (fun b st'=>b=F2/\∃rs',Rn lt kd a₀ st' rs' []/\rs'.length+1=rs.length) J:=by
     intro k hk;obtain⟨t,a,b,u,e,ht⟩:=Dc hk;subst e;refine L.merge c hP ht.symm λm B O _=>⟨rfl,_,O,by simp;lia⟩
    refine Kk (aF (go _ ?_) ?_)
    ·(repeat' split)<;>lia
    ·rintro b B ⟨rfl,rs',O,G⟩;refine ag (λh=>absurd h (by simp)) (λ_=>ab ⟨rfl,rs',O,∅⟩)
  ·rintro r J ⟨rfl,rs,L,I9⟩;exact⟨rfl,rs,L,∅⟩
  ·have h1:=rB λr hr=>(L.ord r hr).1;have h2:=L.size;simp only[Mb]at h2;lia
  ·rintro r J ⟨rfl,rs,L,hl⟩;refine ab (q J (by rw[L.arr];exact L.perm) ?_ L.fail)
   rw[L.arr,Mg]
   match rs,hl,L with
   |[],_,_=>exact Ra
   |[r],_,L=>simpa using(L.ord r (by simp)).2
end
end Srt
namespace Srt
def i8(cap:Nat):Prop:=∀(prog:KW) (w:Lo) (A:Lr) (E:hH->p7->Prop) (s:p7) (kd:P9) (P:Ko->Prop) (lt:Ko->Ko->Bool),Cm prog w A s kd P lt->∀(st:LM) (Q:Unit->LM->Prop),Mw st=kd->Nt st=Y->KJ st=#[]->(∀x∈(Lu st).toList,P x)->2<=(Lu st).size->(Lu st).size<=cap->
 (∀st',(Lu st').toList.Perm (Lu st).toList->Ord lt (Lu st').toList->Nt st'=Y->Q () st')->wpS (KN prog w) A E s sortRuns' Q st
theorem jS{cap:Nat}:i8 cap:=λ_ _ _ _ _ _ _ _ c _ _ j hf z B _ _ q=>qQ c j hf z B q
end Srt
namespace Srt
inductive Ky where
 |int (i:Int)
 |tup (l:List Ky)
mutual
noncomputable def av:Ky->Ky->Ordering
 |.int a,.int b=>if a<b then .lt else if a=b then .eq else .gt
 |.int _,.tup _=>.lt
 |.tup _,.int _=>.gt
 |.tup a,.tup b=>cmpKs a b
noncomputable def cmpKs:List Ky->List Ky->Ordering
 |[],[]=>.eq
 |[],_::_=>.lt
 |_::_,[]=>.gt
 |x::xs,y::ys=>(av x y).then (cmpKs xs ys)
end
mutual
theorem cT:∀a b,av b a=(av a b).swap
 |.int a,.int b=>by
  simp only[av]
  by_cases h1:a<b
  ·rw[if_pos h1,if_neg ∅,if_neg ∅];rfl
  ·by_cases h2:a=b
   ·rw[if_neg h1,if_pos h2,if_neg ∅,if_pos h2.symm];rfl
   ·rw[if_neg h1,if_neg h2,if_pos ∅];rfl
 |.int _,.tup _=>by simp[av]
 |.tup _,.int _=>by simp[av]
 |.tup a,.tup b=>by simp only[av];exact cmpKs_swap a b
theorem cmpKs_swap:∀a b,cmpKs b a=(cmpKs a b).swap
 |[],[]=>rfl
 |[],_::_=>rfl
 |_::_,[]=>rfl
 |x::xs,y::ys=>by
  simp only[cmpKs];rw[cT x y,cmpKs_swap xs ys]
  cases av x y<;>rfl
end
mutual
theorem i9:∀a b,av a b=.eq->a=b
 |.int a,.int b,h=>by
  simp only[av]at h
  by_cases h1:a<b
  ·rw[if_pos h1]at h;cases h
  ·by_cases h2:a=b
   ·rw[h2]
   ·rw[if_neg h1,if_neg h2]at h;cases h
 |.int _,.tup _,h=>by simp[av]at h
 |.tup _,.int _,h=>by simp[av]at h
 |.tup a,.tup b,h=>by simp only[av]at h;rw[cmpKs_eq a b h]
theorem cmpKs_eq:∀a b,cmpKs a b=.eq->a=b
 |[],[],_=>rfl
 |[],_::_,h=>by simp[cmpKs]at h
 |_::_,[],h=>by simp[cmpKs]at h
 |x::xs,y::ys,h=>by
  simp only[cmpKs]at h
  cases e:av x y with
  |lt=>rw[e]at h;cases h
  |gt=>rw[e]at h;cases h
  |eq=>rw[e]at h;rw[i9 x y e,cmpKs_eq xs ys h]
end
mutual
theorem jT:∀a b c,av a b=.lt->av b c=.lt->av a c=.lt
 |.int a,.int b,.int c,h,g=>by
  simp only[av]at h g⊢;have h1:a<b:=by
   by_cases h1:a<b
   ·exact h1
   ·rw[if_neg h1]at h;split at h<;>cases h
  have h2:b<c:=by
   by_cases h1:b<c
   ·exact h1
   ·rw[if_neg h1]at g;split at g<;>cases g
  rw[if_pos ∅]
 |.int _,.tup _,.int _,_,g=>by simp[av]at g
 |.int _,.int _,.tup _,_,_=>by simp[av]
 |.int _,.tup _,.tup _,_,_=>by simp[av]
 |.tup _,.int _,_,h,_=>by simp[av]at h
 |.tup _,.tup _,.int _,_,g=>by simp[av]at g
 |.tup a,.tup b,.tup c,h,g=>by simp only[av]at h g⊢;exact cmpKs_trans a b c h g
theorem cmpKs_trans:∀a b c,cmpKs a b=.lt->cmpKs b c=.lt->cmpKs a c=.lt
 |[],[],_,h,_=>by simp[cmpKs]at h
 |[],_::_,[],_,g=>by simp[cmpKs]at g
 |[],_::_,_::_,_,_=>by simp[cmpKs]
 |_::_,[],_,h,_=>by simp[cmpKs]at h
 |_::_,_::_,[],_,g=>by simp[cmpKs]at g
 |x::xs,y::ys,z::zs,h,g=>by
  simp only[cmpKs]at h g⊢
  cases e:av x y with
  |gt=>rw[e]at h;cases h
  |eq=>
   have:=i9 x y e;subst this;rw[e]at h
   cases e2:av x z with
   |gt=>rw[e2]at g;cases g
   |lt=>rfl
   |eq=>rw[e2]at g;exact cmpKs_trans xs ys zs h g
  |lt=>
   cases e2:av y z with
   |gt=>rw[e2]at g;cases g
   |lt=>rw[jT x y z e e2];rfl
   |eq=>have:=i9 y z e2;subst this;rw[e];rfl
end
noncomputable def ltK(a b:Ky):Bool:=av a b==.lt
noncomputable def pE(a b:List Ky):Bool:=cmpKs a b==.lt
theorem iV(a b:Ky)(h:ltK a b=F2):ltK b a=N3:=by unfold ltK at h⊢;rw[cT a b,(by simpa using h:av a b=.lt)];rfl
theorem mz(a b:Ky)(h:ltK a b=N3)(g:ltK b a=N3):a=b:=by
 unfold ltK at h g;rw[cT a b]at g;apply i9
 cases e:av a b with
 |eq=>rfl
 |lt=>rw[e]at h;cases h
 |gt=>rw[e]at g;cases g
theorem B3(a b c:Ky)(h:ltK a c=F2):ltK a b=F2∨ltK b c=F2:=by
 cases e:ltK a b with
 |true=>exact .inl rfl
 |false=>
  right
  cases e2:ltK b a with
  |false=>rw[mz a b e e2]at h;exact h
  |true=>unfold ltK at h e2⊢;rw[jT b a c (by simpa using e2) (by simpa using h)];rfl
theorem vO(x y:Ky)(xs ys:List Ky):pE (x::xs) (y::ys)=if(!ltK x y && !ltK y x)=F2 then pE xs ys else ltK x y:=by
 unfold pE ltK;rw[cT x y];simp only[cmpKs]
 cases av x y<;>simp
mutual
noncomputable def toK:Me->Ky
 |.int i=>.int i
 |.tuple xs=>.tup (toKs xs)
 |_=>.int 0
noncomputable def toKs:List Me->List Ky
 |[]=>[]
 |x::xs=>toK x::toKs xs
end
inductive Cmpb:Me->Me->Prop where
 |int (a b:Int):Cmpb (.int a) (.int b)
 |nil (ys:List Me):Cmpb (.tuple []) (.tuple ys)
 |nil' (xs:List Me):Cmpb (.tuple xs) (.tuple [])
 |cons {x y:Me} {xs ys:List Me}:Cmpb x y->Cmpb (.tuple xs) (.tuple ys)->Cmpb (.tuple (x::xs)) (.tuple (y::ys))
theorem Cmpb.eqv{x y:Me}(h:Cmpb x y):Lw x y=(!ltK (toK x) (toK y) && !ltK (toK y) (toK x)):=by
 have g:∀{x y:Me},Cmpb x y->Lw x y=(av (toK x) (toK y)==.eq):=by
  intro x y h
  induction h with
  |int a b=>
   simp only[Lw,toK,av]
   by_cases h1:a<b
   ·rw[if_pos h1];simp;lia
   ·by_cases h2:a=b
    ·rw[if_neg h1,if_pos h2];simp[h2]
    ·rw[if_neg h1,if_neg h2];simp;lia
  |nil ys=>cases ys<;>simp[Lw,Lx,toK,toKs,av,cmpKs]
  |nil' xs=>cases xs<;>simp[Lw,Lx,toK,toKs,av,cmpKs]
  |@cons x y xs ys h1 h2 ih1 j=>
   simp only[Lw]at j⊢;simp only[Lx,toK,toKs,av,cmpKs]at j⊢;rw[ih1,j]
   cases av (toK x) (toK y)<;>simp
 rw[g h];unfold ltK;rw[cT (toK x) (toK y)]
 cases av (toK x) (toK y)<;>rfl
section
variable{prog:KW}{w:Lo}{A:Lr}{E:hH->p7->Prop}{s:p7}
theorem trd{b:Bool}{Q:Bool->p7->Prop}(q:Q b s):Kr (KN prog w) A (truthOfDropped (.bool b)) Q E s:=by
 unfold truthOfDropped
 wp_walk
 exact q
theorem ic(a b:Int):ltK (.int a) (.int b)=decide (a<b):=by
 simp only[ltK,av]
 by_cases h:a<b
 ·simp[h]
 ·by_cases h2:a=b<;>simp[h,h2]
theorem vP{a b:Int}{t u:Tok}{Q:hH->p7->Prop}(q:Q (.bool (decide (a<b))) s):Kr (KN prog w) A (Qa .Lt (.int a t) (.int b u)) Q E s:=wpAny_richCompare_same (T:="int") rfl rfl F.slot_int_lt (call_int_lt ⟨by simp,q⟩)
noncomputable def ck:List Me->List Me->Option Bool
 |x::xs,y::ys=>if Lw x y=F2 then ck xs ys else Z (ltK (toK x) (toK y))
 |_,_=>Y
theorem iW:∀{xs ys:List Me},Cmpb (.tuple xs) (.tuple ys)->ltK (toK (.tuple xs)) (toK (.tuple ys))=match ck xs ys with|some b=>b|none=>decide (xs.length<ys.length)
 |[],[],_=>rfl
 |[],_::_,_=>by simp[ck,toK,toKs,ltK,av,cmpKs]
 |_::_,[],_=>by simp[ck,toK,toKs,ltK,av,cmpKs]
 |x::xs,y::ys,h=>by
  cases h with
  |cons h1 h2=>
   have ih:=iW h2;have e:∀a b:List Ky,ltK (.tup a) (.tup b)=pE a b:=λa b=>by simp[ltK,pE,av]
   simp only[toK,toKs,e]at ih⊢;rw[vO,<-h1.eqv];simp only[ck]
   split
   ·rw[ih];simp
   ·rfl
noncomputable def cz{α β:Type}(M:Po)(A:Lr)(E:hH->p7->Prop)(f:α->β->Sem (ForInStep β))(Q:β->p7->Prop):List α->β->p7->Prop
 |[],c,s=>Q c s
 |x::xs,c,s=>Kr M A (f x c) (λr s'=>match r with|.done c'=>Q c' s'|.yield c'=>cz M A E f Q xs c' s') E s
theorem fJ{α β:Type}{M:Po}{f:α->β->Sem (ForInStep β)}{Q:β->p7->Prop}:∀{l:List α} {c:β} {s:p7},cz M A E f Q l c s->Kr M A (forIn l c f) Q E s
 |[],c,s,h=>by rw[SD];exact D0 h
 |x::xs,c,s,h=>by
  rw[Oz];refine gV (LW h (λr s' j=>?_) λ_ _ z=>z)
  cases r with
  |done c'=>exact D0 j
  |yield c'=>exact fJ j
theorem bW{h:Heap}:∀{vs:List hH} {xs:List Me} {as:List VH},SF h vs xs as->vs.length=xs.length
 |_,_,_,.nil=>rfl
 |_,_,_,.cons _ r=>by simp[bW r]
theorem iX{α β:Type}{M:Po}{n:Nat}{f:α->Option β×Unit->Sem (ForInStep (Option β×Unit))}{g:Bool->β}{pr:α->hH×hH}{Q:Option β×Unit->p7->Prop}:
 ∀{l:List α} {vs us:List hH} {xs ys:List Me} {as bs:List VH},l.map pr=vs.zip us->SF s.heap vs xs as->SF s.heap us ys bs->Cmpb (.tuple xs) (.tuple ys)->Mk xs=F2->Mk ys=F2->Nl xs<=n->
  (∀(z:α) (x y:hH) (d e:Me) (as bs:List VH) (R:ForInStep (Option β×Unit)->p7->Prop),z∈l->pr z=(x,y)->P7 s.heap x d as->P7 s.heap y e bs->Cmpb d e->d.canLay0=F2->e.canLay0=F2->d.depth<=n->
   R (if Lw d e=F2 then .yield (Y,())else .done (Z (g (ltK (toK d) (toK e))),())) s->Kr M A (f z (Y,())) R E s)->
  Q ((ck xs ys).map g,()) s->cz M A E f Q l (Y,()) s
 |[],vs,us,xs,ys,as,bs,e,j,B,hc,_,_,_,_,q=>by
  have h1:=bW j;have h2:=bW B;have:vs=[]∨us=[]:=by
   cases vs with
   |nil=>exact .inl rfl
   | cons v vs=>cases us with
     |nil=>exact .inr rfl
     |cons u us=>simp at e
  have e2:ck xs ys=Y:=by
   rcases this with rfl|rfl
   ·cases xs with
    |nil=>simp[ck]
    |cons x xs=>simp at h1
   ·cases ys with
    |nil=>cases xs<;>simp[ck]
    |cons y ys=>simp at h2
  rw[e2]at q;exact q
 |z::l,vs,us,xs,ys,as,bs,e,j,B,hc,lx,ly,hd,hf,q=>by
  cases j with
  |nil=>simp at e
  |cons rx j=>
   cases B with
   |nil=>simp at e
   |cons ry B=>
    simp only[Ks,QI,Qq]at e;simp only[Mk,q7]at lx ly;simp only[Nl]at hd
    cases hc with
    |cons F G=>
     simp only[cz];refine hf z _ _ _ _ _ _ _ (by simp) e.1 rx ry F lx.1 ly.1 ∅ ?_
     simp only[ck]at q
     split at q
     ·next h=>rw[if_pos h];exact iX e.2 j B G lx.2 ly.2 ∅ (λz x y d e as bs R J=>hf z x y d e as bs R (by simp[J])) q
     ·next h=>rw[if_neg h];exact q
def FL(n:Nat):Prop:=∀(prog:KW) (w:Lo) (A:Lr) (s:p7) (a b:hH) (d e:Me) (as bs:List VH) (E:hH->p7->Prop) (Q:hH->p7->Prop),d.depth<=n->Cmpb d e->P7 s.heap a d as->P7 s.heap b e bs->d.canLay0=F2->e.canLay0=F2->A.units+n+1<NA->
 Q (.bool (ltK (toK d) (toK e))) s->Kr (KN prog w) A (Qa .Lt a b) Q E s
theorem EC:∀n,FL n:=by
 intro n
 induction n with
 |zero=>
  intro prog w A s a b d e as bs E Q hd hc ra rb ld le U q
  cases hc with
  |int i j=>
   cases ra;cases rb
   exact vP (by rw[<-ic];exact q)
  |nil ys=>simp[Oq]at hd
  |nil' xs=>simp[Oq]at hd
  |cons _ _=>simp[Oq]at hd
 |succ n ih=>
  intro prog w A s a b d e as bs E Q hd hc ra rb ld le U q;have tup:∀xs ys,d=.tuple xs->e=.tuple ys->Kr (KN prog w) A (Qa .Lt a b) Q E s:=by
   rintro xs ys rfl rfl
   cases ra with
   |tuple h1 h2 pv B=>
    cases rb with
    |tuple g1 g2 g3 G=>
     rename_i l ol vl nl p ob vb nb;have tl:s.TypeIs (.ref l) "tuple":=⟨_,h1,h2⟩;have tb:s.TypeIs (.ref p) "tuple":=⟨_,g1,g2⟩;refine wpAny_richCompare_same_room tl tb UN (Le UN tl F.entry_tuple_lt ?_ (F.args_tuple_lt_2 _ _)) ∅
     unfold Mp.«tuple.__lt__»;refine gV ?_;have J:isSubtype (.type "tuple") (.type "tuple")=pure F2:=by rw[OQ];kernel_rfl
     wp_walk
     rw[pv]
     wp_walk
     rw[g3];refine D0 ?_;refine D0 ?_;refine gV (fJ (iX (n:=n) (g:=λb=>Fin.done (Flow.ret (RT b))) (pr:=id) (UD _) B G hc ld le (by simp[Oq]at hd;lia) ?_ ?_))
     ·rintro⟨x,y⟩ x' y' d e as bs R _ hz rx ry hc ld le hd r
      cases hz
      dsimp only;refine gV (Ul d e _ _ _ _ _ _ rx ry ld le ?_ prog w E _ ?_)
      ·show A.units+1+min d.depth e.depth<NA;lia
      ·by_cases z:Lw d e=F2
       ·rw[if_pos z]at r;rw[z];exact D0 r
       ·rw[if_neg z]at r;have z:Lw d e=N3:=by simpa using z
        rw[z];refine gV (MW (gV (ih prog w _ s x y d e as bs E _ hd hc rx ry ld le ?_ ?_)))
        ·show A.units+1+n+1<NA;lia
        ·exact D0 r
     ·have e1:=iW hc
      cases e2:ck xs ys with
      |some b=>rw[e2]at e1;dsimp only at e1;rw[e1]at q;exact D0 ⟨_,rfl,by simp,q⟩
      |none=>
       rw[e2]at e1;dsimp only at e1;rw[e1]at q;have L:=bW B;have O:=bW G;refine D0 ⟨_,rfl,?_,?_⟩
       ·simp[O9]
       ·simp only[L6]at L O;simp only[O9];rw[L,O];exact q
  cases hc with
  |int i j=>
   cases ra;cases rb
   exact vP (by rw[<-ic];exact q)
  |nil ys=>exact tup _ _ rfl rfl
  |nil' xs=>exact tup _ _ rfl rfl
  |cons _ _=>exact tup _ _ rfl rfl
end
end Srt
namespace Srt
variable{n:Nat}
section
variable{prog:KW}{w:Lo}{A:Lr}{E:hH->p7->Prop}{s:p7}
theorem jU{α β:Type}{M:Po}{f:α->Sem β}{g:α->β}:∀{l:List α} {Q:List β->p7->Prop},(∀x∈l,∀R:β->p7->Prop,R (g x) s->Kr M A (f x) R E s)->Q (l.map g) s->Kr M A (l.mapM f) Q E s
 |[],Q,_,q=>by rw[List.mapM_nil];exact D0 q
 |x::xs,Q,h,q=>by rw[List.mapM_cons];refine gV (h x (by simp) _ (gV (jU (λy j=>h y (by simp[j])) (D0 q))))
theorem eF{α β:Type}{M:Po}{f:α->Sem β}{g:α->β}{xs:Array α}{Q:Array β->p7->Prop}(h:∀x∈xs.toList,∀R:β->p7->Prop,R (g x) s->Kr M A (f x) R E s)(q:Q (xs.map g) s):Kr M A (xs.mapM f) Q E s:=by
 rw[Array.mapM_eq_mapM_toList];rw[map_eq_pure_bind];refine gV (jU h (D0 ?_));have:(xs.toList.map g).toArray=xs.map g:=by apply Q2.mp;simp
 rw[this];exact q
theorem mC{a:VH}{v:hH}{vs:List hH}{o:Obj}(h1:s.heap.get? a=Z o)(h2:o.cls=.type "tuple")(j:o.data=.seq (v::vs).toArray n){Q:Option hH->p7->Prop}(q:Q (Z v) s):Kr (KN prog w) A (firstOfTuple' (.ref a)) Q E s:=by
 unfold firstOfTuple';have ty:s.TypeIs (.ref a) "tuple":=⟨_,h1,h2⟩
 wp_walk
 rw[j];refine D0 ?_;refine D0 ?_;exact D0 q
theorem B4{a:VH}{o:Obj}{T:hH}(h1:s.heap.get? a=Z o)(h2:o.cls=T){Q:hH->p7->Prop}(q:Q T s):Kr (KN prog w) A (typeOf (.ref a)) Q E s:=by
 wp_walk
 rw[h2];exact q
theorem vQ{x y:hH}{d e:Me}{as bs:List VH}(hc:Cmpb d e)(rx:P7 s.heap x d as)(ry:P7 s.heap y e bs)(ld:d.canLay0=F2)(le:e.canLay0=F2)(hd:d.depth<=n)(j:A.units+n+1<NA){Q:Bool->p7->Prop}(q:Q (ltK (toK d) (toK e)) s):Kr (KN prog w) A (oneLt' N3 x y) Q E s:=by rw[oneLt'_eq];exact gV (EC n prog w A s x y d e as bs E _ hd hc rx ry ld le j (trd q))
theorem mD{b:Bool}{x y:hH}{xs ys:List Me}{as bs:List VH}(hb:b=F2->∀d e,xs.head?=Z d->ys.head?=Z e->(∃i,d=.int i)/\∃i,e=.int i)(hc:Cmpb (.tuple xs) (.tuple ys))(rx:P7 s.heap x (.tuple xs) as)(ry:P7 s.heap y (.tuple ys) bs)(lx:Mk xs=F2)(ly:Mk ys=F2)(hd:Nl xs<=n)(fv:A.units+n+1<NA){Q:Bool->p7->Prop}(q:Q (ltK (toK (.tuple xs)) (toK (.tuple ys))) s):
 Kr (KN prog w) A (keyLt' (tuples' b) x y) Q E s:=by
 cases rx with
 |tuple h1 h2 h3 F=>
  cases ry with
  |tuple g1 g2 g3 G=>
   refine gV (TV h1 h3 ?_);refine gV (TV g1 g3 ?_);refine gV (fJ (iX (n:=n) (g:=id) (pr:=Prod.fst) (List.zipIdx_map_fst _ _) F G hc lx ly hd ?_ ?_))
   ·rintro⟨⟨x,y⟩,i⟩ x' y' d e as bs R hz hp rx ry hc ld le hd r
    cases hp
    dsimp only;refine gV (Ul d e _ _ _ _ _ _ rx ry ld le ∅ prog w E _ ?_)
    by_cases B:Lw d e=F2
    ·rw[if_pos B]at r;rw[B];exact D0 r
    ·rw[if_neg B]at r;have B:Lw d e=N3:=by simpa using B
     rw[B];refine gV ?_
     by_cases z:(b&&i==0)=F2
     ·rw[z];simp only[q7,beq_iff_eq]at z;obtain⟨rfl,rfl⟩:=z;have j:=List.mem_zipIdx_iff_getElem?.mp hz;obtain⟨J,L,t1,O,e1,e2⟩:∃(J L:Int) (t1 O:Tok),x=.int J t1/\y=.int L O:=by
       generalize hV:RU _=vl at F j;generalize hU:RU _=ul at G j
       cases F with
       |nil=>simp at j
       |cons p1 p2=>
        cases G with
        |nil=>simp at j
        |cons q1 q2=>
         simp at j;obtain⟨⟨J,ei⟩,⟨L,ej⟩⟩:=hb rfl _ _ rfl rfl;subst ei ej
         cases p1;cases q1
         exact⟨_,_,_,_,j.1.symm,j.2.symm⟩
      subst e1 e2
      cases rx;cases ry
      refine oneLt_int ?_;rw[<-ic];exact D0 r
     ·have z:(b&&i==0)=N3:=by simpa using z
      rw[z];exact vQ hc rx ry ld le hd fv (D0 r)
   ·have e1:=iW hc
    cases e2:ck xs ys with
    |some b=>rw[e2]at e1;dsimp only at e1;rw[e1]at q;exact D0 q
    |none=>rw[e2]at e1;dsimp only at e1;rw[e1]at q;have U:=bW F;have pv:=bW G;refine D0 ?_;simp only[L6]at U pv;rw[U,pv];exact q
end
end Srt
namespace Srt
structure pF(n:Nat)(ds:List Me):Prop where
 cmp:∀d∈ds,∀e∈ds,Cmpb d e
 lay:∀d∈ds,d.canLay0=F2/\d.depth<=n
 kind:(∀d∈ds,∃i,d=.int i)∨(∀d∈ds,∃i xs,d=.tuple (.int i::xs))∨(∀d∈ds,∃ys xs,d=.tuple (.tuple ys::xs))
noncomputable def cD(h:Heap):hH->Option hH
 |.ref a=>(h.get? a).bind λo=>match o.data with|.seq xs _=>xs[0]?|_=>Y
 |_=>Y
variable{vs:List hH}{h:Heap}{v:hH}
section
variable{prog:KW}{w:Lo}{A:Lr}{E:hH->p7->Prop}{s:p7}
noncomputable def dr(h:Heap)(x:Ko):Ky:=toK (MJ h x.1)
def RdL(h:Heap)(vs:List hH)(ds:List Me):Prop:=∀v∈vs,∃d∈ds,∃as,P7 h v d as
theorem gy{arr:Array hH}{T:String}(h0:0<arr.size)(h:∀v∈arr.toList,∀R:hH->p7->Prop,R (.type T) s->Kr (KN prog w) A (typeOf v) R E s){Q:Option hH->p7->Prop}(q:Q (Z (.type T)) s):Kr (KN prog w) A (oneTypeOnly' arr) Q E s:=by
 rw[oneTypeOnly'_eq];refine gV (eF (g:=λ_=>Lh T) h ?_);have e:(Q3 (λ_=>Lh T) arr)[0]?=Z (Lh T):=by rw[Array.getElem?_map,L9 h0];rfl
 rw[e];dsimp only;have e2:((Q3 (λ_=>Lh T) arr).all λx=>x==Lh T)=F2:=by rw[TX];intro i hi;simp
 rw[e2];exact D0 q
theorem tK{n:Nat}{kd:P9}{ds:List Me}(j:RdL s.heap vs ds)(hs:pF n ds)(h:∀(x y:hH) (d e:Me) (as bs:List VH) (E:hH->p7->Prop) (Q:Bool->p7->Prop),d∈ds->e∈ds->P7 s.heap x d as->P7 s.heap y e bs->Q (ltK (toK d) (toK e)) s->Kr (KN prog w) A (keyLt' kd x y) Q E s):
 Cm prog w A s kd (λx=>x.1∈vs) (λx y=>ltK (dr s.heap x) (dr s.heap y)) where
 asym:=λx y=>iV _ _
 neg:=λx y z=>B3 _ _ _
 run:=λx y E Q hx B q=>by obtain⟨d,hd,as,ra⟩:=j _ hx;obtain⟨e,he,bs,rb⟩:=j _ B;have e1:=Nq (hs.lay d hd).1 ra;have e2:=Nq (hs.lay e he).1 rb;unfold dr at q;rw[e1,e2]at q;exact h _ _ d e as bs E Q hd he ra rb q
theorem pG(j:∀v∈vs,∃u,cD h v=Z u):((vs.toArray.map (cD h)).all λx=>x.isSome)=F2:=by rw[TX];intro i hi;simp at hi;obtain⟨u,q⟩:=j vs[i] (RF hi);simp[q]
theorem vR{x:hH}(hx:x∈(UO id (vs.toArray.map (cD h))).toList):∃v∈vs,cD h v=Z x:=by simp at hx;exact hx
theorem vS{u:hH}(j:cD h v=Z u):0<(UO id ((v::vs).toArray.map (cD h))).size:=by rw[<-L6];simp[j]
theorem mF{d:Me}{xs:List Me}{as:List VH}(r:P7 h v (.tuple (d::xs)) as):∃a o u us n bs,v=.ref a/\h.get? a=Z o/\o.cls=.type "tuple"/\o.data=.seq (u::us).toArray n/\P7 h u d bs:=by
 cases r with
 |@tuple a o vs n xs as h1 h2 j h4=>
  generalize q:vs.toList=vl at h4
  cases h4 with
  |@cons u us _ _ bs _ z p2=>exact⟨_,_,u,us,n,bs,rfl,h1,h2,by rw[j];congr 1;apply Q2.mp;simpa using q,z⟩
theorem ED{n:Nat}{ds:List Me}(U:RdL s.heap (v::vs) ds)(hs:pF n ds)(z:A.units+n+1<NA):
 ∃kd,(∀(E:hH->p7->Prop) (Q:P9->p7->Prop),Q kd s->Kr (KN prog w) A (keyKind' (v::vs).toArray) Q E s)/\Cm prog w A s kd (λx=>x.1∈v::vs) (λx y=>ltK (dr s.heap x) (dr s.heap y)):=by
 rcases hs.kind with G|G|G
 ·refine⟨oneType',λE Q q=>?_,tK U hs λx y d e as bs E Q hd he ra rb q=>?_⟩
  ·have hint:∀u∈v::vs,∃i t,u=.int i t:=fun u z=>by
    obtain⟨d,hd,as,ra⟩:=U u z;obtain⟨i,rfl⟩:=G d hd
    cases ra
    exact⟨_,_,rfl⟩
   rw[UE];refine gV (eF (g:=λ_=>(Y:Option hH)) (λu z R r=>?_) ?_)
   ·obtain⟨i,t,rfl⟩:=hint u (by simpa using z)
    rw[firstOfTuple'_int];exact D0 r
   ·have e1:((Q3 (fun _=>(Y:Option hH)) (v::vs).toArray).all fun x=>x.isSome)=N3:=by
     simp
    rw[e1];have e2:((Q3 (λ_=>(Y:Option hH)) (v::vs).toArray)[0]?.bind id).isSome=N3:=by simp
    simp only[e2,MK,if_false];refine gV (gy (T:="int") (by simp) (λu z R r=>?_) ?_)
    ·obtain⟨i,t,rfl⟩:=hint u (by simpa using z)
     exact D0 r
    ·exact D0 q
  ·obtain⟨i,rfl⟩:=G d hd;obtain⟨j,rfl⟩:=G e he
   cases ra;cases rb
   rw[keyLt'_oneType];exact oneLt_int (by rw[<-ic];exact q)
 ·refine⟨tuples' F2,λE Q q=>?_,tK U hs λx y d e as bs E Q hd he ra rb q=>?_⟩
  ·have hf:∀u∈v::vs,∃a o i t us n,u=.ref a/\s.heap.get? a=Z o/\o.cls=.type "tuple"/\o.data=.seq (.int i t::us).toArray n:=fun u z=>by
    obtain⟨d,hd,as,ra⟩:=U u z;obtain⟨i,xs,rfl⟩:=G d hd;obtain⟨a,o,fv,us,n,bs,e1,e2,J,F,L⟩:=mF ra
    cases L
    exact⟨a,o,_,_,us,n,e1,e2,J,F⟩
   have B:∀u∈v::vs,∃i t,cD s.heap u=Z (.int i t):=λu z=>by obtain⟨a,o,i,t,us,n,rfl,e2,J,F⟩:=hf u z;exact⟨i,t,by simp[cD,e2,F]⟩
   rw[UE];refine gV (eF (g:=cD s.heap) (λu z R r=>?_) ?_)
   ·obtain⟨a,o,i,t,us,n,rfl,e2,J,F⟩:=hf u (by simpa using z)
    refine mC e2 J F ?_;simpa[cD,e2,F]using r
   ·rw[pG (λu z=>let⟨i,t,e⟩:=B u z; ⟨_,e⟩)];refine gV (MW ?_);obtain⟨i0,t0,e0⟩:=B v (by simp)
    refine gV (gy (T:="int") (vS e0) (λu z R r=>?_) ?_)
    ·obtain⟨u',O,e⟩:=vR z;obtain⟨i,t,e'⟩:=B u' O;rw[e']at e;cases e;exact D0 r
    ·exact D0 q
  ·obtain⟨i,xs,rfl⟩:=G d hd;obtain⟨j,ys,rfl⟩:=G e he;have l1:=hs.lay _ hd;have l2:=hs.lay _ he;refine mD (n:=n) (λ_ d e hd he=>?_) (hs.cmp _ hd _ he) ra rb (by simpa[PJ]using l1.1) (by simpa[PJ]using l2.1) (by have:=l1.2;simp[Oq]at this;lia) z q
   simp at hd he;subst hd he;exact⟨⟨_,rfl⟩,_,rfl⟩
 ·refine⟨tuples' N3,λE Q q=>?_,tK U hs λx y d e as bs E Q hd he ra rb q=>?_⟩
  ·have hf:∀u∈v::vs,∃a o b ob us n,u=.ref a/\s.heap.get? a=Z o/\o.cls=.type "tuple"/\o.data=.seq (.ref b::us).toArray n/\s.heap.get? b=Z ob/\ob.cls=.type "tuple":=fun u z=>by
    obtain⟨d,hd,as,ra⟩:=U u z;obtain⟨ys,xs,rfl⟩:=G d hd;obtain⟨a,o,fv,us,n,bs,e1,e2,J,F,L⟩:=mF ra
    cases L with
    |tuple h1 h2 h3 h4=>exact⟨a,o,_,_,us,n,e1,e2,J,F,h1,h2⟩
   have B:∀u∈v::vs,∃b ob,cD s.heap u=Z (.ref b)/\s.heap.get? b=Z ob/\ob.cls=.type "tuple":=λu z=>by obtain⟨a,o,b,ob,us,n,rfl,e2,J,F,L,pv⟩:=hf u z;exact⟨b,ob,by simp[cD,e2,F],L,pv⟩
   rw[UE];refine gV (eF (g:=cD s.heap) (λu z R r=>?_) ?_)
   ·obtain⟨a,o,b,ob,us,n,rfl,e2,J,F,L,pv⟩:=hf u (by simpa using z)
    refine mC e2 J F ?_;simpa[cD,e2,F]using r
   ·rw[pG (λu z=>let⟨i,t,e,_⟩:=B u z; ⟨_,e⟩)];refine gV (MW ?_);obtain⟨i0,t0,e0,_⟩:=B v (by simp)
    refine gV (gy (T:="tuple") (vS e0) (λu z R r=>?_) ?_)
    ·obtain⟨u',O,e⟩:=vR z;obtain⟨b,ob,e',L,pv⟩:=B u' O;rw[e']at e;cases e;exact B4 L pv r
    ·exact D0 q
  ·obtain⟨zs,xs,rfl⟩:=G d hd;obtain⟨zs',ys,rfl⟩:=G e he;have l1:=hs.lay _ hd;have l2:=hs.lay _ he;exact mD (n:=n) (λh=>by cases h) (hs.cmp _ hd _ he) ra rb (by simpa[PJ]using l1.1) (by simpa[PJ]using l2.1) (by have:=l1.2;simp[Oq]at this;lia) z q
end
end Srt
namespace Srt
inductive Pl:Me->Prop where
 |int (i:Int):Pl (.int i)
 |tup (xs:List Me):(∀x∈xs,Pl x)->Pl (.tuple xs)
theorem aZ{h h':Heap}(k:∀b o,h.get? b=Z o->o.cls=.type "tuple"->h'.get? b=Z o){d:Me}(p:Pl d):∀{v:hH} {as:List VH},P7 h v d as->P7 h' v d as:=by
 induction p with
 |int i=>intro v as r;cases r;exact .int _ _
 |tup xs hx ih=>
  intro v as r
  cases r with
  |tuple h1 h2 q z=>
   refine .tuple (k _ _ h1 h2) h2 q ?_;have g:∀(xs:List Me),(∀x∈xs,∀{v:hH} {as:List VH},P7 h v x as->P7 h' v x as)->∀(vs:List hH) (as:List VH),SF h vs xs as->SF h' vs xs as:=by
    intro xs
    induction xs with
    |nil=>intro _ vs as r;cases r;exact .nil
    |cons x xs ihx=>
     intro j vs as r
     cases r with
     |cons B p2=>exact .cons (j x (by simp) B) (ihx (λy F=>j y (by simp[F])) _ _ p2)
   exact g xs ih _ _ z
section
variable{prog:KW}{w:Lo}{A:Lr}{E:hH->p7->Prop}{s:p7}
theorem yz{α:Type}{R:α->α->Prop}:∀{l:List α},l.length<2->l.Pairwise R
 |[],_=>.nil
 |[_],_=>List.pairwise_singleton _ _
theorem B5{α:Type}:∀{l:List α},2<=l.length->∃x r,l=x::r
 |x::r,_=>⟨x,r,rfl⟩
theorem B6{cap:Nat}(S:i8 cap){m:Nat}{a:VH}{vs:List hH}{n:Nat}{ds:List Me}(ha:s.heap.get? a=Z (Tp "list" vs.toArray n))(U:RdL s.heap vs ds)(hs:pF m ds)(hp:∀d∈ds,Pl d)(hl:vs.length<=Kn)(I8:vs.length<=cap)(hu:A.units+m+1<NA){Q:PySem.Fin->p7->Prop}(q:∀(h':Heap) (out:List hH) (n':Nat),(∀b o,b≠a->s.heap.get? b=Z o->h'.get? b=Z o)->h'.get? a=Z (Tp "list" out.toArray n')->out.Perm vs->out.Pairwise (λx y=>ltK (toK (MJ s.heap y)) (toK (MJ s.heap x))=N3)->Q (.done (.ret .none)) {s with heap:=h'}):
 Kr (KN prog w) A (Mp.«list.sort» ⟨[.ref a],[]⟩) Q E s:=by
 rw[list_sort_plain];refine gV (TV ha rfl ?_);refine gV (O7 ha rfl ?_ (by simpa using hl) (by simp))
 have g1:=Nr ha (λ_=>#[]);generalize I9:s.heap.update a (My λ_=>#[])=h1 at g1;generalize (if((#[]:Array hH).size==vs.toArray.size)=F2 then n else n+1)=n1 at g1
 refine gV (UG g1 rfl ?_);refine gV (OP ?_ (by simpa using hl))
 refine gV (Q8 ?_ (by simp))
 refine LN ?_;dsimp only;generalize L:({heap:=(h1.push {cls:=Lh "tuple",data:=Oc vs.toArray.toList.toArray}).push {cls:=Lh "list",data:=Oc [].toArray},gens:=s.gens,drawn:=s.drawn,toks:=s.toks,os:=s.os}:p7)=s3;have g3:s3.heap.get? a=Z (Tp "list" #[] n1):=by rw[<-L];exact hW _ (hW _ g1)
 have keep:∀b o,b≠a->s.heap.get? b=Z o->s3.heap.get? b=Z o:=λb o hb G=>by rw[<-L,<-I9];exact hW _ (hW _ (by rw[LC _ _ _ _ hb];exact G))
 have keepT:∀b o,s.heap.get? b=Z o->o.cls=.type "tuple"->s3.heap.get? b=Z o:=λb o hb hc=>keep b o (λz=>by rw[z,ha]at hb;cases hb;simp at hc) hb
 have Ia:RdL s3.heap vs ds:=λv hv=>by obtain⟨d,hd,as,r⟩:=U v hv;exact⟨d,hd,as,aZ keepT (hp d hd) r⟩
 have same:∀v∈vs,MJ s3.heap v=MJ s.heap v:=λv hv=>by obtain⟨d,hd,as,r⟩:=U v hv;rw[Nq (hs.lay d hd).1 r,Nq (hs.lay d hd).1 (aZ keepT (hp d hd) r)]
 have q:∀(h':Heap) (out:List hH) (n':Nat),(∀b o,b≠a->s.heap.get? b=Z o->h'.get? b=Z o)->h'.get? a=Z (Tp "list" out.toArray n')->out.Perm vs->out.Pairwise (λx y=>ltK (toK (MJ s.heap y)) (toK (MJ s.heap x))=N3)->Q (.done (.ret .none)) {s3 with heap:=h'}:=by rw[<-L];exact q
 have Ic:∀A':Lr,A'.units=A.units->True:=λ_ _=>trivial;clear L
 let Good:LM->Prop:=λst'=>Nt st'=Y/\(Lu st').toList.Perm (vs.zip vs)/\(Lu st').toList.Pairwise (λx y=>ltK (dr s3.heap y) (dr s3.heap x)=N3)
 by_cases F:vs.toArray.size<2
 ·rw[if_pos F,if_pos F];refine gV (D0 ?_);have B:vs.length<2:=by simpa using F
  have run:Kr (KN prog w) A ((pure ():StateT LM Sem Unit).run (Q1 general' (vs.toArray.zip vs.toArray) #[] 7 Y)) (λr s'=>s'=s3/\Good r.2) E s3:=by
   refine D0 ⟨rfl,rfl,?_,?_⟩
   ·show(vs.toArray.zip vs.toArray).toList.Perm _;simp
   ·show List.Pairwise _ (vs.toArray.zip vs.toArray).toList;exact yz (by simpa using B)
  refine gV (LW (Q:=λr s'=>s'=s3/\Good r.2) run (λr s' U=>?_) (λ_ _ z=>z));obtain⟨rfl,J,j,O⟩:=U;obtain⟨u,st'⟩:=r;refine gV (UG g3 rfl ?_);refine gV (O7 g3 rfl ?_ (by simp) (by simp only[Array.size_map];have:=j.length_eq;simp at this;rw[this];lia))
  dsimp only at J;rw[J];simp only[bne_self_eq_false,MK,if_false];refine D0 ?_;have gq:=Nr g3 (λ_=>Q3 (λx=>x.snd) (Lu st'));have eo:Q3 (λx=>x.snd) (Lu st')=((Lu st').toList.map λx=>x.snd).toArray:=by apply Q2.mp;simp
  refine q _ ((Lu st').toList.map λx=>x.snd) _ (λb o hb G=>?_) (by rw[gq,eo]) ?_ ?_
  ·rw[LC _ _ _ _ hb];exact keep b o hb G
  ·have pv:=j.map (λx:Ko=>x.snd);rw[Um (by simp)]at pv
   exact pv
  ·rw[LF];refine O.imp_of_mem λ{x y} hx hy hxy=>?_;have mx:=QA (j.mem_iff.mp hx);have my:=QA (j.mem_iff.mp hy);unfold dr at hxy;rw[mx.1,my.1,same y.2 (by rw[<-my.1];exact my.2),same x.2 (by rw[<-mx.1];exact mx.2)]at hxy
   exact hxy
 ·rw[if_neg F,if_neg F];have B:2<=vs.length:=by simpa using F
  obtain⟨v0,Ib,fv⟩:=B5 B;obtain⟨kd,HY,HZ⟩:=ED (prog:=prog) (w:=w) (A:=A) (v:=v0) (vs:=Ib) (by rw[<-fv];exact Ia) hs hu
  rw[<-fv]at HY HZ;refine gV (HY E _ ?_);have run:Kr (KN prog w) A (sortRuns'.run (Q1 kd (vs.toArray.zip vs.toArray) #[] 7 Y)) (λr s'=>s'=s3/\Good r.2) E s3:=by
   have ez:(Lu (Q1 kd (vs.toArray.zip vs.toArray) #[] 7 Y)).toList=vs.zip vs:=by show(vs.toArray.zip vs.toArray).toList=_;simp
   have h9:wpS (KN prog w) A E s3 sortRuns' (λ_ st'=>Good st') (Q1 kd (vs.toArray.zip vs.toArray) #[] 7 Y):=by
    have I0:(Lu (Q1 kd (vs.toArray.zip vs.toArray) #[] 7 Y)).size=vs.length:=by rw[<-L6,ez];simp
    refine S _ _ _ _ _ _ _ _ HZ (Q1 kd (vs.toArray.zip vs.toArray) #[] 7 Y) _ rfl rfl rfl (λx hx=>?_) (by rw[I0];exact B) (by rw[I0];exact I8) λst' p1 p2 p3=>⟨p3,by rw[ez]at p1;exact p1,p2⟩
    rw[ez]at hx;exact(QA hx).2
   exact h9
  refine gV (LW (Q:=λr s'=>s'=s3/\Good r.2) run (λr s' U=>?_) (λ_ _ z=>z));obtain⟨rfl,J,j,O⟩:=U;obtain⟨u,st'⟩:=r;refine gV (UG g3 rfl ?_);refine gV (O7 g3 rfl ?_ (by simp) (by simp only[Array.size_map];have:=j.length_eq;simp at this;rw[this];lia))
  dsimp only at J;rw[J];simp only[bne_self_eq_false,MK,if_false];refine D0 ?_;have gq:=Nr g3 (λ_=>Q3 (λx=>x.snd) (Lu st'));have eo:Q3 (λx=>x.snd) (Lu st')=((Lu st').toList.map λx=>x.snd).toArray:=by apply Q2.mp;simp
  refine q _ ((Lu st').toList.map λx=>x.snd) _ (λb o hb G=>?_) (by rw[gq,eo]) ?_ ?_
  ·rw[LC _ _ _ _ hb];exact keep b o hb G
  ·have pv:=j.map (λx:Ko=>x.snd);rw[Um (by simp)]at pv
   exact pv
  ·rw[LF];refine O.imp_of_mem λ{x y} hx hy hxy=>?_;have mx:=QA (j.mem_iff.mp hx);have my:=QA (j.mem_iff.mp hy);unfold dr at hxy;rw[mx.1,my.1,same y.2 (by rw[<-my.1];exact my.2),same x.2 (by rw[<-mx.1];exact mx.2)]at hxy
   exact hxy
theorem tL(u:hH):checkBuiltinCall "sorted" ⟨[u],[]⟩=pure ():=by kernel_rfl
theorem mG{cap:Nat}(S:i8 cap){m:Nat}{u:hH}{ds:List Me}{C:Heap->List hH->Prop}{Q:hH->p7->Prop}(hu:A.units+m+3<NA)(hs:pF m ds)(B:∀d∈ds,Pl d)(F:∀(E:hH->p7->Prop) (R:List hH->p7->Prop),(∀(h':Heap) (vs':List hH) (t':Nat),C h' vs'->RdL h' vs' ds->vs'.length<=Kn/\vs'.length<=cap->s.toks<=t'->R vs' {s with heap:=h',toks:=t'})->Kr (KN prog w) A.in1 (collect u) R E s)(q:∀(h1 h2:Heap) (vs out:List hH) (n' t':Nat),C h1 vs->(∀b o,h1.get? b=Z o->h2.get? b=Z o)->h2.get? h1.objs.size=Z (Tp "list" out.toArray n')->out.Perm vs->out.Pairwise (λx y=>ltK (toK (MJ h2 y)) (toK (MJ h2 x))=N3)->RdL h2 out ds->vs.length<=Kn->s.toks<=t'->Q (.ref h1.objs.size) {s with heap:=h2,toks:=t'}):
 Kr (KN prog w) A (call (.builtin "sorted") [u]) Q E s:=by
 refine wpAny_call (codeAny_call_builtin plain_sorted entry_sorted (NB (tL u) ?_));unfold Builtin.sorted;refine gV (NB (a:=()) (by kernel_rfl) ?_)
 refine gV (F _ _ λh1 vs t' fv G hl ht=>?_);obtain⟨hl,J⟩:=hl;refine gV (Q8 ?_ hl);refine gV (LN ?_);have L:RdL (h1.push {cls:=Lh "list",data:=Oc vs.toArray}) vs ds:=λv z=>by obtain⟨d,hd,as,r⟩:=G v z;exact⟨d,hd,as,aZ (λb o hb _=>hW _ hb) (B d hd) r⟩
 have pv:(h1.push {cls:=Lh "list",data:=Oc vs.toArray}).get? h1.objs.size=Z (Tp "list" vs.toArray 0):=Kj _ rfl;refine Le slot_list_sort (T:="list") ⟨_,pv,rfl⟩ entry_list_sort ?_ (args_list_sort _);refine B6 S (m:=m) pv L hs B hl J (by show A.units+1+1+m+1<NA;lia) λh2 out n' keep g2 j O=>⟨_,rfl,D0 ?_⟩
 have old:∀b o,h1.get? b=Z o->h2.get? b=Z o:=λb o hb=>keep b o (Lb (Kg hb)) (hW _ hb);have U:RdL h2 vs ds:=λv z=>by obtain⟨d,hd,as,r⟩:=G v z;exact⟨d,hd,as,aZ (λb o hb _=>old b o hb) (B d hd) r⟩
 refine q h1 h2 vs out n' t' fv old g2 j ?_ (λv z=>U v (j.mem_iff.mp z)) hl ht;have same:∀v∈vs,MJ (h1.push {cls:=Lh "list",data:=Oc vs.toArray}) v=MJ h2 v:=λv z=>by obtain⟨d,hd,as,r⟩:=G v z;rw[Nq (hs.lay d hd).1 (aZ (λb o hb _=>old b o hb) (B d hd) r),Nq (hs.lay d hd).1 (aZ (λb o hb _=>hW _ hb) (B d hd) r)]
 refine O.imp_of_mem λ{x y} hx hy hxy=>?_;rw[same y (j.mem_iff.mp hy),same x (j.mem_iff.mp hx)]at hxy;exact hxy
end
end Srt
namespace It
noncomputable def iO(f0:hH)(b:Bool)(d:VH)(i n ep:Nat)(ok ov:hH):Obj:={cls:=.type "dict_itemiterator",data:=.fields #[f0,.bool b,.ref d,.int i 0,.int n 0,.int ep 0,ok,ov]}
theorem slot_next:Slot "dict_itemiterator" "__next__" "dict_itemiterator.__next__":=.of (owner:="dict_itemiterator") (n:="__next__") (by rw[Si,PR];kernel_rfl) (by decide +kernel) (by decide +kernel) (by decide +kernel) (.inl (by decide +kernel)) (by rw[OQ];kernel_rfl)
theorem bI:entryFor table "dict_itemiterator.__next__"=Z Mp.«dict_itemiterator.__next__»:=Uo (by kernel_rfl)
theorem bX(a:hH):V7 "dict_itemiterator.__next__" ⟨[a],[]⟩:=by unfold V7;kernel_rfl
theorem gA:mroOf (.type "dict_itemiterator")=pure [.type "dict_itemiterator",.type "object"]:=by rw[mroOf_type];kernel_rfl
variable{a it d:VH}{b:Bool}{i ep:Nat}{ov:hH}{oa:Obj}
section
variable{prog:KW}{w:Lo}{A:Lr}{E:hH->p7->Prop}{s:p7}
theorem yA{M:Po}{Q:Option Obj->p7->Prop}(q:Q (s.heap.get? a) s):Kr M A (loadIfAlive a) Q E s:=λΓ p hp=>by show Sem.wp M Γ (Sem.loadIfAlive a Sem.pure) _ _ p s;rw[Sem.wp_loadIfAlive];exact q
theorem bN(ty:s.TypeIs (.ref it) "dict_itemiterator"){types:List String}{Q:Bool->p7->Prop}(q:Q (types.any λt=>[Lh "dict_itemiterator",Lh "object"].contains (Lh t)) s):Kr (model prog w) A (NL (.ref it) types) Q E s:=by
 have hm:=gA;unfold NL
 wp_walk
 exact q
theorem vT{n:Nat}{ok:hH}{Q:Bool->p7->Prop}(hi:s.heap.get? it=Z (iO (Nw a) b d i n ep ok ov))(j:s.heap.get? a=Z oa)(q:∀h',h'.get? it=Z (iO (Nw a) F2 d i n ep ok ov)->Mo it s.heap h'->Q N3 {s with heap:=h'}):Kr (model prog w) A (MD (.ref it)) Q E s:=by
 unfold MD;refine gV (Lg hi rfl (x:=Nw a) rfl ?_);refine gV (yA ?_);rw[show((a:Int)).toNat=a from KL a,j];dsimp only;rw[if_neg (by simp)]
 refine gV (Lg hi rfl (x:=.bool b) rfl ?_)
 cases b with
 |true=>
  rw[if_neg (by decide)]
  exact D0 (q s.heap hi (Heap.SameBut.refl ..))
 |false=>
  rw[if_pos (by decide)]
  refine gV (KI hi (by simp) λh' e' s'=>?_)
  exact D0 (q h' e' s')
theorem vU{n:Nat}{ok k v:hH}{Q:hH->p7->Prop}(hi:s.heap.get? it=Z (iO (Nw a) b d i n ep ok ov))(z:s.heap.get? a=Z oa)(q:∀h',h'.get? it=Z (iO (Nw a) F2 d i n ep ok ov)->h'.get? s.heap.objs.size=Z {cls:=.type "tuple",data:=.seq #[k,v]}->(∀b o,b≠it->s.heap.get? b=Z o->h'.get? b=Z o)->Q (.ref s.heap.objs.size) {s with heap:=h'}):Kr (model prog w) A (LV (.ref it) 6 k v) Q E s:=by
 unfold LV;refine gV (OP ?_ (by size_fits))
 have j:=Kg hi;refine gV (vT (a:=a) (oa:=oa) (hW _ hi) (hW _ z) λh' e' s'=>?_);dsimp only;rw[if_neg (by simp)]
 refine D0 (q h' e' ?_ λb o hb e=>?_)
 ·exact s'.extBut _ _ (LR j) (Kj _ rfl)
 ·exact s'.extBut _ _ hb (hW _ e)
theorem B7{ok cd:hH}{dd:Option VH}{sl:Array (Option hH)}{es:Array Ly}{e:Ly}{Q:Option hH->p7->Prop}(hi:s.heap.get? it=Z (iO (Nw a) b d i es.size ep ok ov))(B:a≠it)(J:s.heap.get? a=Z oa)(hd:s.heap.get? d=Z {cls:=cd,dict:=dd,data:=.dict es ep,slots:=sl})(he:es[i]?=Z e)(q:∀h',h'.get? it=Z (iO (Nw a) F2 d (i+1) es.size ep ok ov)->h'.get? s.heap.objs.size=Z {cls:=.type "tuple",data:=.seq #[e.key,e.val]}->(∀b o,b≠it->s.heap.get? b=Z o->h'.get? b=Z o)->Q (Z (.ref s.heap.objs.size)) {s with heap:=h'}):Kr (model prog w) A (MZ (.ref it)) Q E s:=by
 have ty:s.TypeIs (.ref it) "dict_itemiterator":=⟨_,hi,rfl⟩;unfold MZ;refine gV (Nb (La (name:=LI "__next__") ty slot_next (Le slot_next ty bI ?_ (bX _))));unfold Mp.«dict_itemiterator.__next__»;have hm:=gA
 wp_walk
 dsimp only;rw[if_neg (by simp)]
 wp_walk
 simp only[KL,he];refine gV (LW (Q:=λn s'=>n=2/\s'=s) ?_ (λn s' hs=>?_) λ_ _ z=>z)
 ·wp_walk
  exact⟨by kernel_rfl,rfl⟩
 obtain⟨rfl,rfl⟩:=hs;refine gV (bN ty ?_);refine gV (KI hi (by simp) λh1 e1 s1=>?_)
 refine gV (LN ?_);have j:Rl {s' with heap:=h1} (.ref it) "dict_itemiterator":=⟨_,e1,rfl⟩
 refine gV (bN j ?_);rw[if_neg (by decide +kernel)]at e1
 have e1:h1.get? it=Z (iO (Nw a) b d (i+1) es.size ep ok ov):=e1;have hsz:h1.objs.size=s'.heap.objs.size:=s1.1;have F:h1.get? a=Z oa:=s1.extBut a oa B J;refine Nk (by decide +kernel) ?_
 refine gV (bN j ?_);refine Nk (by decide +kernel) ?_
 refine vU (s:={s' with heap:=h1}) e1 F λh2 e2 G L=>?_
 refine D0 ⟨_,rfl,D0 ?_⟩;dsimp only at G⊢;rw[hsz]at G⊢;exact q h2 e2 G λb o hb e=>L b o hb (s1.extBut b o hb e)
theorem nx_end{f0 ok cd:hH}{dd:Option VH}{sl:Array (Option hH)}{es:Array Ly}{Q:Option hH->p7->Prop}(j:A.handled=Y)(hi:s.heap.get? it=Z (iO f0 b d es.size es.size ep ok ov))(hd:s.heap.get? d=Z {cls:=cd,dict:=dd,data:=.dict es ep,slots:=sl})(q:∀h',(∀b o,b≠it->s.heap.get? b=Z o->h'.get? b=Z o)->Q Y {s with heap:=h'}):Kr (model prog w) A (MZ (.ref it)) Q E s:=by
 have ty:s.TypeIs (.ref it) "dict_itemiterator":=⟨_,hi,rfl⟩;unfold MZ;refine gV (Nb (La (name:=LI "__next__") ty slot_next (Le slot_next ty bI ?_ (bX _))));unfold Mp.«dict_itemiterator.__next__»;have hm:=gA
 wp_walk
 dsimp only;rw[if_neg (by simp)]
 wp_walk
 have he:es[es.size]?=Y:=Ot (Ku _);simp only[KL,he];refine gV (LW (Q:=λn s'=>n=2/\s'=s) ?_ (λn s' hs=>?_) λ_ _ z=>z)
 ·wp_walk
  exact⟨by kernel_rfl,rfl⟩
 obtain⟨rfl,rfl⟩:=hs;refine gV (KI hi (by simp) λh1 e1 s1=>?_)
 refine gV (m:=V4 (.type "StopIteration") []) ?_;simp only[V4,V5];refine gV (LQ ?_ (by size_fits))
 refine gV (m:=OO _ _) (NB (a:=N6) (by first|rfl|(simp only[OO];rfl)) (LQ ?_ (by size_fits)))
 simp only[raiseNew];refine gV (T6 ?_)
 first|rw[show A.in1.handled=Y from j]|rw[j]
 refine gV (D0 (UB ?_));exact gV (Od (T:="StopIteration") (b:=F2) ⟨_,Kj _ rfl,rfl⟩ QN (D0 (q _ λb o hb e=>hW _ (hW _ (s1.extBut b o hb e)))))
end
end It
namespace It
variable{it d:VH}{ep:Nat}
section
variable{prog:KW}{w:Lo}{A:Lr}{E:hH->p7->Prop}{s:p7}
theorem vW{i n:Nat}{k v:hH}{Q:hH->p7->Prop}(hi:s.heap.get? it=Z (iO .none N3 d i n ep .none .none))(q:∀h',h'.get? it=Z (iO (Nw s.heap.objs.size) N3 d i n ep k v)->h'.get? s.heap.objs.size=Z {cls:=.type "tuple",data:=.seq #[k,v]}->(∀b o,b≠it->s.heap.get? b=Z o->h'.get? b=Z o)->Q (.ref s.heap.objs.size) {s with heap:=h'}):Kr (model prog w) A (LV (.ref it) 6 k v) Q E s:=by
 unfold LV;refine gV (OP ?_ (by size_fits))
 have z:=Kg hi;have j:=hW ({cls:=.type "tuple",data:=.seq [k,v].toArray}) hi;unfold MD;refine gV (gV (Lg j rfl (x:=.none) rfl (D0 ?_)));dsimp only;rw[if_pos rfl];refine gV (Lg j rfl (x:=.none) rfl ?_);refine gV (Lg j rfl (x:=.none) rfl ?_);refine gV (KI j (by simp) λh1 e1 s1=>?_)
 refine gV (KI e1 (by simp) λh2 e2 s2=>?_)
 refine gV (KI e2 (by simp) λJ F s3=>?_)
 refine gV (KI F (by simp) λB G s4=>?_)
 refine gV (NU ?_);have kp:∀b o,b≠it->(s.heap.push {cls:=.type "tuple",data:=.seq [k,v].toArray}).get? b=Z o->B.get? b=Z o:=λb o hb e=>s4.extBut b o hb (s3.extBut b o hb (s2.extBut b o hb (s1.extBut b o hb e)));refine D0 (q B G (kp _ _ (LR z) (Kj _ rfl)) λb o hb e=>kp b o hb (hW _ e))
theorem B8{i:Nat}{cd:hH}{dd:Option VH}{sl:Array (Option hH)}{es:Array Ly}{e:Ly}{Q:Option hH->p7->Prop}(hi:s.heap.get? it=Z (iO .none N3 d i es.size ep .none .none))(hd:s.heap.get? d=Z {cls:=cd,dict:=dd,data:=.dict es ep,slots:=sl})(he:es[i]?=Z e)(q:∀h',h'.get? it=Z (iO (Nw s.heap.objs.size) N3 d (i+1) es.size ep e.key e.val)->h'.get? s.heap.objs.size=Z {cls:=.type "tuple",data:=.seq #[e.key,e.val]}->(∀b o,b≠it->s.heap.get? b=Z o->h'.get? b=Z o)->Q (Z (.ref s.heap.objs.size)) {s with heap:=h'}):Kr (model prog w) A (MZ (.ref it)) Q E s:=by
 have ty:s.TypeIs (.ref it) "dict_itemiterator":=⟨_,hi,rfl⟩;unfold MZ;refine gV (Nb (La (name:=LI "__next__") ty slot_next (Le slot_next ty bI ?_ (bX _))));unfold Mp.«dict_itemiterator.__next__»;have hm:=gA
 wp_walk
 dsimp only;rw[if_neg (by simp)]
 wp_walk
 simp only[KL,he];refine gV (LW (Q:=λn s'=>n=2/\s'=s) ?_ (λn s' hs=>?_) λ_ _ z=>z)
 ·wp_walk
  exact⟨by kernel_rfl,rfl⟩
 obtain⟨rfl,rfl⟩:=hs;refine gV (bN ty ?_);refine gV (KI hi (by simp) λh1 e1 s1=>?_)
 refine gV (LN ?_);have j:Rl {s' with heap:=h1} (.ref it) "dict_itemiterator":=⟨_,e1,rfl⟩
 refine gV (bN j ?_);rw[if_neg (by decide +kernel)]at e1
 have e1:h1.get? it=Z (iO .none N3 d (i+1) es.size ep .none .none):=e1;have hsz:h1.objs.size=s'.heap.objs.size:=s1.1;refine Nk (by decide +kernel) ?_
 refine gV (bN j ?_);refine Nk (by decide +kernel) ?_
 refine vW (s:={s' with heap:=h1}) e1 λh2 e2 B F=>?_
 refine D0 ⟨_,rfl,D0 ?_⟩;dsimp only at e2 B⊢;rw[hsz]at e2 B⊢;exact q h2 e2 B λb o hb e=>F b o hb (s1.extBut b o hb e)
structure FM(h0:Heap)(s:p7)(it d:VH)(es:Array Ly)(ep i:Nat)(acc:Array hH):Prop where
 dict:∃cd dd sl,s.heap.get? d=Z {cls:=cd,dict:=dd,data:=.dict es ep,slots:=sl}
 iter:(i=0/\s.heap.get? it=Z (iO .none N3 d 0 es.size ep .none .none))∨(1<=i/\∃(a:VH) (b:Bool) (ok ov:hH) (oa:Obj),s.heap.get? it=Z (iO (Nw a) b d i es.size ep ok ov)/\a≠it/\s.heap.get? a=Z oa/\oa.cls=.type "tuple")
 size:acc.size=i
 nd:acc.toList.Nodup
 item:∀j,j<i->∃t e,acc[j]?=Z (.ref t)/\es[j]?=Z e/\s.heap.get? t=Z {cls:=.type "tuple",data:=.seq #[e.key,e.val]}/\h0.get? t=Y
theorem B9(hn:A.handled=Y){S:VH}{es:Array Ly}{res:hH}{R:U8->p7->Prop}(G:S≠it)(I8:S≠d)(I9:it≠d)(hz:es.size<=Kn)(h0:Heap)(Ic:S<h0.objs.size->True):
 ∀(k i:Nat) (s:p7) (acc:Array hH) (c:Nat),es.size-i=k->i<=es.size->FM h0 s it d es ep i acc->s.heap.get? S=Z {cls:=.type "list",data:=.seq acc c}->
  (∀b o,b≠it->b≠S->h0.get? b=Z o->s.heap.get? b=Z o)->
  (∀(h':Heap) (acc':Array hH) (c':Nat),(∀b o,b≠it->b≠S->h0.get? b=Z o->h'.get? b=Z o)->h'.get? S=Z {cls:=.type "list",data:=.seq acc' c'}->acc'.size=es.size->acc'.toList.Nodup->(∀j,j<es.size->∃t e,acc'[j]?=Z (.ref t)/\es[j]?=Z e/\h'.get? t=Z {cls:=.type "tuple",data:=.seq #[e.key,e.val]}/\h0.get? t=Y)->R (.ok (.ret res)) {s with heap:=h'})->
  OT (model prog w) A (.builtin "list.extend.loop" ⟨[.ref S,.ref it,res],[]⟩) R s:=by
 intro k
 induction k with
 |zero=>
  intro i s acc c hk hi H O kp q;have J:i=es.size:=∅
  obtain⟨cd,dd,sl,hd⟩:=H.dict;refine MY SY ?_;unfold Mp.«list.extend.loop»;dsimp only;refine gV ?_;have key:∀(f0:hH) (b:Bool) (ok ov:hH),s.heap.get? it=Z (iO f0 b d es.size es.size ep ok ov)->Kr (model prog w) (A.under (TY "list.extend.loop" {pos:=[KZ S,KZ it,res]})) (MZ (.ref it)) (λa s'=>a=Y/\∃h',(∀b o,b≠it->s.heap.get? b=Z o->h'.get? b=Z o)/\s'={s with heap:=h'}) (λe s'=>R (.error e) s') s:=by intro f0 b ok ov hi;refine nx_end hn hi hd λh' kp'=>⟨rfl,h',kp',rfl⟩
  have fv:Kr (model prog w) (A.under (TY "list.extend.loop" {pos:=[KZ S,KZ it,res]})) (MZ (.ref it)) (λa s'=>a=Y/\∃h',(∀b o,b≠it->s.heap.get? b=Z o->h'.get? b=Z o)/\s'={s with heap:=h'}) (λe s'=>R (.error e) s') s:=by
   rcases H.iter with⟨h0,e⟩|⟨h1,a,b,ok,ov,oa,e,_⟩
   ·refine key .none N3 .none .none ?_;rw[<-J,h0];rw[<-J,h0]at e;exact e
   ·refine key (Nw a) b ok ov ?_;rw[<-J];rw[<-J]at e;exact e
  refine LW fv (λa s' hs=>?_) λ_ _ z=>z;obtain⟨rfl,h',kp',rfl⟩:=hs;refine D0 (q h' acc c (λb o h1 h2 e=>kp' b o h1 (kp b o h1 h2 e)) (kp' S _ G O) (by rw[H.size];exact J) H.nd λj hj=>?_)
  obtain⟨t,e,e1,e2,B,e4⟩:=H.item j ∅
  refine⟨t,e,e1,e2,kp' t _ (λz=>?_) B,e4⟩
  rcases H.iter with⟨_,e⟩|⟨_,a,b,ok,ov,oa,e,_⟩
  ·rw[z,e]at B;simp[iO]at B
  ·rw[z,e]at B;simp[iO]at B
 |succ k ih=>
  intro i s acc c hk hi H O kp q;have Ia:i<es.size:=∅
  obtain⟨cd,dd,sl,hd⟩:=H.dict;have he:es[i]?=Z es[i]:=L9 Ia;refine MY SY ?_;unfold Mp.«list.extend.loop»;dsimp only;refine gV ?_;have key:Kr (model prog w) (A.under (TY "list.extend.loop" {pos:=[KZ S,KZ it,res]})) (MZ (.ref it)) (λv s'=>v=Z (.ref s.heap.objs.size)/\∃(h':Heap) (a:VH) (b:Bool) (ok ov:hH) (oa:Obj),s'={s with heap:=h'}/\h'.get? it=Z (iO (Nw a) b d (i+1) es.size ep ok ov)/\a≠it/\h'.get? a=Z oa/\oa.cls=.type "tuple"/\h'.get? s.heap.objs.size=Z {cls:=.type "tuple",data:=.seq #[es[i].key,es[i].val]}/\∀b o,b≠it->s.heap.get? b=Z o->h'.get? b=Z o) (λe s'=>R (.error e) s') s:=by
   rcases H.iter with⟨h0,e⟩|⟨h1,a,b,ok,ov,oa,e,e1,e2,B⟩
   ·subst h0;refine B8 e hd he λh' g1 g2 g3=>⟨rfl,h',_,_,_,_,_,rfl,g1,?_,g2,rfl,g2,g3⟩;exact LR (Kg e)
   ·refine B7 e e1 e2 hd he λh' g1 g2 g3=>⟨rfl,h',a,_,_,_,oa,rfl,g1,e1,g3 a oa e1 e2,B,g2,g3⟩
  refine LW key (λv s' hs=>?_) λ_ _ z=>z;obtain⟨rfl,h',a,b,ok,ov,oa,rfl,g1,g2,g3,g4,g5,pv⟩:=hs;have L:=Kg O;refine gV (O7 (pv S _ G O) rfl ?_ (by rw[H.size];lia) (by simp[H.size];lia))
  refine D0 ⟨OD Qu _,?_⟩;have gS:=Nr (c:="list") (pv S _ G O) (λx=>x.push (KZ s.heap.objs.size));have oth:∀b o,b≠S->h'.get? b=Z o->(h'.update S (My λx=>x.push (KZ s.heap.objs.size))).get? b=Z o:=λb o hb e=>by rw[LC _ _ _ _ hb];exact e
  have tup_ne:∀t (o:Obj),s.heap.get? t=Z o->o.cls=.type "tuple"->t≠it/\t≠S:=λt o e ec=>by
   constructor
   ·intro z
    rcases H.iter with⟨_,e'⟩|⟨_,a,b,ok,ov,oa,e',_⟩
    ·rw[z,e']at e;cases e;simp[iO]at ec
    ·rw[z,e']at e;cases e;simp[iO]at ec
   ·intro z;rw[z,O]at e;cases e;simp at ec
  refine ih (i+1) _ _ _ ∅ ∅ ⟨⟨cd,dd,sl,oth d _ I8.symm (pv d _ I9.symm hd)⟩,.inr ⟨∅,a,b,ok,ov,oa,oth it _ G.symm g1,g2,oth a _ ?_ g3,g4⟩,by simp[H.size],?_,?_⟩ gS (λb o h1 h2 e=>oth b o h2 (pv b o h1 (kp b o h1 h2 e))) λh2 HY c2=>q h2 HY c2
  ·intro z;rw[z,pv S _ G O]at g3;cases g3;simp at g4
  ·rw[KG];refine OK.mpr ⟨H.nd,by simp,λx hx y hy Ib=>?_⟩
   simp at hy;subst hy Ib;obtain⟨j,hj,ej⟩:=MQ.mp hx;obtain⟨t,e,e1,e2,B,e4⟩:=H.item j (by rw[<-H.size];simpa using hj)
   have e5:acc[j]?=Z (KZ s.heap.objs.size):=by rw[<-KS,I7 hj,ej]
   rw[e5]at e1;cases e1;exact absurd (Kg B) (LD _)
  ·intro j hj
   by_cases HZ:j<i
   ·obtain⟨t,e,e1,e2,B,e4⟩:=H.item j HZ;obtain⟨t1,t2⟩:=tup_ne t _ B rfl;refine⟨t,e,?_,e2,oth t _ t2 (pv t _ t1 B),e4⟩;rw[Array.getElem?_push_lt (by rw[H.size];exact HZ)]
    rw[<-e1,L9]
   ·have:j=i:=by lia
    subst this;have U:it<s.heap.objs.size:=by
     rcases H.iter with⟨_,e'⟩|⟨_,a,b,ok,ov,oa,e',_⟩
     ·exact Kg e'
     ·exact Kg e'
    have I0:h0.get? s.heap.objs.size=Y:=by
     cases hq:h0.get? s.heap.objs.size with
     |none=>rfl
     |some o=>exact absurd (Kg (kp _ _ (LR U) (LR L) hq)) (LD _)
    refine⟨s.heap.objs.size,es[j],?_,he,oth _ _ (LR L) g5,I0⟩;have:=H.size;subst this;simp
end
end It
namespace It
variable{v d:VH}{es:Array Ly}{ep:Nat}{cd:hH}{dd:Option VH}{sl:Array (Option hH)}
section
variable{prog:KW}{w:Lo}{A:Lr}{E:hH->p7->Prop}{s:p7}
theorem it_view{Q:hH->p7->Prop}(j:s.heap.get? v=Z {cls:=.type "dict_items",data:=.fields #[.ref d]})(hd:s.heap.get? d=Z {cls:=cd,dict:=dd,data:=.dict es ep,slots:=sl})(q:Q (.ref s.heap.objs.size) {s with heap:=s.heap.push (iO .none N3 d 0 es.size ep .none .none)}):Kr (model prog w) A (Rg (.ref v)) Q E s:=by
 have ty:s.TypeIs (.ref v) "dict_items":=⟨_,j,rfl⟩;refine Rc ty S8 (Le S8 ty F.entry_dict_items_iter ?_ (F.args_dict_items_iter_1 _));unfold Mp.«dict_items.__iter__»
 wp_walk
 exact⟨_,rfl,"dict_itemiterator",_,⟨_,Kj _ rfl,rfl⟩,slot_next.lookup,q⟩
theorem vX{Q:Bool->p7->Prop}(B:s.heap.get? v=Z {cls:=.type "dict_items",data:=.fields #[.ref d]})(q:Q N3 s):Kr (model prog w) A (Nz (.ref v)) Q E s:=by
 have ty:s.TypeIs (.ref v) "dict_items":=⟨_,B,rfl⟩;unfold Nz;refine gV (wpAny_specialOf ty F.slot_dict_items_len.lookup ?_);generalize j:("dict_items.__len__":String)=z
 (fail_if_success (clear j z));wp_delta
 rw[show splitId z=Z ("dict_items","__len__")from by subst j;decide +kernel]
 subst j;refine gV (Od (b:=F2) ty (by rw[OQ];kernel_rfl) ?_)
 rw[if_neg (by decide)]
 refine PM (by decide +kernel) ?_
 refine gV (Ol ty ?_);exact D0 q
open Builtin.List in
theorem yB{B:Lr}(hn:A.handled=Y){S:VH}{c:Nat}{R:U8->p7->Prop}(res:hH)(J:s.heap.get? v=Z {cls:=.type "dict_items",data:=.fields #[.ref d]})(hd:s.heap.get? d=Z {cls:=cd,dict:=dd,data:=.dict es ep,slots:=sl})(G:s.heap.get? S=Z {cls:=.type "list",data:=.seq #[] c})(hz:es.size<=Kn)(q:∀(h':Heap) (acc':Array hH) (c':Nat),(∀b o,b≠S->s.heap.get? b=Z o->h'.get? b=Z o)->h'.get? S=Z {cls:=.type "list",data:=.seq acc' c'}->acc'.size=es.size->acc'.toList.Nodup->(∀j,j<es.size->∃t e,acc'[j]?=Z (.ref t)/\es[j]?=Z e/\h'.get? t=Z {cls:=.type "tuple",data:=.seq #[e.key,e.val]}/\s.heap.get? t=Y)->R (.ok (.ret res)) {s with heap:=h'}):
 Kr (model prog w) B (listExtendWith (.ref S) (.ref v) res) (λfin s'=>match fin with|.done f=>R (.ok f) s'|.again c'=>c'.quiet=F2/\OT (model prog w) A c' R s') (λe s'=>R (.error e) s') s:=by
 have ty:s.TypeIs (.ref v) "dict_items":=⟨_,J,rfl⟩;have fv:S≠v:=λe=>by rw[e,J]at G;simp at G
 have L:S≠d:=λe=>by rw[e,hd]at G;simp at G
 have O:=Kg hd;have z:=Kg G;have HZ:=Kg J;have h1:listSameRef (.ref S) (.ref v)=N3:=by simp[listSameRef,fv]
 unfold listExtendWith;refine gV (Ol ty ?_);rw[if_neg (by rw[h1];decide)]
 refine gV (it_view J hd ?_);refine gV (LN (vX (d:=d) (hW _ J) ?_));refine PM (by decide +kernel) ?_
 refine gV (MW ?_);unfold listTouch;have U:(s.heap.push (iO .none N3 d 0 es.size ep .none .none)).get? S=Z (Tp "list" #[] c):=hW _ G;refine gV (gV (O7 U rfl ?_ (by simp) (by simp)))
 have pv:=Nr U (λx=>x.push N6);refine O7 pv rfl ?_ (by simp;decide) (by simp)
 have HY:=Nr pv (λx=>x.pop);refine D0 ⟨OD Qu _,?_⟩;have oth:∀b o,b≠S->s.heap.get? b=Z o->(((s.heap.push (iO .none N3 d 0 es.size ep .none .none)).update S (My λx=>x.push N6)).update S (My λx=>x.pop)).get? b=Z o:=λb o hb e=>by rw[LC _ _ _ _ hb,LC _ _ _ _ hb];exact hW _ e
 have hit:(((s.heap.push (iO .none N3 d 0 es.size ep .none .none)).update S (My λx=>x.push N6)).update S (My λx=>x.pop)).get? s.heap.objs.size=Z (iO .none N3 d 0 es.size ep .none .none):=by rw[LC _ _ _ _ (LR z),LC _ _ _ _ (LR z)];exact Kj _ rfl
 refine B9 hn (S:=S) (it:=s.heap.objs.size) (d:=d) (es:=es) (ep:=ep) (Lb z) L (LR O) hz s.heap (λ_=>trivial) es.size 0 _ #[] _ ∅ ∅ ⟨⟨cd,dd,sl,oth d _ L.symm hd⟩,.inl ⟨rfl,hit⟩,rfl,by simp,λj hj=>∅⟩ HY (λb o h1 h2 e=>oth b o h2 e) λh' acc' c' k1 k2 k3 k5 k4=>?_
 exact q h' acc' c' (λb o hb e=>k1 b o (Lb (Kg e)) hb e) k2 k3 k5 k4
theorem collect_view(hn:A.handled=Y){Q:List hH->p7->Prop}(pv:s.heap.get? v=Z {cls:=.type "dict_items",data:=.fields #[.ref d]})(hd:s.heap.get? d=Z {cls:=cd,dict:=dd,data:=.dict es ep,slots:=sl})(hz:es.size<=Kn)(q:∀(h':Heap) (us:List hH),(∀b o,s.heap.get? b=Z o->h'.get? b=Z o)->us.length=es.size->us.Nodup->(∀j,j<es.size->∃t e,us[j]?=Z (.ref t)/\es[j]?=Z e/\h'.get? t=Z {cls:=.type "tuple",data:=.seq #[e.key,e.val]}/\s.heap.get? t=Y)->Q us {s with heap:=h'}):Kr (model prog w) A (collect (.ref v)) Q E s:=by
 unfold collect;refine gV (wpAny_runValue (MY So ?_));unfold Mp.«proto.collect»;dsimp only;refine gV (Q8 ?_ (by simp))
 refine D0 ⟨Tq _ (by decide +kernel),?_⟩
 refine MY Up ?_;unfold Mp.«list.__iadd__»;refine gV (NB (a:=(KZ s.heap.objs.size,[KZ v])) (by kernel_rfl) ?_)
 have fv:=Kg pv;have z:(s.heap.push {cls:=Lh "list",data:=Oc [].toArray}).get? s.heap.objs.size=Z {cls:=Lh "list",data:=Oc #[] 0}:=Kj _ rfl;have fin:∀(h':Heap) (acc:Array hH) (c':Nat),(∀b o,b≠s.heap.objs.size->(s.heap.push {cls:=Lh "list",data:=Oc [].toArray}).get? b=Z o->h'.get? b=Z o)->h'.get? s.heap.objs.size=Z {cls:=.type "list",data:=.seq acc c'}->acc.size=es.size->acc.toList.Nodup->(∀j,j<es.size->∃t e,acc[j]?=Z (.ref t)/\es[j]?=Z e/\h'.get? t=Z {cls:=.type "tuple",data:=.seq #[e.key,e.val]}/\(s.heap.push {cls:=Lh "list",data:=Oc [].toArray}).get? t=Y)->
  Kr (model prog w) A (do
   let o <-load s.heap.objs.size
   match o.data with
   |.seq xs _=>pure xs.toList
   |_=>unsupported "internal:collect") Q E {s with heap:=h'}:=by
  intro h' acc c' B G J L O;refine gV (UW G ?_);exact D0 (q h' acc.toList (λb o e=>B b o (Lb (Kg e)) (hW _ e)) (by simpa using J) L λj hj=>by
   obtain⟨t,e,e1,e2,e3,e4⟩:=O j hj;refine⟨t,e,by rw[KS];exact e1,e2,e3,?_⟩
   cases hq:s.heap.get? t with
   |none=>rfl
   |some o=>rw[hW _ hq]at e4;cases e4)
 refine LW (yB (s:={s with heap:=s.heap.push {cls:=Lh "list",data:=Oc [].toArray}}) (R:=λr s'=>r=.ok (.ret (.ref s.heap.objs.size))/\Kr (model prog w) A (do
  let o <-load s.heap.objs.size
  match o.data with
  |.seq xs _=>pure xs.toList
  |_=>unsupported "internal:collect") Q E s') hn (KZ s.heap.objs.size) (hW _ pv) (hW _ hd) z hz λh' acc c' B G J L O=>⟨rfl,fin h' acc c' B G J L O⟩) (λfn s' h=>?_) (λe s' h=>?_)
 ·cases fn with
  |done f=>
   obtain⟨e,h⟩:=h
   cases e
   exact h
  |again c'=>refine⟨h.1,OU h.2 λr s1 U=>?_⟩;obtain⟨rfl,U⟩:=U;exact U
 ·cases h.1
end
end It
section
section
variable{P:KW}{w:Lo}{H:Hp}{h:Heap}{a:VH}{o:HO}
theorem ObjOk.there(x:ObjOk P w H h a o):∃ob,h.get? a=Z ob:=by
 cases o with
 |lst xs=>obtain⟨_,_,_,_,e⟩:=x;exact⟨_,e⟩
 |tup xs=>obtain⟨_,_,_,_,e,_⟩:=x;exact⟨_,e⟩
 |dK kvs=>obtain⟨_,_,_,_,o,_,_,e,_⟩:=x;exact⟨_,e⟩
 |dT kvs=>obtain⟨_,_,_,_,o,_,_,e,_⟩:=x;exact⟨_,e⟩
 |set S n=>obtain⟨o,_,_,_,e,_⟩:=x;exact⟨_,e⟩
 |ins C dx fs=>obtain⟨_,_,_,e,_⟩:=x;exact⟨_,e⟩
 |own y=>obtain⟨_,e⟩:=x;exact⟨_,e⟩
 |xd fs=>obtain⟨_,⟨_,_,_,e,_⟩,_⟩:=x;exact⟨_,e⟩
 |rng lo hi=>obtain⟨_,_,_,e⟩:=x;exact⟨_,e⟩
 |frz ob u=>obtain⟨e,_⟩:=x;exact⟨_,e⟩
 |tbl ps=>exact⟨_,show h.get? a=Z _ from x⟩
 |met f y=>exact⟨_,show h.get? a=Z _ from x⟩
 |ext φ=>obtain⟨_,⟨_,e⟩,_⟩:=x;exact⟨_,e⟩
end
noncomputable def lay(H:Hp)(N:VH->Option HO):Hp:=λb=>match N b with|some o=>Z o|none=>H b
section
variable{X:Cx}{pins:List (VH×Obj)}{σ:List (Option V)}{H:Hp}{s:p7}{h':Heap}{N:VH->Option HO}
theorem kR{o:HO}(e:N b=Z o):lay H N b=Z o:=by unfold lay;rw[e]
theorem ie(e:N b=Y):lay H N b=H b:=by unfold lay;rw[e]
theorem Inv.fresh'(I:Inv X pins σ H s)(e:s.heap.get? b=Y):H b=Y:=by
 cases q:H b with
 |none=>rfl
 |some o=>obtain⟨ob,eo⟩:=(I.hok b o q).there;rw[e]at eo;cases eo
theorem Inv.laidN(I:Inv X pins σ H s)(k:∀b u,s.heap.get? b=Z u->h'.get? b=Z u)(j:∀b o,N b=Z o->s.heap.get? b=Y)(new:∀b o,N b=Z o->ObjOk X.prog X.w (lay H N) h' b o):Inv X pins σ (lay H N) {s with heap:=h',toks:=t'}:=by
 have old:∀b u,s.heap.get? b=Z u->N b=Y:=λb u e=>by
  cases q:N b with
  |none=>rfl
  |some o=>rw[j b o q]at e;cases e
 have oldH:∀b o,H b=Z o->lay H N b=Z o:=λb o e=>by obtain⟨ob,eo⟩:=(I.hok b o e).there;rw[ie (old b ob eo)];exact e
 refine I.un ⟨λb u q _ _ _=>k b u q,λb u q _ _ _=>⟨u.slots,k b u q⟩,λb u q n _=>by rw[ie (old b u q)];exact n,λb u q _=>⟨u,k b u q⟩,λb xs q=>oldH b _ q,λb u xs q=>oldH b _ q,λb ps q=>⟨#[],by rw[oldH b _ q];simp⟩⟩ λb o e=>?_
 cases q:N b with
 |some o'=>rw[kR q]at e;cases e;exact new b o q
 |none=>rw[ie q]at e;exact(I.hok b o e).stay (λc v _ q=>k c v q) (λc q=>oldH c _ q) λc xs q=>oldH c _ q
end
namespace Mi
open L2.Srt
inductive Sh where
 |int
 |tup (l:List Sh)
mutual
noncomputable def hs:Sh->D->Bool
 |.int,.int _=>F2
 |.tup l,.tup ds=>hss l ds
 |_,_=>N3
noncomputable def hss:List Sh->List D->Bool
 |[],[]=>F2
 |s::l,d::ds=>hs s d&&hss l ds
 |_,_=>N3
end
mutual
noncomputable def pd:D->Me
 |.int i=>.int i
 |.tup ds=>.tuple (pds ds)
 |_=>.none
noncomputable def pds:List D->List Me
 |[]=>[]
 |d::ds=>pd d::pds ds
end
mutual
noncomputable def dep:Sh->Nat
 |.int=>0
 |.tup l=>deps l+1
noncomputable def deps:List Sh->Nat
 |[]=>0
 |s::l=>max (dep s) (deps l)
end
noncomputable def gB:Sh->Bool
 |.int=>F2
 |.tup (.int::l)=>decide (deps l<=6)
 |.tup (.tup a::l)=>decide (deps (.tup a::l)<=6)
 |.tup []=>N3
noncomputable def kyD(d:D):Ky:=toK (pd d)
theorem tM{x:D}(h:hs .int x=F2):∃i,x=.int i:=by cases x<;>first|exact⟨_,rfl⟩|cases h
theorem tN{l:List Sh}{x:D}(h:hs (.tup l) x=F2):∃ds,x=.tup ds/\hss l ds=F2:=by cases x<;>first|exact⟨_,rfl,h⟩|cases h
theorem nK{a:List D}(h:hss [] a=F2):a=[]:=by
 cases a with
 |nil=>rfl
 |cons _ _=>cases h
variable{s:Sh}
theorem nL{l:List Sh}{a:List D}(h:hss (s::l) a=F2):∃x r,a=x::r/\hs s x=F2/\hss l r=F2:=by
 cases a with
 |nil=>cases h
 |cons x r=>exact⟨x,r,rfl,Qe.mp h⟩
mutual
theorem vY:∀(s:Sh) (x y:D),hs s x=F2->hs s y=F2->Cmpb (pd x) (pd y)
 |.int,_,_,h,g=>by obtain⟨a,rfl⟩:=tM h;obtain⟨b,rfl⟩:=tM g;simp only[pd];exact .int a b
 |.tup l,_,_,h,g=>by obtain⟨a,rfl,h⟩:=tN h;obtain⟨b,rfl,g⟩:=tN g;simp only[pd];exact hss_cmp l a b h g
theorem hss_cmp:∀(l:List Sh) (a b:List D),hss l a=F2->hss l b=F2->Cmpb (.tuple (pds a)) (.tuple (pds b))
 |[],_,_,h,g=>by cases nK h;cases nK g;simp only[pds];exact .nil _
 |s::l,_,_,h,g=>by obtain⟨x,a,rfl,j⟩:=nL h;clear h;have h:=j;obtain⟨y,b,rfl,q⟩:=nL g;clear g;have g:=q;simp only[pds];exact .cons (vY s x y h.1 g.1) (hss_cmp l a b h.2 g.2)
end
mutual
theorem jV:∀(s:Sh) (x:D),hs s x=F2->Pl (pd x)/\(pd x).canLay0=F2/\(pd x).depth<=dep s
 |.int,_,h=>by obtain⟨a,rfl⟩:=tM h;simp only[pd];exact⟨.int a,rfl,by simp[Oq]⟩
 |.tup l,_,h=>by obtain⟨a,rfl,h⟩:=tN h;obtain⟨h1,h2,j⟩:=hss_pl l a h;simp only[pd];exact⟨.tup _ h1,by simpa[PJ]using h2,by simp[Oq,dep];lia⟩
theorem hss_pl:∀(l:List Sh) (a:List D),hss l a=F2->(∀x∈pds a,Pl x)/\Mk (pds a)=F2/\Nl (pds a)<=deps l
 |[],_,h=>by cases nK h;simp[pds,Mk,Nl]
 |s::l,_,h=>by
  obtain⟨x,a,rfl,j⟩:=nL h;clear h;have h:=j;obtain⟨h1,h2,B⟩:=jV s x h.1;obtain⟨g1,g2,g3⟩:=hss_pl l a h.2;simp only[pds];refine⟨λy q=>?_,by simp[Mk,h2,g2],by simp[Nl,deps];lia⟩
  rcases Km.mp q with z|z
  ·rw[z];exact h1
  ·exact g1 y z
end
mutual
theorem nM(M:Mem):∀(s:Sh) (x:D) (n:Nat),hs s x=F2->dep s<=n->rb n M x=Z (pd x)
 |.int,_,n,h,_=>by obtain⟨a,rfl⟩:=tM h;cases n<;>simp[rb,pd]
 |.tup l,_,n,h,j=>by
  obtain⟨a,rfl,h⟩:=tN h;simp only[dep]at j;obtain⟨k,rfl⟩:∃k,n=k+1:=⟨n-1,∅⟩
  simp only[rb,pd];rw[hss_rb M l a k h ∅];rfl
theorem hss_rb(M:Mem):∀(l:List Sh) (a:List D) (n:Nat),hss l a=F2->deps l<=n->aQ (rb n M) a=Z (pds a)
 |[],_,_,h,_=>by cases nK h;simp[pds,aQ]
 |s::l,_,n,h,j=>by obtain⟨x,a,rfl,q⟩:=nL h;clear h;have h:=q;simp only[deps]at j;simp only[pds,aQ];rw[nM M s x n h.1 ∅,hss_rb M l a n h.2 ∅];rfl
end
theorem iY(h:gB s=F2):dep s<=7:=by
 match s,h with
 |.int,_=>simp[dep]
 |.tup (.int::l),h=>simp[gB]at h;simp[dep,deps];lia
 |.tup (.tup a::l),h=>simp only[gB,decide_eq_true_eq]at h;simp only[dep];lia
theorem rC(h:gB s=F2){xs:List D}(hx:∀x∈xs,hs s x=F2):pF 7 (xs.map pd)/\∀d∈xs.map pd,Pl d:=by
 refine⟨⟨?_,?_,?_⟩,?_⟩
 ·intro d hd e he;obtain⟨x,h1,rfl⟩:=Ki.mp hd;obtain⟨y,h2,rfl⟩:=Ki.mp he;exact vY s x y (hx x h1) (hx y h2)
 ·intro d hd;obtain⟨x,h1,rfl⟩:=Ki.mp hd;obtain⟨_,g2,g3⟩:=jV s x (hx x h1);exact⟨g2,by have:=iY h;lia⟩
 ·match s,h with
  |.int,_=>
   left
   intro d hd;obtain⟨x,h1,rfl⟩:=Ki.mp hd;have:=hx x h1
   cases x<;>simp[hs]at this
   exact⟨_,rfl⟩
  |.tup (.int::l),_=>
   right;left
   intro d hd;obtain⟨x,h1,rfl⟩:=Ki.mp hd;have:=hx x h1
   cases x<;>simp[hs]at this
   rename_i ds
   cases ds with
   |nil=>simp[hss]at this
   |cons y ys=>
    simp[hss]at this
    cases y<;>simp[hs]at this
    exact⟨_,_,rfl⟩
  |.tup (.tup a::l),_=>
   right;right
   intro d hd;obtain⟨x,h1,rfl⟩:=Ki.mp hd;have:=hx x h1
   cases x<;>simp[hs]at this
   rename_i ds
   cases ds with
   |nil=>simp[hss]at this
   |cons y ys=>
    simp[hss]at this
    cases y<;>simp[hs]at this
    exact⟨_,_,rfl⟩
 ·intro d hd;obtain⟨x,h1,rfl⟩:=Ki.mp hd;exact(jV s x (hx x h1)).1
theorem eG{α β:Type}(f:α->β):∀{l m:List β},l.Perm m->∀{t:List α},t.map f=m->∃t':List α,t'.Perm t/\t'.map f=l:=by
 intro l m h
 induction h with
 |nil=>intro t e;exact⟨[],by rw[List.map_eq_nil_iff.mp e],rfl⟩
 |cons x h ih=>
  intro t e
  cases t with
  |nil=>simp at e
  |cons a t=>simp at e;obtain⟨t',h1,h2⟩:=ih e.2;exact⟨a::t',h1.cons a,by simp[h2,e.1]⟩
 |swap x y l=>
  intro t e
  match t,e with
  |a::b::t,e=>simp at e;exact⟨b::a::t,.swap _ _ _,by simp[e]⟩
 |trans h1 h2 j q=>intro t e;obtain⟨B,p2,e2⟩:=q e;obtain⟨t1,z,e1⟩:=j e2;exact⟨t1,z.trans p2,e1⟩
def fK(ys:List D):Prop:=ys.Pairwise λa b=>ltK (kyD b) (kyD a)=N3
theorem rD{K:Frag}{H:Hp}:∀{ds:List D} {vs:List V} {us:List hH},RDs K H ds vs->Vals vs us->∃t:List (D×V×hH),t.map (·.1)=ds/\t.map (·.2.1)=vs/\t.map (·.2.2)=us/\∀p∈t,RD K H p.1 p.2.1/\RelV p.2.1 p.2.2
 |[],vs,us,h,g=>by
  cases RDs.nil_iff.mp h
  cases g
  exact⟨[],rfl,rfl,rfl,λ_ h=>by simp at h⟩
 |d::ds,vs,us,h,g=>by
  obtain⟨v,r,rfl,h1,h2⟩:=Vp.mp h
  cases g with
  |cons g1 g2=>
   rename_i u us;obtain⟨t,e1,e2,j,q⟩:=rD h2 g2;exact⟨(d,v,u)::t,by simp[e1],by simp[e2],by simp[j],λp B=>by
    rcases Km.mp B with z|z
    ·rw[z];exact⟨h1,g1⟩
    ·exact q p z⟩
theorem rE{K:Frag}{H:Hp}:∀{t:List (D×V×hH)},(∀p∈t,RD K H p.1 p.2.1/\RelV p.2.1 p.2.2)->RDs K H (t.map (·.1)) (t.map (·.2.1))/\Vals (t.map (·.2.1)) (t.map (·.2.2))
 |[],_=>⟨RDs.nil,.nil⟩
 |p::t,h=>by
  obtain⟨h1,h2⟩:=rE (t:=t) λq j=>h q (by simp[j])
  exact⟨RDs.cons (h p (by simp)).1 h1,.cons (h p (by simp)).2 h2⟩
section
variable{X:Cx}
theorem qR{cap:Nat}(S:i8 cap)(J:X.A.units+16<NA){pins:List (VH×Obj)}{s:p7}{σ:St}{H:Hp}{Q:VK}(I:Inv X pins σ H s){M:Mem}(rm:RM X.K M H){es:List D}{sh:Sh}{vs:List V}{p:VH}(rvs:RDs X.K H es vs)(hok:gB sh=F2)(L:∀d∈es,hs sh d=F2)(q:∀p ys,M p=Y->ys.Perm es->fK ys->KE' X.K M H Q (.ref p) (af M p (.lst ys))){its:List hH}(hv:Vals vs its)(hl:vs.length<=Kn)(HZ:vs.length<=cap)(O:∀(E:hH->p7->Prop) (R:List hH->p7->Prop),(∀(h':Heap) (tk:Nat),(∀b o,s.heap.get? b=Z o->h'.get? b=Z o)->s.toks<=tk->R its {s with heap:=h',toks:=tk})->Kr (KN X.prog X.w) X.A.in1 (collect (.ref p)) R E s):
 Kr (KN X.prog X.w) X.A (call (.builtin "sorted") [.ref p]) (EP X pins σ Q) X.xe s:=by
 obtain⟨hS,G⟩:=rC hok L;have I9:=iY hok;obtain⟨t,t1,t2,t3,t4⟩:=rD rvs hv;have U:∀pp∈t,∃as,P7 s.heap pp.2.2 (pd pp.1) as:=λpp j=>by
  have hm:pp.1∈es:=by rw[<-t1];exact KY j
  exact bu I rm 16 pp.1 (pd pp.1) pp.2.1 pp.2.2 (nM M sh pp.1 16 (L _ hm) ∅) (t4 pp j).1 (t4 pp j).2
 have pv:RdL s.heap its (es.map pd):=λu J=>by rw[<-t3]at J;obtain⟨pp,j,rfl⟩:=Ki.mp J;obtain⟨as,ra⟩:=U pp j;exact⟨pd pp.1,KY (by rw[<-t1];exact KY j),as,ra⟩
 refine mG S (m:=7) (ds:=es.map pd) (C:=λh' vs'=>vs'=its/\∀b o,s.heap.get? b=Z o->h'.get? b=Z o) ∅ hS G (λE R hR=>?_) λh1 h2 vs' out n' tk hC old g2 B fv Ia Ib ht=>?_
 ·refine O E R λh' tk kp I0=>hR h' its tk ⟨rfl,kp⟩ (λu J=>?_) ⟨by rw[<-hv.length];exact hl,by rw[<-hv.length];exact HZ⟩ I0
  obtain⟨d,hd,as,ra⟩:=pv u J;exact⟨d,hd,as,aZ (λb o e _=>kp b o e) (G d hd) ra⟩
 ·obtain⟨rfl,kp⟩:=hC;rw[<-t3]at B;obtain⟨t',p1,p2⟩:=eG (fun pp:D×V×hH=>pp.2.2) B rfl;have hz:=rE (t:=t') fun pp j=>t4 pp (p1.mem_iff.mp j);have HY:∀b o,s.heap.get? b=Z o->h2.get? b=Z o:=fun b o e=>old b o (kp b o e);have z:s.heap.get? h1.objs.size=Y:=by
   cases hq:s.heap.get? h1.objs.size with
   |none=>rfl
   |some o=>exact absurd (Kg (kp _ _ hq)) (LD _)
  have I8:=I.fresh' z;have hlen:(t'.map (·.2.1)).length<=Kn:=by rw[tv,p1.length_eq,<-tv (f:=λpp:D×V×hH=>pp.2.1),t2];exact hl
  have I2:=I.laidN (t':=tk) (h':=h2) (N:=λb=>if b=h1.objs.size then Z (.lst (t'.map (·.2.1)))else Y) HY (λb o e=>by
   by_cases hb:b=h1.objs.size
   ·rw[hb];exact z
   ·rw[if_neg hb]at e;cases e) (λb o e=>by
   by_cases hb:b=h1.objs.size
   ·subst hb;rw[if_pos rfl]at e;cases e;exact⟨hlen,out,n',by rw[<-p2];exact hz.2,g2⟩
   ·rw[if_neg hb]at e;cases e)
  have eH:lay H (λb=>if b=h1.objs.size then Z (.lst (t'.map (·.2.1)))else Y)=upd H h1.objs.size (.lst (t'.map (·.2.1))):=by
   funext b
   unfold lay upd;dsimp only
   by_cases hb:b=h1.objs.size
   ·rw[if_pos hb,if_pos hb]
   ·rw[if_neg hb,if_neg hb]
  rw[eH]at I2;refine⟨.ref h1.objs.size,_,I2,rfl,?_⟩;refine cI rm hz.1 (λp' n=>q p' _ n ?_ ?_) I8
  ·have:=p1.map (λpp:D×V×hH=>pp.1);rw[t1]at this;exact this
  ·unfold fK;rw[LF];rw[<-p2,LF]at fv;refine fv.imp_of_mem fun {a b} ha hb hab=>?_;have rd:∀pp∈t',MJ h2 pp.2.2=pd pp.1:=fun pp j=>by
    have F:=p1.mem_iff.mp j;obtain⟨as,ra⟩:=U pp F;have hm:pp.1∈es:=by rw[<-t1];exact KY F
    exact Nq (hS.lay _ (KY hm)).1 (aZ (λb o e _=>HY b o e) (G _ (KY hm)) ra)
   rw[rd a ha,rd b hb]at hab;exact hab
end
end Mi
end
namespace Mi
open L2.Srt
noncomputable def kvD(kv:D×D):D:=.tup [kv.1,kv.2]
noncomputable def jW(ta:TEd):TEd:=λρ M Q=>ta ρ M λx M1=>∃a t kvs sh,x=.ref a/\M1 a=Z (.dct t kvs)/\gB sh=F2/\(∀kv∈kvs,hs sh (kvD kv)=F2)/\∀p ys,M1 p=Y->ys.Perm (kvs.map kvD)->fK ys->Q (.ref p) (af M1 p (.lst ys))
theorem tO{ta:TEd}(h:ae ta):ae (jW ta):=λρ M Q Q' i q=>h _ _ _ _ (λx G j=>(by obtain⟨a,t,kvs,sh,e,e1,e2,z,B⟩:=j;exact⟨a,t,kvs,sh,e,e1,e2,z,λp ys n F hs=>i _ _ (B p ys n F hs)⟩)) q
def iZ(K:Frag)(H:Hp)(kv:D×D)(e:Ly):Prop:=∃kV vV,RD K H kv.1 kV/\RelV kV e.key/\RD K H kv.2 vV/\RelV vV e.val
variable{K:Frag}{H:Hp}
theorem rF{d:D}{k:Key}(h:RKey d k):RD K H d (kV k):=by
 cases d<;>first
  |exact h.elim
  |(cases h;first|exact Vm.mpr rfl|exact Vt.mpr rfl)
theorem mH{K:Frag}{H:Hp}:∀{ds:List D} {ks:List Key},LP RKey ds ks->RDs K H ds (ks.map kV)
 |_,_,.nil=>RDs.nil
 |_,_,.cons r t=>RDs.cons (rF r) (mH t)
theorem zP{P:KW}{w:Lo}{K:Frag}{H:Hp}:∀{kvs:List (D×D)} {ps:List (Key×V)} {vs:List (Key×hH)} {es:List Ly},LP (λ(p:D×D) (q:Key×V)=>RKey p.1 q.1/\RD K H p.2 q.2) kvs ps->KV ps vs->Pairs (aR P w) es vs->LP (iZ K H) kvs es
 |_,_,_,_,.nil,.nil,.nil=>.nil
 |_,_,_,_,.cons j t1,.cons z B,.cons h1 h2 t3=>by
  refine .cons ⟨kV _,_,rF j.1,?_,j.2,by rw[h2];exact z.2⟩ (zP t1 B t3)
  rw[<-z.1]at h1
  rcases aU h1 with⟨i,t,e1,e2⟩|⟨x,t,e1,e2⟩
  ·rw[e1,e2];exact⟨t,rfl⟩
  ·rw[e1,e2];exact⟨t,rfl⟩
theorem zQ{P:KW}{w:Lo}{K:Frag}{H:Hp}:∀{kvs:List (D×D)} {ps:List (List Key×V)} {xs:List (List Key×VH×hH)},LP (λ(p:D×D) (q:List Key×V)=>RKeys p.1 q.1/\RD K H p.2 q.2) kvs ps->LP (λ(p:List Key×V) (q:List Key×VH×hH)=>p.1=q.1/\H q.2.1=Z (.tup (p.1.map kV))/\RelV p.2 q.2.2) ps xs->LP (iZ K H) kvs (xs.map (entryOfKey (QE (aR P w))))
 |_,_,_,.nil,.nil=>.nil
 |kv::_,_,_,.cons z t1,.cons B F=>by
  refine .cons ?_ (zQ t1 F);obtain⟨d,v⟩:=kv;have j:=z.1
  cases d<;>first
   |exact j.elim
   |exact⟨.ref _,_,Vv ⟨_,_,rfl,B.2.1,mH j⟩,rfl,z.2,B.2.2⟩
theorem bJ{α β:Type}{R:α->β->Prop}:∀{l:List α} {m:List β},LP R l m->l.length=m.length
 |_,_,.nil=>rfl
 |_,_,.cons _ t=>by simp[bJ t]
noncomputable abbrev Rw:=VH×(D×D)×V×V×Ly
theorem zR{K:Frag}{H:Hp}{G:VH->Ly->Prop}:∀{kvs:List (D×D)} {es:List Ly} {us:List hH},LP (iZ K H) kvs es->us.length=es.length->(∀j,j<es.length->∃t e,us[j]?=Z (.ref t)/\es[j]?=Z e/\G t e)->
 ∃L:List Rw,L.map (λr=>KZ r.1)=us/\L.map (λr=>r.2.1)=kvs/\∀r∈L,RD K H r.2.1.1 r.2.2.1/\RelV r.2.2.1 r.2.2.2.2.key/\RD K H r.2.1.2 r.2.2.2.1/\RelV r.2.2.2.1 r.2.2.2.2.val/\G r.1 r.2.2.2.2
 |_,_,us,.nil,hl,_=>⟨[],by simp at hl;simp[hl],rfl,λ_ h=>by simp at h⟩
 |kv::kvs,e::es,us,.cons r t,hl,h=>by
  cases us with
  |nil=>simp at hl
  |cons u us=>
   obtain⟨L,h1,h2,B⟩:=zR (us:=us) t (by simpa using hl) λj F=>by
    obtain⟨t,e',e1,e2,q⟩:=h (j+1) (by simpa using F)
    exact⟨t,e',by simpa using e1,by simpa using e2,q⟩
   obtain⟨t0,e',e1,e2,q⟩:=h 0 (by simp)
   simp at e1 e2;subst e1 e2;obtain⟨kV,vV,g1,g2,g3,J⟩:=r;exact⟨(t0,kv,kV,vV,e)::L,by simp[h1],by simp[h2],λr O=>by
    rcases Km.mp O with z|z
    ·rw[z];exact⟨g1,g2,g3,J,q⟩
    ·exact B r z⟩
theorem yC{L:List Rw}(j:(L.map λr=>r.1).Nodup){r:Rw}(q:r∈L):L.find? (λx=>decide (x.1=r.1))=Z r:=by
 induction L with
 |nil=>simp at q
 |cons x L ih=>
  simp only[Ks,Ma]at j
  rcases Km.mp q with z|z
  ·subst z;simp
  ·have:x.1≠r.1:=λe=>j.1 (by rw[e];exact KY z)
   rw[Ou (by simpa using this)]
   exact ih j.2 z
variable{a:VH}{kvs:List (D×D)}
section
variable{X:Cx}
theorem pH{h:Heap}{P:KW}{w:Lo}{ps:List (List Key×V)}(ok:ObjOk P w H h a (.dT ps))(pr:LP (λ(p:D×D) (q:List Key×V)=>RKeys p.1 q.1/\RD K H p.2 q.2) kvs ps):
 ∃cd dd sl es ep,h.get? a=Z {cls:=cd,dict:=dd,data:=.dict es ep,slots:=sl}/\es.size<=Kn/\LP (iZ K H) kvs es.toList:=by
 obtain⟨hl,B,xs,j,o,es,ep,h1,h2,z,F,G⟩:=ok;obtain⟨cd,dd,dat,sl⟩:=o;dsimp only at z;subst z;have pp:=zQ (P:=P) (w:=w) pr j;rw[<-F]at pp;refine⟨cd,dd,sl,es,ep,h1,?_,pp⟩;have:=bJ pp;have:=bJ pr;simp at *;lia
theorem rG{pins:List (VH×Obj)}{σ:St}{s:p7}{M:Mem}(I:Inv X pins σ H s)(rm:RM X.K M H){t:Bool}(e:M a=Z (.dct t kvs)):
 ∃cd dd sl es ep,s.heap.get? a=Z {cls:=cd,dict:=dd,data:=.dict es ep,slots:=sl}/\es.size<=Kn/\LP (iZ X.K H) kvs es.toList/\IsD H a:=by
 have ro:=rm a _ e
 cases t with
 |false=>obtain⟨ps,j,pr⟩:=ro;obtain⟨hl,B,vs,z,o,es,ep,h1,h2,q,G,F,J⟩:=I.hok a _ j;obtain⟨cd,dd,dat,sl⟩:=o;dsimp only at q;subst q;have pp:=zP pr z F;refine⟨cd,dd,sl,es,ep,h1,?_,pp,.inl ⟨_,Rd.of j⟩⟩;have:=bJ pp;have:=bJ pr;simp at *;lia
 |true=>obtain⟨ps,j,pr⟩:=ro;obtain⟨cd,dd,sl,es,ep,h1,h2,q⟩:=pH (I.hok a _ j) pr;exact⟨cd,dd,sl,es,ep,h1,h2,q,.inr ⟨_,Rd.of j⟩⟩
theorem mJ{d:VH}{Q:hH->p7->Prop}{A:Lr}{E:hH->p7->Prop}{s:p7}{cd:hH}{dd:Option VH}{sl:Array (Option hH)}{es:Array Ly}{ep:Nat}{prog:KW}{w:Lo}(ty:s.TypeIs (.ref d) "dict")(z:(d==Mv)=N3)(hd:s.heap.get? d=Z {cls:=cd,dict:=dd,data:=.dict es ep,slots:=sl})(q:Q (.ref s.heap.objs.size) {s with heap:=s.heap.push {cls:=.type "dict_items",data:=.fields #[.ref d]}}):Kr (model prog w) A (call (.builtin "dict.items") [.ref d]) Q E s:=by
 have j:cd=.type "dict":=by obtain⟨o,h1,h2⟩:=ty;rw[hd]at h1;cases h1;exact h2
 subst j;refine Le Rf ty F.entry_dict_items ?_ (F.args_dict_items_1 _);unfold Mp.«dict.items»
 wp_walk
 exact⟨_,rfl,q⟩
theorem yD{e:Expr}{ta:TEd}{p pos apos cpos:Pos}(hu:X.A.units+16<NA)(m:ae ta)(hc:X.calm=F2)(he:PE X e (lE X.K ta))(hg:Gl X "sorted")(hm:X.mg "sorted"=Y)(I8:Q6 e "items" X.env (eval e X.env)=eval e X.env)(I9:(apos.endLine==cpos.line)=F2):
 PE X (.Call (.Name "sorted" p) [.Call (.Attribute e "items" apos) [] [] cpos] [] pos) (lE X.K (jW ta)):=by
 intro pins s σ H Q I h;obtain⟨ρ,M,rs,rm,h⟩:=h;refine Oi (cQ I hg hm (u:=.builtin "sorted") (by decide +kernel) ?_ (by decide) (by decide))
 refine PV ?_ rfl rfl;refine Pe ?_;refine RG I8 I9 (thn (he pins s σ H (λv H1=>∃fv a t kvs sh,Ext M H fv H1/\RM X.K fv H1/\v=.ref a/\fv a=Z (.dct t kvs)/\gB sh=F2/\(∀kv∈kvs,hs sh (kvD kv)=F2)/\∀p ys,fv p=Y->ys.Perm (kvs.map kvD)->fK ys->KE' X.K M H Q (.ref p) (af fv p (.lst ys))) I ⟨ρ,M,rs,rm,m _ _ _ _ (λx fv ⟨a,t,kvs,sh,e,e1,e2,e3,q1⟩ v H1 x1 pv Il=>by subst e;exact⟨fv,a,t,kvs,sh,x1,pv,Vn.mp Il,e1,e2,e3,q1⟩) h⟩) λv s1 ⟨x,H1,I1,r1,fv,a,t,kvs,sh,x1,pv,ex,e1,hok,Ic,q⟩=>?_)
 subst ex;obtain rfl:v=KZ a:=r1;obtain⟨cd,dd,sl,es,ep,hd,hz,Id,hD⟩:=rG I1 pv e1;obtain⟨t1,t2,Im⟩:=gh I1 hD;refine⟨"dict","dict.items",TZ,Rf,U0,t1,t2,Oo rfl (T1 ?_)⟩;refine mJ t1 Im hd ?_;refine R9 ?_;have kpv:∀b o,s1.heap.get? b=Z o->(s1.heap.push {cls:=Lh "dict_items",data:=Pt #[KZ a]}).get? b=Z o:=λb o e=>hW _ e;obtain⟨hS,Io⟩:=rC (xs:=kvs.map kvD) hok (λd hd=>by obtain⟨kv,Ip,rfl⟩:=Ki.mp hd;exact Ic kv Ip)
 have U:=iY hok;have Ie:∀(h':Heap) (r:Rw),(∀b o,s1.heap.get? b=Z o->h'.get? b=Z o)->r.2.1∈kvs->RD X.K H1 r.2.1.1 r.2.2.1->RelV r.2.2.1 r.2.2.2.2.key->RD X.K H1 r.2.1.2 r.2.2.2.1->RelV r.2.2.2.1 r.2.2.2.2.val->h'.get? r.1=Z {cls:=.type "tuple",data:=.seq #[r.2.2.2.2.key,r.2.2.2.2.val]}->∃as,P7 h' (.ref r.1) (pd (kvD r.2.1)) as:=by
  intro h' r kp hm g1 g2 g3 g4 g5;have J:=Ic _ hm
  match sh,J,U with
  |.tup l,J,U=>
   simp only[kvD,hs]at J
   match l,J,U with
   |[sa,sb],J,U=>
    simp only[hss,q7,and_true]at J;simp only[dep,deps]at U;obtain⟨as,ra⟩:=bu I1 pv 16 _ _ _ _ (nM fv sa _ 16 J.1 ∅) g1 g2
    obtain⟨bs,rb'⟩:=bu I1 pv 16 _ _ _ _ (nM fv sb _ 16 J.2 ∅) g3 g4
    have ra:=aZ (λb o e _=>kp b o e) (jV sa _ J.1).1 ra;have rb':=aZ (λb o e _=>kp b o e) (jV sb _ J.2).1 rb';have fin:P7 h' (.ref r.1) (.tuple [pd r.2.1.1,pd r.2.1.2]) (as++(bs++[])):=.tuple g5 rfl rfl (.cons ra (.cons rb' .nil));exact⟨_,fin⟩
   |[],J,_=>simp[hss]at J
   |[_],J,_=>simp[hss]at J
   |_::_::_::_,J,_=>simp[hss]at J
  |.int,J,_=>simp[kvD,hs]at J
 refine mG (cap:=Kn) jS (m:=7) (ds:=(kvs.map kvD).map pd) (C:=λh' us=>(∀b o,s1.heap.get? b=Z o->h'.get? b=Z o)/\∃L:List Rw,L.map (λr=>KZ r.1)=us/\L.map (λr=>r.2.1)=kvs/\us.Nodup/\∀r∈L,RD X.K H1 r.2.1.1 r.2.2.1/\RelV r.2.2.1 r.2.2.2.2.key/\RD X.K H1 r.2.1.2 r.2.2.2.1/\RelV r.2.2.2.1 r.2.2.2.2.val/\h'.get? r.1=Z {cls:=.type "tuple",data:=.seq #[r.2.2.2.2.key,r.2.2.2.2.val]}/\s1.heap.get? r.1=Y) ∅ hS Io (λE R hR=>?_) λh1 h2 us out n' tk hC old g2 HY Ig Ix Iy ht=>?_
 ·refine It.collect_view (A:=X.A.in1) (s:={s1 with heap:=s1.heap.push {cls:=Lh "dict_items",data:=Pt #[KZ a]}}) (I.ok.hd hc) (Kj _ rfl) (kpv _ _ hd) hz λh' us k1 k2 k3 k4=>?_
  obtain⟨L,l1,l2,l3⟩:=zR (G:=λt e=>h'.get? t=Z {cls:=.type "tuple",data:=.seq #[e.key,e.val]}/\s1.heap.get? t=Y) Id (by simpa using k2) λj hj=>by
   obtain⟨t,e,e1,e2,e3,e4⟩:=k4 j (by simpa using hj)
   refine⟨t,e,e1,by rw[KS];exact e2,e3,?_⟩
   cases hq:s1.heap.get? t with
   |none=>rfl
   |some o=>rw[kpv _ _ hq]at e4;cases e4
  refine hR h' us _ ⟨λb o e=>k1 b o (kpv b o e),L,l1,l2,k3,l3⟩ (λu hu=>?_) ⟨by rw[k2];exact hz,by rw[k2];exact hz⟩ (Ku _)
  rw[<-l1]at hu;obtain⟨r,O,rfl⟩:=Ki.mp hu;obtain⟨p1,p2,p3,p4,p5,p6⟩:=l3 r O;have hm:r.2.1∈kvs:=by rw[<-l2];exact KY O
  obtain⟨as,ra⟩:=Ie h' r (λb o e=>k1 b o (kpv b o e)) hm p1 p2 p3 p4 p5;exact⟨_,KY (KY hm),as,ra⟩
 ·obtain⟨kp,L,l1,l2,l3,l4⟩:=hC;rw[<-l1]at HY;obtain⟨L',p1,p2⟩:=eG (fun r:Rw=>KZ r.1) HY rfl;have Ih:∀b o,s1.heap.get? b=Z o->h2.get? b=Z o:=fun b o e=>old b o (kp b o e);have B:s1.heap.get? h1.objs.size=Y:=by
   cases hq:s1.heap.get? h1.objs.size with
   |none=>rfl
   |some o=>exact absurd (Kg (kp _ _ hq)) (LD _)
  have Iq:(L.map λr=>r.1).Nodup:=by
   rw[<-l1]at l3;have:(L.map λr=>KZ r.1)=(L.map λr=>r.1).map KZ:=by simp
   rw[this]at l3;exact List.Pairwise.of_map _ (λa b I0 he=>I0 (by rw[he])) l3
  have HZ:∀r∈L',r∈L:=λr O=>p1.mem_iff.mp O;have hp:∀r∈L,r.1≠h1.objs.size:=λr O=>Lb (Kg (l4 r O).2.2.2.2.1)
  let N:VH->Option HO:=λb=>if b=h1.objs.size then Z (.lst (L'.map λr=>V.ref r.1))else(L.find? λx=>decide (x.1=b)).map λr=>.tup [r.2.2.1,r.2.2.2.1]
  have Ii:N h1.objs.size=Z (.lst (L'.map λr=>V.ref r.1)):=by show(if _ then _ else _)=_;rw[if_pos rfl]
  have Ir:∀r∈L,N r.1=Z (.tup [r.2.2.1,r.2.2.2.1]):=λr O=>by
   show(if _ then _ else _)=_
   rw[if_neg (hp r O),yC Iq O];rfl
  have Ia:∀b o,N b=Z o->b=h1.objs.size/\o=.lst (L'.map λr=>V.ref r.1)∨∃r∈L,b=r.1/\o=.tup [r.2.2.1,r.2.2.2.1]:=λb o e=>by
   by_cases hb:b=h1.objs.size
   ·subst hb;rw[Ii]at e;cases e;exact .inl ⟨rfl,rfl⟩
   ·right
    have e:((L.find? λx=>decide (x.1=b)).map λr=>HO.tup [r.2.2.1,r.2.2.2.1])=Z o:=by
     have e':(if b=h1.objs.size then Z (HO.lst (L'.map λr=>V.ref r.1))else(L.find? λx=>decide (x.1=b)).map λr=>HO.tup [r.2.2.1,r.2.2.2.1])=Z o:=e
     rw[if_neg hb]at e';exact e'
    cases hf:L.find? λx=>decide (x.1=b)with
    |none=>rw[hf]at e;cases e
    |some r=>rw[hf]at e;cases e;have Iu:=UP hf;exact⟨r,QZ hf,(by simpa using Iu:r.1=b).symm,rfl⟩
  have oldH:∀b o,H1 b=Z o->lay H1 N b=Z o:=λb o e=>by
   rw[ie]
   ·exact e
   ·cases hq:N b with
    |none=>rfl
    |some o'=>
     obtain⟨ob,eo⟩:=(I1.hok b o e).there
     rcases Ia b o' hq with⟨rfl,_⟩|⟨r,O,rfl,_⟩
     ·rw[B]at eo;cases eo
     ·rw[(l4 r O).2.2.2.2.2]at eo;cases eo
  have st:Stab H1 (lay H1 N):=⟨λb xs e=>oldH b _ e,λb o u e=>oldH b _ e⟩;have Ib:L'.length=kvs.length:=by rw[p1.length_eq,<-l2];simp
  have Iv:=bJ Id;have I2:=I1.laidN (t':=tk) (h':=h2) (N:=N) Ih (λb o e=>by
   rcases Ia b o e with⟨rfl,_⟩|⟨r,O,rfl,_⟩
   ·exact B
   ·exact(l4 r O).2.2.2.2.2) (λb o e=>by
   rcases Ia b o e with⟨rfl,rfl⟩|⟨r,O,rfl,rfl⟩
   ·refine⟨by rw[tv,Ib,Iv];simpa using hz,out,n',?_,g2⟩
    rw[<-p2];have:∀l:List Rw,Vals (l.map λr=>V.ref r.1) (l.map λr=>KZ r.1):=by
     intro l
     induction l with
     |nil=>exact .nil
     |cons r l ih=>exact .cons rfl ih
    exact this L'
   ·obtain⟨q1,q2,q3,q4,q5,q6⟩:=l4 r O;exact⟨by show 2<=Kn;decide,[r.2.2.2.2.key,r.2.2.2.2.val],.cons q2 (.cons q4 .nil),_,old _ _ q5,rfl,0,rfl⟩)
  refine⟨.ref h1.objs.size,_,I2,rfl,?_⟩;have Ij:fv h1.objs.size=Y:=pv.out (I1.fresh' B);have Ik:RDs X.K (lay H1 N) (L'.map λr=>kvD r.2.1) (L'.map λr=>V.ref r.1):=by
   have:∀l:List Rw,(∀r∈l,r∈L)->RDs X.K (lay H1 N) (l.map λr=>kvD r.2.1) (l.map λr=>V.ref r.1):=by
    intro l
    induction l with
    |nil=>intro _;exact RDs.nil
    |cons r l ih=>
     intro hl;obtain⟨q1,q2,q3,q4,q5,q6⟩:=l4 r (hl r (by simp))
     refine RDs.cons (Vv ⟨r.1,_,rfl,kR (Ir r (hl r (by simp))),RDs.cons (q1.mono st) (RDs.cons (q3.mono st) RDs.nil)⟩) (ih λr' Iw=>hl r' (by simp[Iw]))
   exact this L' HZ
  refine q h1.objs.size (L'.map λr=>kvD r.2.1) Ij ?_ ?_ (.ref h1.objs.size) (lay H1 N) (x1.trans ⟨λb o _ e=>oldH b o e,λb o n e=>?_⟩) (λa' o' e'=>?_) (Vn.mpr rfl)
  ·have:=p1.map (λr:Rw=>kvD r.2.1);rw[show L.map (λr:Rw=>kvD r.2.1)=(L.map λr=>r.2.1).map kvD by simp,l2]at this
   exact this
  ·unfold fK;rw[LF];rw[<-p2,LF]at Ig;refine Ig.imp_of_mem fun {a b} ha hb I0=>?_;have rd:∀r∈L',MJ h2 (KZ r.1)=pd (kvD r.2.1):=fun r O=>by
    obtain⟨q1,q2,q3,q4,q5,q6⟩:=l4 r (HZ r O);have hm:r.2.1∈kvs:=by rw[<-l2];exact KY (HZ r O)
    obtain⟨as,ra⟩:=Ie h2 r Ih hm q1 q2 q3 q4 (old _ _ q5);exact Nq (hS.lay _ (KY (KY hm))).1 ra
   rw[rd a ha,rd b hb]at I0;exact I0
  ·have hb:b≠h1.objs.size:=fun z=>by
    rw[z,I1.fresh' B]at e;cases e
   exact al hb
  ·by_cases hz:a'=h1.objs.size
   ·subst hz;rw[aa]at e';cases e';exact⟨_,kR Ii,Ik⟩
   ·rw[al hz]at e';exact(pv a' o' e').mono st λho e=>oldH a' ho e
end
section
noncomputable def nN(to tk tx:TEd):TEd:=λρ M Q=>to ρ M λx M1=>∃a t kvs,x=.ref a/\M1 a=Z (.dct t kvs)/\tk ρ M1 λk M2=>tx ρ M2 λz M3=>∃t' kvs',M3 a=Z (.dct t' kvs')/\eC t' k=F2/\Q ((dget kvs' k).getD z) M3
theorem vZ{to tk tx:TEd}(h1:ae to)(h2:ae tk)(B:ae tx):ae (nN to tk tx):=λρ M Q Q' i q=>h1 _ _ _ _ (λx O j=>(by obtain⟨a,t,kvs,e,e1,F⟩:=j;exact⟨a,t,kvs,e,e1,h2 _ _ _ _ (λk M2 G=>B _ _ _ _ (λz U j=>(by obtain⟨t',kvs',J,ok,L⟩:=j;exact⟨t',kvs',J,ok,i _ _ L⟩)) G) F⟩)) q
section
variable{X:Cx}
theorem Dd{M:Mem}(rm:RM K M H){t:Bool}(e:M a=Z (.dct t kvs)):IsD H a:=by
 have ro:=rm a _ e
 cases t with
 |false=>obtain⟨ps,j,_⟩:=ro;exact .inl ⟨_,Rd.of j⟩
 |true=>obtain⟨ps,j,_⟩:=ro;exact .inr ⟨_,Rd.of j⟩
theorem Ba{o e f:Expr}{to tk tx:TEd}{apos cpos:Pos}(pv:X.A.units+1<NA)(mo:ae to)(mk:ae tk)(mx:ae tx)(ho:PE X o (lE X.K to))(he:PE X e (lE X.K tk))(hf:PE X f (lE X.K tx))(m:M2 X o "get" apos e f cpos):
 PE X (.Call (.Attribute o "get" apos) [e,f] [] cpos) (lE X.K (nN to tk tx)):=by
 refine PE.imp (xM pv ho he hf m) λσ H Q h=>?_;obtain⟨ρ,M,rs,rm,q⟩:=h;refine⟨ρ,M,rs,rm,mo _ _ _ _ (λx fv g9 v H1 L j rd1=>?_) q⟩;obtain⟨a,t,kvs,e,e1,q1⟩:=g9;subst e
 cases Vn.mp rd1
 have B:=rs.mono (L.stab rm);refine⟨a,rfl,Dd j e1,ρ,fv,B,j,mk _ _ _ _ (λk M2 q2 v2 H2 O F G=>?_) q1⟩;have J:=B.mono (O.stab j);refine⟨ρ,M2,J,F,mx _ _ _ _ (λz M3 g9 v3 H3 U rm3 rd3=>?_) q2⟩;obtain⟨t',kvs',e3,ok,q3⟩:=g9;obtain⟨w,g,g1,g2⟩:=kK rm3 e3 ok (G.mono (U.stab F));refine⟨w,g,?_⟩;refine q3 _ H3 (L.trans (O.trans U)) rm3 ?_
 cases e4:dget kvs' k with
 |none=>rw[g2 e4];exact rd3
 |some d=>obtain⟨w',e5,r5⟩:=g1 d e4;rw[e5];exact r5
end
end
end Mi
namespace Mi
end Mi
namespace Mi
end Mi
namespace Mi
end Mi
namespace Mi
end Mi
namespace Dk
variable{it d:VH}{ep:Nat}{dd:Option VH}{sl:Array (Option hH)}{es:Array Ly}
section
variable{prog:KW}{w:Lo}{A:Lr}{E:hH->p7->Prop}{s:p7}
noncomputable def kO(d:VH)(i n ep:Nat):Obj:={cls:=.type "dict_keyiterator",data:=.fields #[.ref d,.int i 0,.int n 0,.int ep 0]}
theorem slot_next:Slot "dict_keyiterator" "__next__" "dict_keyiterator.__next__":=.of (owner:="dict_keyiterator") (n:="__next__") (by rw[Si,PR];kernel_rfl) (by decide +kernel) (by decide +kernel) (by decide +kernel) (.inl (by decide +kernel)) (by rw[OQ];kernel_rfl)
theorem bI:entryFor table "dict_keyiterator.__next__"=Z Mp.«dict_keyiterator.__next__»:=Uo (by kernel_rfl)
theorem bX(a:hH):V7 "dict_keyiterator.__next__" ⟨[a],[]⟩:=by unfold V7;kernel_rfl
theorem bN(ty:s.TypeIs (.ref it) "dict_keyiterator"){types:List String}{Q:Bool->p7->Prop}(q:Q (types.any λt=>[Lh "dict_keyiterator",Lh "object"].contains (Lh t)) s):Kr (model prog w) A (NL (.ref it) types) Q E s:=by
 have hm:=T7;unfold NL
 wp_walk
 exact q
theorem dB{i:Nat}{cd:hH}{e:Ly}{Q:Option hH->p7->Prop}(hi:s.heap.get? it=Z (kO d i es.size ep))(hd:s.heap.get? d=Z {cls:=cd,dict:=dd,data:=.dict es ep,slots:=sl})(he:es[i]?=Z e)(q:∀h',h'.get? it=Z (kO d (i+1) es.size ep)->Mo it s.heap h'->Q (Z e.key) {s with heap:=h'}):Kr (model prog w) A (MZ (.ref it)) Q E s:=by
 have ty:s.TypeIs (.ref it) "dict_keyiterator":=⟨_,hi,rfl⟩;unfold MZ;refine gV (Nb (La (name:=LI "__next__") ty slot_next (Le slot_next ty bI ?_ (bX _))));unfold Mp.«dict_keyiterator.__next__»;have hm:=T7
 wp_walk
 dsimp only;rw[if_neg (by simp)]
 simp only[KL,he];refine gV (LW (Q:=λn s'=>n=0/\s'=s) ?_ (λn s' hs=>?_) λ_ _ z=>z)
 ·wp_walk
  exact⟨by kernel_rfl,rfl⟩
 obtain⟨rfl,rfl⟩:=hs;refine gV (bN ty ?_);refine gV (KI hi (by simp) λh1 e1 s1=>?_)
 rw[if_neg (by decide +kernel)]at e1
 have e1:h1.get? it=Z (kO d (i+1) es.size ep):=e1;have j:Rl {s' with heap:=h1} (.ref it) "dict_keyiterator":=⟨_,e1,rfl⟩
 refine gV (LN ?_);refine gV (bN j ?_);refine PM (by decide +kernel) ?_
 refine D0 (D0 ⟨_,rfl,D0 ?_⟩);exact q h1 e1 s1
theorem nx_end{cd:hH}{Q:Option hH->p7->Prop}(j:A.handled=Y)(hi:s.heap.get? it=Z (kO d es.size es.size ep))(hd:s.heap.get? d=Z {cls:=cd,dict:=dd,data:=.dict es ep,slots:=sl})(q:∀h',(∀b o,b≠it->s.heap.get? b=Z o->h'.get? b=Z o)->Q Y {s with heap:=h'}):Kr (model prog w) A (MZ (.ref it)) Q E s:=by
 have ty:s.TypeIs (.ref it) "dict_keyiterator":=⟨_,hi,rfl⟩;unfold MZ;refine gV (Nb (La (name:=LI "__next__") ty slot_next (Le slot_next ty bI ?_ (bX _))));unfold Mp.«dict_keyiterator.__next__»;have hm:=T7
 wp_walk
 dsimp only;rw[if_neg (by simp)]
 have he:es[es.size]?=Y:=Ot (Ku _);simp only[KL,he];refine gV (LW (Q:=λn s'=>n=0/\s'=s) ?_ (λn s' hs=>?_) λ_ _ z=>z)
 ·wp_walk
  exact⟨by kernel_rfl,rfl⟩
 obtain⟨rfl,rfl⟩:=hs;refine gV (KI hi (by simp) λh1 e1 s1=>?_)
 refine gV (m:=V4 (.type "StopIteration") []) ?_;simp only[V4,V5];refine gV (LQ ?_ (by size_fits))
 refine gV (m:=OO _ _) (NB (a:=N6) (by first|rfl|(simp only[OO];rfl)) (LQ ?_ (by size_fits)))
 simp only[raiseNew];refine gV (T6 ?_)
 first|rw[show A.in1.handled=Y from j]|rw[j]
 refine gV (D0 (UB ?_));exact gV (Od (T:="StopIteration") (b:=F2) ⟨_,Kj _ rfl,rfl⟩ QN (D0 (q _ λb o hb e=>hW _ (hW _ (s1.extBut b o hb e)))))
theorem Bb{Q:hH->p7->Prop}(j:(d==Mv)=N3)(hd:s.heap.get? d=Z {cls:=.type "dict",dict:=dd,data:=.dict es ep,slots:=sl})(q:Q (.ref s.heap.objs.size) {s with heap:=s.heap.push (kO d 0 es.size ep)}):Kr (model prog w) A (Rg (.ref d)) Q E s:=by
 have ty:s.TypeIs (.ref d) "dict":=⟨_,hd,rfl⟩;refine Rc ty Uq (Le Uq ty F.entry_dict_iter ?_ (F.args_dict_iter_1 _));unfold Mp.«dict.__iter__»
 wp_walk
 exact⟨_,rfl,"dict_keyiterator",_,⟨_,Kj _ rfl,rfl⟩,slot_next.lookup,q⟩
theorem walk(hn:A.handled=Y)(it d:VH)(hne:d≠it)(es:Array Ly)(ep:Nat):
 Walks prog w A it [it,d] [it] es.size (λi v=>∃e,es[i]?=Z e/\v=e.key) (λi h=>h.get? it=Z (kO d i es.size ep)/\∃cd dd sl,h.get? d=Z {cls:=cd,dict:=dd,data:=.dict es ep,slots:=sl}) where
 sub:=λb hb=>by simp at hb;simp[hb]
 frame:=λ_ _ _ st k=>⟨k it (by simp) _ st.1,by obtain⟨cd,dd,sl,h⟩:=st.2;exact⟨cd,dd,sl,k d (by simp) _ h⟩⟩
 item:=λi s Q E hi st q=>by obtain⟨h1,cd,dd,sl,h2⟩:=st;refine dB (e:=es[i]) h1 h2 (L9 hi) λh' e' s'=>?_;exact q _ h' s.toks ⟨_,L9 hi,rfl⟩ ⟨e',cd,dd,sl,s'.extBut d _ hne h2⟩ λb o hb x=>s'.extBut b o (λz=>hb (by simp[z])) x
 done:=λs Q E st q=>by obtain⟨h1,cd,dd,sl,h2⟩:=st;exact nx_end hn h1 h2 λh' k=>q h' s.toks λb o hb x=>k b o (λz=>hb (by simp[z])) x
 self:=λi s Q E st q=>wpAny_pyIter_keyiter ⟨_,st.1,rfl,rfl⟩ q
theorem w4{Q:Bool->p7->Prop}(ty:s.TypeIs (.ref d) "dict")(q:Q N3 s):Kr (model prog w) A (Nz (.ref d)) Q E s:=by
 unfold Nz;refine gV (wpAny_specialOf ty F.slot_dict_len.lookup ?_);generalize j:("dict.__len__":String)=z
 (fail_if_success (clear j z));wp_delta
 rw[show splitId z=Z ("dict","__len__")from by subst j;decide +kernel]
 subst j;refine gV (Od (b:=F2) ty (by rw[OQ];kernel_rfl) ?_)
 rw[if_neg (by decide)]
 refine PM (by decide +kernel) ?_
 refine gV (Ol ty ?_);exact D0 q
open Builtin.List in
theorem yE(hn:A.handled=Y){S:VH}{c:Nat}{R:U8->p7->Prop}(res:hH)(pv:(d==Mv)=N3)(hd:s.heap.get? d=Z {cls:=.type "dict",dict:=dd,data:=.dict es ep,slots:=sl})(U:s.heap.get? S=Z {cls:=.type "list",data:=.seq #[] c})(hz:es.size<=Kn)(q:∀(h':Heap) (tk:Nat) (acc':Array hH) (c':Nat),(∀b o,b≠S->s.heap.get? b=Z o->h'.get? b=Z o)->h'.get? S=Z {cls:=.type "list",data:=.seq acc' c'}->acc'.toList=es.toList.map (·.key)->s.toks<=tk->R (.ok (.ret res)) {s with heap:=h',toks:=tk}):
 Kr (model prog w) A.in1 (listExtendWith (.ref S) (.ref d) res) (λfin s'=>match fin with|.done f=>R (.ok f) s'|.again c'=>c'.quiet=F2/\OT (model prog w) A c' R s') (λe s'=>R (.error e) s') s:=by
 have ty:s.TypeIs (.ref d) "dict":=⟨_,hd,rfl⟩;have G:S≠d:=λe=>by rw[e,hd]at U;simp at U
 have h1:listSameRef (.ref S) (.ref d)=N3:=by simp[listSameRef,G]
 unfold listExtendWith;refine gV (Ol ty ?_);rw[if_neg (by rw[h1];decide)]
 refine gV (Bb pv hd ?_);refine gV (LN (w4 (s:={s with heap:=s.heap.push (kO d 0 es.size ep)}) ⟨_,hW _ hd,rfl⟩ ?_))
 have B:=Kg U;have J:=Kg hd;have W:=(walk (prog:=prog) (w:=w) (A:=A.in1) hn s.heap.objs.size d (Lb J) es ep).toS;have fv:S∉[s.heap.objs.size,d]:=λhm=>by
  simp only[Km,Lj,or_false]at hm
  rcases hm with e|e
  ·exact absurd (e▸B) (LD _)
  ·exact G e
 refine PM (by decide +kernel) ?_
 refine gV (MW ?_);unfold listTouch;have L:(s.heap.push (kO d 0 es.size ep)).get? S=Z (Tp "list" #[] c):=hW _ U;refine gV (gV (O7 L rfl ?_ (by simp) (by simp)))
 have O:=Nr L (λx=>x.push N6);refine O7 O rfl ?_ (by simp;decide) (by simp)
 have HY:=Nr O (λx=>x.pop);have oth:∀b o,b≠S->s.heap.get? b=Z o->(((s.heap.push (kO d 0 es.size ep)).update S (My λx=>x.push N6)).update S (My λx=>x.pop)).get? b=Z o:=λb o hb e=>by rw[LC _ _ _ _ hb,LC _ _ _ _ hb];exact hW _ e
 have hit:(((s.heap.push (kO d 0 es.size ep)).update S (My λx=>x.push N6)).update S (My λx=>x.pop)).get? s.heap.objs.size=Z (kO d 0 es.size ep):=by rw[LC _ _ _ _ (LR B),LC _ _ _ _ (LR B)];exact Kj _ rfl
 refine D0 ⟨OD Qu _,codeAny_extend_loopS W hz _ fv _ es.size 0 _ _ _ rfl (Mj _) ⟨hit,_,_,_,oth d _ G.symm hd⟩ HY (ItemsOf.nil _) λs' acc c' hm HZ ha=>?_⟩;rw[hm.eq_with];refine q _ _ acc c' (λb o hb e=>?_) HZ ?_ hm.toks
 ·exact hm.heap b o (fun z=>by
   simp only[Km,Lj,or_false]at z
   rcases z with z|z
   ·exact hb z
   ·exact absurd (z▸Kg e) (LD _)) (oth b o hb e)
 ·obtain⟨g1,g2⟩:=ha;apply MX;intro j;rw[KS,KH,KS]
  by_cases hj:j<es.size
  ·obtain⟨e,he,hv⟩:=g2 j (acc[j]'∅) (L9 ∅)
   rw[L9 ∅,hv,he];rfl
  ·rw[Ot ∅,Ot ∅];rfl
theorem collect_dict(L:A.handled=Y){Q:List hH->p7->Prop}(j:(d==Mv)=N3)(hd:s.heap.get? d=Z {cls:=.type "dict",dict:=dd,data:=.dict es ep,slots:=sl})(O:es.size<=Kn)(q:∀(h':Heap) (tk:Nat),(∀b o,s.heap.get? b=Z o->h'.get? b=Z o)->s.toks<=tk->Q (es.toList.map (·.key)) {s with heap:=h',toks:=tk}):Kr (model prog w) A (collect (.ref d)) Q E s:=by
 unfold collect;refine gV (wpAny_runValue (MY So ?_));unfold Mp.«proto.collect»;dsimp only;refine gV (Q8 ?_ (by simp))
 refine D0 ⟨Tq _ (by decide +kernel),?_⟩
 refine MY Up ?_;unfold Mp.«list.__iadd__»;refine gV (NB (a:=(KZ s.heap.objs.size,[KZ d])) (by kernel_rfl) ?_)
 have z:(s.heap.push {cls:=Lh "list",data:=Oc [].toArray}).get? s.heap.objs.size=Z {cls:=Lh "list",data:=Oc #[] 0}:=Kj _ rfl;rw[Around.under_plain (by rfl) (by rfl)]
 refine LW (yE (s:={s with heap:=s.heap.push {cls:=Lh "list",data:=Oc [].toArray}}) (R:=λr s'=>r=.ok (.ret (.ref s.heap.objs.size))/\Kr (model prog w) A (do
  let o <-load s.heap.objs.size
  match o.data with
  |.seq xs _=>pure xs.toList
  |_=>unsupported "internal:collect") Q E s') L (KZ s.heap.objs.size) j (hW _ hd) z O λh' tk acc c' kp B U G=>⟨rfl,?_⟩) (λfn s' h=>?_) (λe s' h=>?_)
 ·refine gV (UW B ?_);refine D0 ?_;rw[U];exact q h' tk (λb o e=>kp b o (Lb (Kg e)) (hW _ e)) G
 ·cases fn with
  |done f=>
   obtain⟨e,h⟩:=h
   cases e
   exact h
  |again c'=>refine⟨h.1,OU h.2 λr s1 J=>?_⟩;obtain⟨rfl,J⟩:=J;exact J
 ·cases h.1
end
end Dk
namespace Mi
open L2.Srt
noncomputable def jX:RAd:=λds M Q=>∃a t kvs sh,ds=[.ref a]/\M a=Z (.dct t kvs)/\gB sh=F2/\(∀kv∈kvs,hs sh kv.1=F2)/\∀p ys,M p=Y->ys.Perm (kvs.map (·.1))->fK ys->Q (.ref p) (af M p (.lst ys))
theorem jY:b4 jX:=λ_ _ _ _ h j=>(by obtain⟨a,t,kvs,sh,e,e1,e2,z,q⟩:=j;exact⟨a,t,kvs,sh,e,e1,e2,z,λp ys n B hs=>h _ _ (q p ys n B hs)⟩)
theorem rH{K:Frag}{H:Hp}:∀{kvs:List (D×D)} {es:List Ly},LP (iZ K H) kvs es->∃vs,RDs K H (kvs.map (·.1)) vs/\Vals vs (es.map (·.key))
 |_,_,.nil=>⟨[],RDs.nil,.nil⟩
 |_,_,.cons r t=>by obtain⟨vs,h1,h2⟩:=rH t;obtain⟨kV,vV,g1,g2,_,_⟩:=r;exact⟨kV::vs,RDs.cons g1 h1,.cons g2 h2⟩
section
variable{X:Cx}
theorem pI(L:X.A.units+16<NA)(hc:X.calm=F2):CallR X (.builtin "sorted") (lR X.K jX):=by
 intro pins s σ H xs us Q I r h;obtain⟨ds,M,rm,rs,a,t,kvs,sh,rfl,e,hok,j,q⟩:=h;obtain⟨v,rfl,rv⟩:=rs.one;obtain⟨u,rfl,ru⟩:=dh r
 cases Vn.mp rv
 cases(show u=KZ a from ru)
 obtain⟨cd,dd,sl,es,ep,hd,O,z,U⟩:=rG I rm e;obtain⟨t1,t2,B⟩:=gh I U;obtain⟨vs,h1,h2⟩:=rH z;have F:cd=.type "dict":=by obtain⟨o,g1,g2⟩:=t1;rw[hd]at g1;cases g1;exact g2
 subst F;have pv:X.A.in1.handled=Y:=I.ok.hd hc;exact qR (cap:=Kn) jS L I rm h1 hok (λd hd=>by obtain⟨kv,G,rfl⟩:=Ki.mp hd;exact j kv G) q h2 (by have:=h2.length;rw[tv]at this;simp at this;lia) (by have:=h2.length;rw[tv]at this;simp at this;lia) λE R fv=>Dk.collect_dict pv B hd O λh' tk kp J=>fv h' tk kp J
end
end Mi
namespace Mi
end Mi
namespace Mi
end Mi
section
section
variable{X:Cx}{pins:List (VH×Obj)}{σ:St}{H:Hp}{s:p7}
theorem Inv.freeze(I:Inv X pins σ H s){ps:List (List Key×V)}(e:H a=Z (.dT ps)):∃o,Inv X pins σ (upd H a (.frz o (.dT ps))) s:=by
 obtain⟨hl,j,xs,pr,o,es,ep,h1,h2,B,F,G⟩:=id (I.hok a _ e);have mu:Mut (H a):=by rw[e];exact Oh
 have u:Un X.fs [] H (upd H a (.frz o (.dT ps))) s.heap s.heap:=Un.write mu (.inl rfl) (λb u _ q=>q) ⟨_,h1⟩;have ok:HOk X.prog X.w (upd H a (.frz o (.dT ps))) s.heap:=HOk.write I.hok mu (.inl rfl) (λb u _ q=>q) ⟨_,h1⟩
  ⟨h1,(I.hok a _ e).stay (λb u _ q=>q) (λb q=>by rw[ao (λz=>by subst z;rw[e]at q;cases q)];exact q) (λb xs q=>by rw[ao (λz=>by subst z;rw[e]at q;cases q)];exact q)⟩
 exact⟨o,I.un (t':=s.toks) u ok⟩
end
namespace Mi
section
variable{X:Cx}
noncomputable def pJ(i:Nat)(t:TSd):TSd:=λA ρ M=>∃a kvs,ρ[i]?=Z (Z (.ref a))/\((M a=Z (.dct F2 kvs)/\t A ρ (af M a (.fdc kvs)))∨(M a=Z (.fdc kvs)/\t A ρ M))
theorem yF{i:Nat}{t:TSd}(h:aH t):aH (pJ i t):=λa b ρ M l g9=>(by obtain⟨p,kvs,e,q⟩:=g9;exact⟨p,kvs,e,q.imp (λq=>⟨q.1,h _ _ _ _ l q.2⟩) λq=>⟨q.1,h _ _ _ _ l q.2⟩⟩)
theorem De{st:Stmt}{i:Nat}{t:TSd}(h:PS X st (lS X.K t)):PS X st (lS X.K (pJ i t)):=by
 intro pins s σ H D I ⟨ρ,M,A,rs,rm,lk,a,kvs,e,q⟩
 rcases q with⟨m,q⟩|⟨m,q⟩
 ·obtain⟨ps,j,pr⟩:=rm a _ m;obtain⟨o,I'⟩:=I.freeze j;have sb:Stab H (upd H a (.frz o (.dT ps))):=rm.stabPut m;exact h pins s σ _ D I' ⟨ρ,af M a (.fdc kvs),A,rs.mono sb,rm.put m ⟨o,ps,aM,Vq pr λ_ _ z=>⟨z.1,z.2.mono sb⟩⟩,lk.ext (Ext.put m),q⟩
 ·exact h pins s σ H D I ⟨ρ,M,A,rs,rm,lk,q⟩
end
end Mi
end
namespace Mi
end Mi
namespace Mi
section
section
variable{lt:Nat->Nat->Bool}{prog:KW}{w:Lo}{A:Lr}{R:U8->p7->Prop}{I:VH}{fp wr:List VH}{n:Nat}{P:Nat->hH->Prop}{St:Nat->Heap->Prop}{h0:Heap}{S:VH}
def Kpt(wr:List VH)(S:VH)(h h':Heap):Prop:=∀b o,b∉wr->b≠S->h.get? b=Z o->h'.get? b=Z o
theorem Kpt.trans{wr:List VH}{S:VH}{a b c:Heap}(h:Kpt wr S a b)(g:Kpt wr S b c):Kpt wr S a c:=λx o h1 h2 e=>g x o h1 h2 (h x o h1 h2 e)
noncomputable def lsO(vs:Array hH)(c:Nat):Obj:={cls:=.type "list",dict:=Y,data:=.seq vs c,slots:=#[]}
def yG(lt:Nat->Nat->Bool)(prog:KW)(w:Lo)(A:Lr)(P:Nat->hH->Prop)(wr:List VH)(S:VH)(h0:Heap):Prop:=∀(s:p7) (x y:hH) (i j:Nat) (Q:hH->p7->Prop) (E:hH->p7->Prop),Kpt wr S h0 s.heap->P i x->P j y->Q (.bool (lt i j)) s->Kr (model prog w) A (Qa .Lt x y) Q E s
def Lst(lt:Nat->Nat->Bool)(P:Nat->hH->Prop)(j:Nat)(u:hH):Prop:=∃i,P i u/\∀a,a<=j->lt a i=N3
structure yH(lt:Nat->Nat->Bool):Prop where
 tr:∀a b c,lt a b=F2->lt b c=F2->lt a c=F2
 ir:∀a,lt a a=N3
theorem Df{kw:List (Str×hH)}(W:Walks prog w A.in1 I fp wr n P St)(U:S∉fp)(pv:yG lt prog w A.in1 P wr S h0)(O:yH lt):∀(k j:Nat) (s:p7) (u:hH) (c:Nat),n-(j+1)=k->j+1<=n->St (j+1) s.heap->Lst lt P j u->s.heap.get? S=Z (lsO #[u,u] c)->Kpt wr S h0 s.heap->
 (∀v h' tk,Lst lt P (n-1) v->Kpt wr S s.heap h'->R (.ok (.ret v)) {s with heap:=h',toks:=tk})->OT (model prog w) A (.builtin "min.loop" ⟨[.ref I,.none,.ref S],kw⟩) R s:=by
 have fv:S∉wr:=λh=>U (W.sub _ h);have nm:(SI "min"++SI ".loop":String)="min.loop":=by decide
 intro k
 induction k with
 |zero=>
  intro j s u c hk hj st L hS _ hR;have ej:j+1=n:=∅
  refine MY RH ?_;rw[Qg NI _];refine gV (m:=SS (.ref S)) (MB hS rfl ?_);refine gV (m:=V8 (MZ (.ref I)) _) (QS (W.done s _ _ (ej▸st) λh' tk kk=>?_));have q:=kk S _ fv hS;refine gV (m:=updateSeq S (λ_=>#[])) (Sj q rfl (gV (NU (D0 ?_))));exact hR u _ tk (by rw[<-ej];exact L) λb o HZ I0 e=>(Mq _ _ (Ne.symm I0)).trans (kk b o HZ e)
 |succ k ih=>
  intro j s u c hk hj st L hS hK hR;have B:j+1<n:=∅
  refine MY RH ?_;rw[Qg NI _];refine gV (m:=SS (.ref S)) (MB hS rfl ?_);refine gV (m:=V8 (MZ (.ref I)) _) (QS (W.item (j+1) s _ _ B st λv h' tk HY st' kk=>?_));have q:=kk S _ fv hS;obtain⟨i,L,hle⟩:=L;have kk':Kpt wr S s.heap h':=λb o h1 _ e=>kk b o h1 e;refine gV (m:=V8 (holding [v,v] (Qa .Lt v u>>=_)) _) (QS (LN (gV (pv _ v u (j+1) i _ _ (hK.trans kk') HY L ?_))));refine gV (LN (NT ?_));refine gV (NU (D0 ?_))
  cases hb:lt (j+1) i with
  |true=>
   simp only[if_true];refine gV (Sj q rfl (gV (NU ?_)));rw[nm];have up:Kpt wr S s.heap (h'.update S (My λ_=>#[v,v])):=λb o h1 h2 e=>(Mq _ _ (Ne.symm h2)).trans (kk b o h1 e);refine D0 ⟨OD NI _,ih (j+1) _ v _ ∅ B (W.frame _ _ _ st' λb I8 o e=>?_) ⟨j+1,HY,λa ha=>?_⟩ (OF _ q rfl) (hK.trans up) λv' G tk'' J z=>hR v' G tk'' J (up.trans z)⟩
   rotate_left
   ·by_cases e:a=j+1
    ·rw[e];exact O.ir _
    ·cases hx:lt a (j+1)with
     |false=>rfl
     |true=>have:=O.tr _ _ _ hx hb;rw[hle a ∅]at this;cases this
   exact(Mq _ _ (λh:S=b=>U (by rw[h];exact I8))).trans e
  |false=>
   simp only[MK,if_false];refine gV (NU ?_);rw[nm];exact D0 ⟨OD NI _,ih (j+1) _ u c ∅ B st' ⟨i,L,λa ha=>by
    by_cases e:a=j+1
    ·rw[e];exact hb
    ·exact hle a ∅⟩ q (hK.trans kk') λv' G tk'' J z=>hR v' G tk'' J (kk'.trans z)⟩
theorem w5{kw:List (Str×hH)}(W:Walks prog w A.in1 I fp wr n P St)(j:S∉fp)(q:yG lt prog w A.in1 P wr S h0)(O:yH lt)(pv:0<n){s:p7}{c:Nat}(st:St 0 s.heap)(fv:s.heap.get? S=Z (lsO #[] c))(hK:Kpt wr S h0 s.heap)(hR:∀v h' tk,Lst lt P (n-1) v->Kpt wr S s.heap h'->R (.ok (.ret v)) {s with heap:=h',toks:=tk}):OT (model prog w) A (.builtin "min.loop" ⟨[.ref I,.none,.ref S],kw⟩) R s:=by
 have G:S∉wr:=λh=>j (W.sub _ h);have nm:(SI "min"++SI ".loop":String)="min.loop":=by decide
 refine MY RH ?_;rw[Qg NI _];refine gV (m:=SS (.ref S)) (MB fv rfl ?_);refine gV (m:=V8 (MZ (.ref I)) _) (QS (W.item 0 s _ _ pv st λv h' tk hP st' kk=>?_));have z:=kk S _ G fv;refine gV (m:=updateSeq S (λ_=>#[v,v])) (Sj z rfl ?_);rw[nm];have up:Kpt wr S s.heap (h'.update S (My λ_=>#[v,v])):=λb o h1 h2 e=>(Mq _ _ (Ne.symm h2)).trans (kk b o h1 e);refine D0 ⟨OD NI _,Df W j q O _ 0 _ v _ rfl pv (W.frame _ _ _ st' λb J o e=>?_) ⟨0,hP,λa ha=>by rw[Nat.le_zero.mp ha];exact O.ir _⟩ (OF _ z rfl) (hK.trans up) λv' L tk'' U B=>hR v' L tk'' U (up.trans B)⟩
 exact(Mq _ _ (λh:S=b=>j (by rw[h];exact J))).trans e
end
section
variable{prog:KW}{w:Lo}{A:Lr}{E:hH->p7->Prop}{s:p7}
theorem w6 {x:hH}{Q:hH->p7->Prop}(h:Kr (model prog w) A.in1 (Rg x) (fun it s₂=>∃I fp wr n P St lt,it=.ref I/\Walks prog w A.in1 I fp wr n P St/\St 0 s₂.heap/\(∀b∈fp,b<s₂.heap.objs.size)/\0<n/\yG lt prog w A.in1 P wr s₂.heap.objs.size s₂.heap/\yH lt /\
   ∀v h' tk,Lst lt P (n-1) v->(∀b o,b∉wr->s₂.heap.get? b=Z o->h'.get? b=Z o)->Q v {s₂ with heap:=h',toks:=tk}) E s):
 Kr (model prog w) A (call (.builtin "min") [x]) Q E s:=by
 have nm:(SI "min"++SI ".loop":String)="min.loop":=by decide
 refine call_function_tree F.kind_min F.plain_min F.entry_min (F.args_min1 _) ?_;refine gV (m:=QB "min" ["key","default"] 0 ⟨[],[]⟩) (NB (show QB "min" ["key","default"] 0 ⟨[],[]⟩=pure [Y,Y]from rfl) ?_);refine gV (D0 ?_);refine gV (LW h (λit s₂ G=>?_) λ_ _ e=>e);obtain⟨I,fp,wr,n,P,St,lt,rfl,W,st,q,J,j,O,L⟩:=G;refine gV (LQ ?_);have z:s₂.heap.objs.size∉fp:=λhm=>LD _ (q _ hm);rw[nm];refine D0 ⟨OD NI _,w5 W z j O J (W.frame _ _ _ st λb _ o e=>hW _ e) (Kj _ rfl) (λb o _ _ e=>hW _ e) λv h' tk U pv=>?_⟩;exact L v h' tk U λb o B e=>pv b o B (Lb (Kg e)) (hW _ e)
end
theorem w8:∀{a:List Int},HT.lexLt a a=N3
 |[]=>by simp[HT.lexLt]
 |x::a=>by simp[HT.lexLt,w8 (a:=a)]
theorem w9:∀{a b c:List Int},HT.lexLt a b=F2->HT.lexLt b c=F2->HT.lexLt a c=F2
 |[],[],_,h,_=>by simp[HT.lexLt]at h
 |[],_::_,[],_,g=>by simp[HT.lexLt]at g
 |[],_::_,_::_,_,_=>rfl
 |_::_,[],_,h,_=>by simp[HT.lexLt]at h
 |_::_,_::_,[],_,g=>by simp[HT.lexLt]at g
 |x::a,y::b,z::c,h,g=>by
  rw[HT.lexLt_cons]at h g⊢
  by_cases e1:x=y
  ·subst e1;rw[if_pos rfl]at h
   by_cases e2:x=z
   ·rw[if_pos e2]at g⊢;exact w9 h g
   ·rw[if_neg e2]at g⊢;exact g
  ·rw[if_neg e1]at h;have h:=of_decide_eq_true h
   by_cases e2:y=z
   ·subst e2;rw[if_neg e1];exact decide_eq_true h
   ·rw[if_neg e2]at g;have g:=of_decide_eq_true g;rw[if_neg ∅]
    exact decide_eq_true ∅
section
variable{X:Cx}
noncomputable def nO:RAd:=λxs M Q=>∃(a:VH) (nss:List (List Int)),xs=[.ref a]/\M a=Z (.lst (nss.map λns=>.tup (ns.map .int)))/\nss≠[]/\∀ns∈nss,(∀ms∈nss,HT.lexLt ms ns=N3)->Q (.tup (ns.map .int)) M
theorem mK:b4 nO:=λ_ _ _ _ h j=>(by obtain⟨a,nss,e,e1,e2,q⟩:=j;exact⟨a,nss,e,e1,e2,λi hi hl=>h _ _ (q i hi hl)⟩)
theorem qS(hu:X.A.units+16<NA)(hc:X.calm=F2):CallR X (.builtin "min") (lR X.K nO):=by
 intro pins s σ H xs us Q I r h;obtain⟨ds,M,rm,rs,a,nss,rfl,ea,O,q⟩:=h;obtain⟨v,rfl,rv⟩:=rs.one;obtain⟨u,rfl,ru⟩:=dh r
 cases Vn.mp rv
 cases(show u=KZ a from ru)
 obtain⟨vs,ha,rvs⟩:=rm _ _ ea;obtain⟨its,r1,U,hz⟩:=I.list (SqL.of ha);have hl:=r1.length;have pv:=rvs.length;rw[tv]at pv;have hL:s.heap.IsList a its.toArray:=U.isList;have lt:=Kg hL.choose_spec.1;have HZ:0<nss.length:=LB.mpr O;have hn:X.A.in1.handled=Y:=I.ok.hd hc;have z:∀(i:Nat) (v:hH),its.toArray[i]?=Z v->∃(ns:List Int) (t:VH) (ws:List hH),nss[i]?=Z ns/\RD X.K H (.tup (ns.map .int)) (.ref t)/\v=.ref t/\Uy s.heap t ws.toArray/\Pb ws.toArray.toList ns:=λi v e=>by
  have e':its[i]?=Z v:=by simpa using e
  have hi:i<its.length:=(KO.mp e').1;have G:i<nss.length:=∅
  obtain⟨x,hx,rx⟩:=rvs.get (i:=i) (d:=.tup (nss[i].map .int)) (by rw[KH,I7 G];rfl)
  obtain⟨y,L,ry⟩:=r1.get hx;rw[e']at L;cases L;obtain⟨t,ts,rfl,ht,rts⟩:=Vs rx;rw[rts.ints_eq]at ht;obtain⟨ws,r2,p2,_⟩:=I.tuple ht;exact⟨nss[i],t,ws,I7 G,rx,ry,p2,sQ r2⟩
 refine w6 (Ni hL ?_);refine⟨_,[_,a],[_],_,_,_,λi j=>HT.lexLt (nss.getD i []) (nss.getD j []),rfl,Walks.list (A:=X.A.in1) hn _ a (Lb lt) its.toArray,⟨⟨_,Kj _ rfl,rfl,rfl⟩,hL.push _⟩,λd hd=>?_,by simp;lia,λs' x y i j Q' E' fv hx L F=>?_,⟨λa b c=>w9,λa=>w8⟩,λv h' tk hP fv=>?_⟩
 ·rw[Mc]
  rcases Km.mp hd with rfl|hd
  ·exact Uj _
  ·rcases Km.mp hd with rfl|hd
   ·exact PD lt
   ·cases hd
 ·obtain⟨n1,t1,w1,f1,_,rfl,U,i1⟩:=z i x hx;obtain⟨n2,t2,w2,f2,_,rfl,p2,i2⟩:=z j y L;dsimp only at F;rw[Kv,Kv,f1,f2]at F;have up:∀{t:VH} {o:Obj},s.heap.get? t=Z o->s'.heap.get? t=Z o:=fun {t o} e=>by
   have B:=Kg e;refine fv t o (λhm=>?_) ?_ (hW _ e)
   ·simp only[Km,Lj,or_false]at hm;rw[hm]at B;exact LD _ B
   ·intro hm;rw[hm,Mc]at B;exact absurd B ∅
  obtain⟨o1,g1,h1⟩:=U;obtain⟨o2,g2,h2⟩:=p2;exact HT.lt_tupInts ⟨o1,up g1,h1⟩ ⟨o2,up g2,h2⟩ i1 i2 (by show X.A.units+1<NA;lia) F
 ·obtain⟨i,hP,hle⟩:=hP;obtain⟨ns,t,ws,hm,rx,rfl,_,_⟩:=z i v hP;have hle:∀ms∈nss,HT.lexLt ms ns=N3:=fun ms HY=>by
   obtain⟨k,J⟩:=List.getElem?_of_mem HY;have I0:=(KO.mp J).1;have:=hle k (by simp;lia)
   dsimp only at this;rw[Kv,Kv,J,hm]at this;exact this
  refine⟨.ref t,H,I.kept (λb o e=>fv b o (λhm=>?_) (hW _ e)),rfl,q ns (KU hm) hle _ H Ext.refl rm rx⟩
  rcases Km.mp hm with e1|hm
  ·exact absurd (e1▸Kg e) (LD _)
  ·cases hm
end
end
end Mi
section
section
variable{X:Cx}
noncomputable def rJ:V->List V->Hp->VK->Prop:=λx vs H Q=>∃(l:VH) (xs:List V) (i:Int) (y:V),x=.ref l/\vs=[.int i,y]/\H l=Z (.lst xs)/\0<=i/\i.toNat<=xs.length/\xs.length<Kn/\Q .non (upd H l (.lst (xs.take i.toNat++y::xs.drop i.toNat)))
theorem VB:∀{xs:List V} {us:List hH} (n:Nat),Vals xs us->Vals (xs.take n) (us.take n)
 |_,_,0,_=>by simp only[List.take_zero];exact .nil
 |_,_,_+1,.nil=>.nil
 |_,_,n+1,.cons r t=>.cons r (VB n t)
theorem VC:∀{xs:List V} {us:List hH} (n:Nat),Vals xs us->Vals (xs.drop n) (us.drop n)
 |_,_,0,r=>r
 |_,_,_+1,.nil=>.nil
 |_,_,n+1,.cons _ t=>VC n t
theorem wa:MtM X "list.insert" rJ:=by
 intro pins s σ H x vs v us Q I rx rv h;obtain⟨l,xs,i,y,rfl,rfl,G,h0,L,J,q⟩:=h
 cases rx
 obtain⟨u,j,rfl,ru,B⟩:=sL rv;obtain⟨t,rfl⟩:=ru;obtain⟨z,its,n,r,hl,e⟩:=I.lstM G;have hf:¬(!Builtin.List.listFitsIndex i)=F2:=by
  have:QT i=F2:=by unfold QT;rw[z4]at J;rw[q7];exact⟨decide_eq_true ∅,decide_eq_true ∅⟩
  rw[this];decide
 have hs:its.toArray.size<=Kn:=by rw[Kq];lia
 have mt:=PySem.AutoSeq1.list_insert_list_int_val_1 l its.toArray n i t j hf hs;refine PY Rm ⟨_,e,rfl⟩ PySem.F.entry_list_insert (PySem.F.args_list_insert_3 _ _ _) mt ⟨e,?_⟩;refine⟨.non,_,I.lset (its':=its.take i.toNat++j::its.drop i.toNat) G e ?_ ((VB i.toNat r).append (.cons B (VC i.toNat r))) ?_,rfl,q⟩
 ·have hm:(if i<0 then(i+(its.toArray.size:Int)).toNat else min i.toNat its.toArray.size)=i.toNat:=by
   rw[if_neg ∅,Kq];lia
  show(its.toArray.extract 0 (if i<0 then(i+(its.toArray.size:Int)).toNat else min i.toNat its.toArray.size)).push j++its.toArray.extract (if i<0 then(i+(its.toArray.size:Int)).toNat else min i.toNat its.toArray.size)=_
  rw[hm];apply Array.ext';simp only[List.extract_toArray,List.push_toArray,List.append_toArray];simp[Ny]
 ·rw[D2,L4,L3,MP];lia
end
namespace Mi
noncomputable def ig:D->List D->Mem->QD->Prop:=λx ds M Q=>∃(a:VH) (xs:List D) (i:Int) (y:D),x=.ref a/\ds=[.int i,y]/\M a=Z (.lst xs)/\0<=i/\i.toNat<=xs.length/\xs.length<Kn/\Q .non (af M a (.lst (xs.take i.toNat++y::xs.drop i.toNat)))
theorem iG:jG ig:=λ_ _ _ _ _ h j=>(by obtain⟨a,xs,k,y,e1,e2,B,F,z,G,q⟩:=j;exact⟨a,xs,k,y,e1,e2,B,F,z,G,h _ _ q⟩)
theorem yI{K:Frag}(v:V)(vs:List V)(H:Hp)(Q:VK)(h:lMt K ig v vs H Q):rJ v vs H Q:=by
 obtain⟨x,ds,M,rm,rx,rs,a,xs,i,y,rfl,rfl,e,j,z,B,q⟩:=h
 cases Vn.mp rx
 obtain⟨J,w,rfl,F,rw'⟩:=rs.two
 cases Vm.mp F
 obtain⟨us,G,ru⟩:=rm _ _ e;exact⟨a,us,i,w,rfl,rfl,G,j,by rw[ru.length];exact z,by rw[ru.length];exact B,kM rm e ((ru.take i.toNat).append (RDs.cons rw' (ru.drop i.toNat))) (Vu.mpr rfl) q⟩
end Mi
end
namespace Mi
section
section
variable{X:Cx}
noncomputable def tP:R2d
 |.int i,y,M,Q=>∃ns:List Int,ax M y=Z (ns.map .int)/\Q (.bl (decide (i∈ns))) M
 |_,_,_,_=>False
theorem yJ:aB tP:=by
 intro x y M Q Q' h q
 cases x<;>first
  |exact q.elim
  |(obtain⟨ns,e,q⟩:=q;exact⟨ns,e,h _ _ q⟩)
theorem pK{i:Int}:∀ns:List Int,inV (.int i) (ns.map V.int)=decide (i∈ns)
 |[]=>by simp[inV]
 |n::ns=>by
  have ih:=pK (i:=i) ns;unfold inV at ih⊢;rw[Ks,MU,ih];show(n==i || decide (i∈ns))=_
  by_cases h:n=i
  ·subst h;simp
  ·rw[show(n==i)=N3 by simpa using h]
   simp only[Q7,Km];exact decide_eq_decide.mpr ⟨.inr,λz=>z.resolve_left λw=>h w.symm⟩
theorem yK:OpR X (Ml .In) (l2 X.K tP):=by
 refine OpR.of uP λv u H Q h=>?_;obtain⟨x,y,M,rm,rx,ry,q⟩:=h
 cases x<;>first
  |exact q.elim
  |skip
 case int i=>
  obtain⟨ns,e,q⟩:=q;obtain⟨p,vs,rfl,hs,r⟩:=oO rm ry e;have rv:=r.ints_eq;subst rv
  cases Vm.mp rx
  refine⟨p,_,rfl,hs,rfl,?_,?_⟩
  ·simp[di]
  ·rw[if_neg Kl,pK];exact q _ H Ext.refl rm (Vo.mpr rfl)
end
end
section
section
variable{X:Cx}
def DF(M:Mem)(a:VH)(t:Bool)(kvs:List (D×D)):Prop:=M a=Z (.dct t kvs)∨(t=F2/\M a=Z (.fdc kvs))
noncomputable def tQ(neg:Bool):R2d:=λk x M Q=>∃a t kvs,x=.ref a/\DF M a t kvs/\eC t k=F2/\Q (.bl (if neg then !(dget kvs k).isSome else(dget kvs k).isSome)) M
theorem yL{neg:Bool}:aB (tQ neg):=λ_ _ _ _ _ h j=>(by obtain⟨a,t,kvs,e1,e2,z,q⟩:=j;exact⟨a,t,kvs,e1,e2,z,h _ _ q⟩)
theorem Dg{K:Frag}{M:Mem}{H:Hp}{a:VH}{t:Bool}{kvs:List (D×D)}{k:D}{v:V}(rm:RM K M H)(e:DF M a t kvs)(ok:eC t k=F2)(rk:RD K H k v):∃o,DGet H a v o/\o.isSome=(dget kvs k).isSome:=by
 have:∃o,DGet H a v o/\(∀d,dget kvs k=Z d->∃w,o=Z w/\RD K H d w)/\(dget kvs k=Y->o=Y):=by
  rcases e with e|⟨rfl,e⟩
  ·exact kK rm e ok rk
  ·obtain⟨ob,ps,j,pr⟩:=rm a _ e;exact oH (.inr ⟨ob,j⟩) pr ok rk
 obtain⟨o,g,g1,g2⟩:=this;refine⟨o,g,?_⟩
 cases h:dget kvs k with
 |none=>rw[g2 h];rfl
 |some d=>obtain⟨w,rfl,_⟩:=g1 d h;rfl
theorem wb(j:X.A.units+1<NA):OpR X (Ml .NotIn) (l2 X.K (tQ F2)):=by
 intro pins s σ H y x u v Q I ry rx h;obtain⟨dk,dx,M,rm,rk,rd,a,t,kvs,rfl,e,ok,q⟩:=h
 cases Vn.mp rd
 cases rx
 obtain⟨o,g,ho⟩:=Dg rm e ok rk;exact Ap j I g ry λs' I'=>⟨.bl (!o.isSome),H,I',rfl,by rw[ho];exact q _ H Ext.refl rm (Vo.mpr rfl)⟩
end
end
end Mi
namespace Mi
end Mi
namespace Mi
open L2.Srt
end Mi
namespace Srt
open AutoSeq1 (wpAny_loadPart')
open MeetsSeq MeetsSeq2 MeetsSeq3
end Srt
namespace Srt
end Srt
namespace Mi
open L2.Srt
end Mi
namespace Mi
end Mi
namespace Mi
end Mi
namespace Mi
end Mi
namespace It
variable{it d:VH}{i ep:Nat}{ov:hH}
section
variable{prog:KW}{w:Lo}{A:Lr}{E:hH->p7->Prop}{s:p7}
theorem yM{n:Nat}{k v ok:hH}{Q:hH->p7->Prop}(hi:s.heap.get? it=Z (iO .none N3 d i n ep ok ov))(q:∀h',h'.get? it=Z (iO (Nw s.heap.objs.size) N3 d i n ep k v)->h'.get? s.heap.objs.size=Z {cls:=.type "tuple",data:=.seq #[k,v]}->(∀b o,b≠it->s.heap.get? b=Z o->h'.get? b=Z o)->Q (.ref s.heap.objs.size) {s with heap:=h'}):Kr (model prog w) A (LV (.ref it) 6 k v) Q E s:=by
 unfold LV;refine gV (OP ?_ (by size_fits))
 have z:=Kg hi;have j:=hW ({cls:=.type "tuple",data:=.seq [k,v].toArray}) hi;unfold MD;refine gV (gV (Lg j rfl (x:=.none) rfl (D0 ?_)));dsimp only;rw[if_pos rfl];refine gV (Lg j rfl (x:=ok) rfl ?_);refine gV (Lg j rfl (x:=ov) rfl ?_);refine gV (KI j (by simp) λh1 e1 s1=>?_)
 refine gV (KI e1 (by simp) λh2 e2 s2=>?_)
 refine gV (KI e2 (by simp) λJ F s3=>?_)
 refine gV (KI F (by simp) λB G s4=>?_)
 refine gV (NU ?_);have kp:∀b o,b≠it->(s.heap.push {cls:=.type "tuple",data:=.seq [k,v].toArray}).get? b=Z o->B.get? b=Z o:=λb o hb e=>s4.extBut b o hb (s3.extBut b o hb (s2.extBut b o hb (s1.extBut b o hb e)));refine D0 (q B G (kp _ _ (LR z) (Kj _ rfl)) λb o hb e=>kp b o hb (hW _ e))
theorem nx_any{cd ok:hH}{dd:Option VH}{sl:Array (Option hH)}{es:Array Ly}{e:Ly}{Q:Option hH->p7->Prop}(hi:s.heap.get? it=Z (iO .none N3 d i es.size ep ok ov))(hd:s.heap.get? d=Z {cls:=cd,dict:=dd,data:=.dict es ep,slots:=sl})(he:es[i]?=Z e)(q:∀h',h'.get? it=Z (iO (Nw s.heap.objs.size) N3 d (i+1) es.size ep e.key e.val)->h'.get? s.heap.objs.size=Z {cls:=.type "tuple",data:=.seq #[e.key,e.val]}->(∀b o,b≠it->s.heap.get? b=Z o->h'.get? b=Z o)->Q (Z (.ref s.heap.objs.size)) {s with heap:=h'}):Kr (model prog w) A (MZ (.ref it)) Q E s:=by
 have ty:s.TypeIs (.ref it) "dict_itemiterator":=⟨_,hi,rfl⟩;unfold MZ;refine gV (Nb (La (name:=LI "__next__") ty slot_next (Le slot_next ty bI ?_ (bX _))));unfold Mp.«dict_itemiterator.__next__»;have hm:=gA
 wp_walk
 dsimp only;rw[if_neg (by simp)]
 wp_walk
 simp only[KL,he];refine gV (LW (Q:=λn s'=>n=2/\s'=s) ?_ (λn s' hs=>?_) λ_ _ z=>z)
 ·wp_walk
  exact⟨by kernel_rfl,rfl⟩
 obtain⟨rfl,rfl⟩:=hs;refine gV (bN ty ?_);refine gV (KI hi (by simp) λh1 e1 s1=>?_)
 refine gV (LN ?_);have j:Rl {s' with heap:=h1} (.ref it) "dict_itemiterator":=⟨_,e1,rfl⟩
 refine gV (bN j ?_);rw[if_neg (by decide +kernel)]at e1
 have e1:h1.get? it=Z (iO .none N3 d (i+1) es.size ep ok ov):=e1;have hsz:h1.objs.size=s'.heap.objs.size:=s1.1;refine Nk (by decide +kernel) ?_
 refine gV (bN j ?_);refine Nk (by decide +kernel) ?_
 refine yM (s:={s' with heap:=h1}) e1 λh2 e2 B F=>?_
 refine D0 ⟨_,rfl,D0 ?_⟩;dsimp only at e2 B⊢;rw[hsz]at e2 B⊢;exact q h2 e2 B λb o hb e=>F b o hb (s1.extBut b o hb e)
theorem mL:Slot "dict_itemiterator" "__iter__" "dict_itemiterator.__iter__":=.of (owner:="dict_itemiterator") (n:="__iter__") (by rw[Si,PR];kernel_rfl) (by decide +kernel) (by decide +kernel) (by decide +kernel) (.inl (by decide +kernel)) (by rw[OQ];kernel_rfl)
theorem tR:entryFor table "dict_itemiterator.__iter__"=Z Mp.«dict_keyiterator.__iter__»:=entryFor_alias (id':="dict_keyiterator.__iter__") (by kernel_rfl) (by first|rfl|decide +kernel|(unfold String.splitOn;simp +decide [String.splitOnAux])) (by decide +kernel) (by kernel_rfl)
theorem wc(a:hH):V7 "dict_itemiterator.__iter__" ⟨[a],[]⟩:=by unfold V7;kernel_rfl
theorem it_self{f0 ok:hH}{b:Bool}{n:Nat}{Q:hH->p7->Prop}(hi:s.heap.get? it=Z (iO f0 b d i n ep ok ov))(h:Q (.ref it) s):Kr (model prog w) A (Rg (.ref it)) Q E s:=by have ty:s.TypeIs (.ref it) "dict_itemiterator":=⟨_,hi,rfl⟩;refine Rc ty mL (Le mL ty tR ?_ (wc _));exact D0 ⟨_,rfl,"dict_itemiterator",_,ty,slot_next.lookup,h⟩
end
end It
noncomputable def Itp(n:Nat)(G:Hp->Prop)(yl:Nat->V->V->Hp->Prop):It:=⟨λi H=>i<n/\G H,λi H x H'=>∃p u v,H p=Y/\x=.ref p/\H'=upd H p (.tup [u,v])/\yl i u v H,λi H=>n<=i/\G H⟩
theorem tS{cx}(a it:VH){cd:hH}{dd:Option VH}{sl:Array (Option hH)}{es:Array Ly}{ep:Nat}{G:Hp->Prop}{yl:Nat->V->V->Hp->Prop}(J:∀H,G H->∃u,H a=Z (.frz {cls:=cd,dict:=dd,data:=.dict es ep,slots:=sl} u))(L:∀i H h,HOk P w H h->G H->∀e,es[i]?=Z e->∃u v,RelV u e.key/\RelV v e.val/\yl i u v H):
 fX P w K (.Tuple elts cx pos) (Itp es.size G yl) [it] it (λi h=>i<=es.size/\∃ok ov,h.get? it=Z (It.iO .none N3 a i es.size ep ok ov)) where
 mem:=by simp
 obj:=λi h st b hb=>by
  have e:b=it:=by simpa using hb
  subst e;obtain⟨_,ok,ov,e⟩:=st;exact⟨_,e,λv z=>by cases z⟩
 keep:=λi h h' st k=>by obtain⟨h1,ok,ov,e⟩:=st;exact⟨h1,ok,ov,k it (by simp) _ e⟩
 item:=by
  intro X q hw B hc i pins s σ H E I hf st j;subst q hw B;obtain⟨hi,j⟩:=j;obtain⟨_,ok,ov,st⟩:=st;obtain⟨u',F⟩:=J H j;obtain⟨u,v,ru,rv,yx⟩:=L i H s.heap I.hok j es[i] (L9 hi);refine It.nx_any (e:=es[i]) st (I.hok a _ F).1 (L9 hi) λh1 e1 O U=>⟨_,rfl,?_⟩;refine wpAny_letOwnedTupleGo_items (s:={s with heap:=h1}) e1 λh2 e2 s2=>?_
  have lt:∀{c o},s.heap.get? c=Z o->c≠s.heap.objs.size:=λe=>Lb (Kg e);have nz:s.heap.objs.size≠it:=(lt st).symm;have up:∀c o,c≠it->h1.get? c=Z o->h2.get? c=Z o:=λc o n e=>s2.extBut _ _ n e;have IL:Inv X pins σ (upd H s.heap.objs.size (.tup [u,v])) {s with heap:=s.heap.push {cls:=.type "tuple",data:=.seq #[es[i].key,es[i].val]}}:=I.laid (t':=s.toks) (λb o e=>hW _ e) (Ku _) ⟨by rw[z4];simp,[es[i].key,es[i].val],.cons ru (.cons rv .nil),PU _ _⟩
  have un:∀c∈[it],upd H s.heap.objs.size (.tup [u,v]) c=Y:=λc hc=>by
   have e:c=it:=by simpa using hc
   rw[e,ao nz.symm];exact(hf it (by simp)).1
  have kk:∀c o,c∉[it]->(s.heap.push {cls:=.type "tuple",data:=.seq #[es[i].key,es[i].val]}).get? c=Z o->h2.get? c=Z o:=λc o hc e=>by
   simp only[Km,Lj,or_false]at hc
   rcases Qc e with⟨rfl,rfl⟩|e
   ·exact up _ _ nz O
   ·exact up _ _ hc (U c o hc e)
  have pv:Inv X pins σ (upd H s.heap.objs.size (.tup [u,v])) {s with heap:=h2}:=Inv.turnedL (s:={s with heap:=s.heap.push {cls:=.type "tuple",data:=.seq #[es[i].key,es[i].val]}}) (h':=h2) (t':=s.toks) (fp:=[it]) IL (λc hc=>⟨un c hc,(hf c hc).2⟩) kk
  exact⟨.ref s.heap.objs.size,_,pv,rfl,⟨_,u,v,I.hok.fresh (Ku _),rfl,rfl,yx⟩,⟨hi,_,_,e2⟩,un⟩
 done:=by
  intro X q hw B hc i pins s σ H E I hf st j;subst q hw B;obtain⟨hi,j⟩:=j;obtain⟨h0,ok,ov,st⟩:=st;obtain⟨u,F⟩:=J H j;obtain⟨f0,f1,f2,fv,f4,f5⟩:=hf it (by simp)
  have e:i=es.size:=∅
  subst e;exact It.nx_end (I.ok.hd hc) st (I.hok a _ F).1 λh' k=>⟨rfl,I.turned (t':=s.toks) (λb o hb e=>k b o hb e) f0 f1 fv f4 f5⟩
 self:=λA i s Q E st h=>by obtain⟨_,ok,ov,e⟩:=st;exact It.it_self e h
namespace Mi
section
variable{X:Cx}
noncomputable def jZ(ta:TEd):TId:=λρ M R=>ta ρ M λx M1=>∃a kvs,x=.ref a/\M1 a=Z (.fdc kvs)/\R (kvs.map kvD) (λ_=>True) M1
theorem tT{ta:TEd}(h:ae ta):bZ (jZ ta):=λρ M Q Q' i q=>h _ _ _ _ (λx B j=>(by obtain⟨a,ds,e,e1,z⟩:=j;exact⟨a,ds,e,e1,i _ _ _ z⟩)) q
theorem pL{K:Frag}{H:Hp}:∀{kvs:List (D×D)} {es:List Ly},LP (iZ K H) kvs es->∀(i:Nat) (e:Ly),es[i]?=Z e->∃(kv:D×D) (u v:V),kvs[i]?=Z kv/\RD K H kv.1 u/\RelV u e.key/\RD K H kv.2 v/\RelV v e.val
 |_,_,.nil,_,_,h=>by simp at h
 |_,_,.cons r t,0,_,h=>by simp at h;subst h;obtain⟨kV,vV,g1,g2,g3,j⟩:=r;exact⟨_,kV,vV,rfl,g1,g2,g3,j⟩
 |_,_,.cons _ t,i+1,e,h=>by
  obtain⟨kv,u,v,h1,h2⟩:=pL t i e (by simpa using h)
  exact⟨kv,u,v,by simpa using h1,h2⟩
theorem yN{elts:List Expr}{cx}{tpos:Pos}{e:Expr}{ta:TEd}{apos cpos:Pos}(m:ae ta)(he:PE X e (lE X.K ta))(B:Q6 e "items" X.env (eval e X.env)=eval e X.env)(L:(apos.endLine==cpos.line)=F2):
 PI X (.Tuple elts cx tpos) (.Call (.Attribute e "items" apos) [] [] cpos) (lI X.K (jZ ta)):=by
 intro pins s σ H R I h;obtain⟨ρ,M,rs,rm,q⟩:=h;have hq:lE X.K ta σ H (λv H1=>∃a kvs O,v=.ref a/\Ext M H O H1/\RM X.K O H1/\O a=Z (.fdc kvs)/\∀J,gk X.K H1 (kvs.map kvD) (λ_=>True) J->R J H1):=
  ⟨ρ,M,rs,rm,m _ _ _ _ (fun x O ⟨a,kvs,e,e1,q1⟩ v H1 x1 j rd1=>by
   subst e
   cases Vn.mp rd1
   exact⟨a,kvs,O,rfl,x1,j,e1,λJ ij=>q1 J H1 x1 j ij⟩) q⟩
 refine RG B L (thn (he pins s σ H _ I hq) λu s1 g9=>?_);obtain⟨x,H1,I1,r1,a,kvs,O,e0,x1,j,e1,q1⟩:=g9;subst e0;obtain rfl:u=KZ a:=r1;obtain⟨o,ps,hp,pr⟩:=j _ _ e1;obtain⟨fv,ok⟩:=I1.hok a _ hp;obtain⟨cd,dd,sl,es,ep,g1,g2,g3⟩:=pH ok pr;obtain⟨ty,t2,HY⟩:=gh I1 (.inr ⟨ps,.inr ⟨o,hp⟩⟩);rw[fv]at g1
 cases g1
 have HZ:cd=.type "dict":=by obtain⟨o,h1,h2⟩:=ty;rw[fv]at h1;cases h1;exact h2
 subst HZ;have lz:kvs.length=es.size:=by have:=bJ g3;simpa using this
 refine⟨"dict","dict.items",TZ,Rf,U0,ty,t2,Oo rfl (T1 ?_)⟩;refine mJ ty HY fv ?_;have kpv:∀b o,s1.heap.get? b=Z o->(s1.heap.push {cls:=Lh "dict_items",data:=Pt #[KZ a]}).get? b=Z o:=λb o e=>hW _ e;have I2:Inv X pins σ H1 {s1 with heap:=s1.heap.push {cls:=Lh "dict_items",data:=Pt #[KZ a]}}:=I1.kept (t':=s1.toks) kpv
 refine It.it_view (s:={s1 with heap:=s1.heap.push {cls:=Lh "dict_items",data:=Pt #[KZ a]}}) (Kj _ rfl) (kpv _ _ fv) ?_
 refine⟨_,_,_,_,H1,rfl,I2.kept (t':=s1.toks) λb o e=>hW _ e,tS (G:=λH=>H a=Z (.frz {cls:=.type "dict",dict:=dd,data:=.dict es ep,slots:=sl} (.dT ps))/\LP (λ(p:D×D) (q:List Key×V)=>RKeys p.1 q.1/\RD X.K H p.2 q.2) kvs ps) (yl:=λi u v H=>∃kv,kvs[i]?=Z kv/\RD X.K H kv.1 u/\RD X.K H kv.2 v) a _ (λH h=>⟨_,h.1⟩) (λi H h hok ⟨ha,pr'⟩ e he=>?_),⟨Mj _,_,_,Kj _ rfl⟩,λb hb=>?_,q1 _ ?_⟩
 ·obtain⟨z0,ok'⟩:=hok a _ ha;obtain⟨cd,dd,sl',es',ep',z1,_,z3⟩:=pH ok' pr';rw[z0]at z1
  cases z1
  obtain⟨kv,u,v,y1,y2,y3,y4,y5⟩:=pL z3 i e (by simpa using he)
  exact⟨u,v,y3,y5,kv,y1,y2,y4⟩
 ·have e:b=(s1.heap.push {cls:=Lh "dict_items",data:=Pt #[KZ a]}).objs.size:=by simpa using hb
  subst e;exact I2.fpOk (Ku _) (I2.hok.fresh (Ku _))
 ·intro M' H' st rm' _ i;have U:=st.frz _ _ _ hp;have pr':LP (λ(p:D×D) (q:List Key×V)=>RKeys p.1 q.1/\RD X.K H' p.2 q.2) kvs ps:=Vq pr λ_ _ z=>⟨z.1,z.2.mono st⟩;rw[tv,lz];refine⟨λhi=>⟨hi,U,pr'⟩,λhi=>⟨⟨hi,U,pr'⟩,λx H'' y=>?_⟩⟩;obtain⟨p,u,v,n,e,e2,kv,y1,y2,y3⟩:=y;subst e e2;have pv:Stab H' (upd H' p (.tup [u,v])):=(Vx (M:=M') n).stab rm';exact⟨.inr ⟨p,[u,v],n,rfl⟩,kvD kv,by rw[KH,y1];rfl,Vv ⟨p,[u,v],rfl,aM,RDs.cons (y2.mono pv) (RDs.cons (y3.mono pv) RDs.nil)⟩⟩
end
end Mi
section
section
variable{X:Cx}
noncomputable def EE:R2:=λx y H Q=>∃l b xs zs,x=.ref l/\y=.ref b/\H l=Z (.lst xs)/\H b=Z (.lst zs)/\xs.length+zs.length<=Kn/\Q (.ref l) (upd H l (.lst (xs++zs)))
theorem EF{M:Po}{E:hH->p7->Prop}{a b:hH}{Q:hH->p7->Prop}(z:s.TypeIs a "list")(hb:s.TypeIs b "list")(hc:Kr M A (call (.builtin "list.__iadd__") [a,b]) Q E s):Kr M A (NF .Add a b) Q E s:=by
 unfold NF;refine LN ?_;have hl:V0 (.type "list") (dunderI "add")=pure (Z (.builtin "list.__iadd__")):=PySem.F.slot_list_iadd.lookup;have B:isSeqSlot (Z (.builtin "list.__iadd__"))=F2:=by decide +kernel
 have j:Ur (.type "list") "add" (Operator.Add==.Add)=pure N3:=by unfold Ur;show(V0 (.type "list") (dunderI "add")>>=λfi=>pure (fi.isSome && !isSeqSlot fi))=pure N3;rw[hl,pure_bind,B];rfl
 have q:seqSlot? (.type "list") (dunderI "add")=pure (Z (.builtin "list.__iadd__")):=PySem.seqSlot_of hl B;refine gV (Ol z (gV (NB j ?_)));show Kr M A (if N3=F2 then _ else _) Q E s
 rw[if_neg Kl];refine gV (PySem.wpAny_binaryOp1_none (nm:="add") z hb PySem.noFill_list_add ?_);refine gV (NB q ?_);exact gV (MW hc)
theorem Bc:OpR X (NF .Add) EE:=by
 intro pins s σ H x y v u Q I rx ry h;obtain⟨l,b,xs,zs,rfl,rfl,G,J,pv,q⟩:=h
 cases rx
 cases ry
 obtain⟨z,its,n,r,hl,e⟩:=I.lstM G;obtain⟨fv,j,L,O,U,e2⟩:=I.lstM J;have hsz:its.toArray.size+j.toArray.size<=Kn:=by rw[Kq,Kq];lia
 have B:¬(!its.toArray.isEmpty&&O1 (its.toArray.size+j.toArray.size))=F2:=by rw[oj hsz,Bool.and_false];exact Kl
 refine EF ⟨_,e,rfl⟩ ⟨_,e2,rfl⟩ (PY PySem.F.slot_list_iadd ⟨_,e,rfl⟩ PySem.F.entry_list_iadd (PySem.F.args_list_iadd_2 _ _)
  (AutoSeq1.list___iadd___list_list_0 l its.toArray n b j.toArray L B (by rw[Kq];lia) ∅) ⟨e,e2,?_⟩)
 refine⟨.ref l,_,I.lset (its':=its++j) G e (by simp) (r.append O) ?_,rfl,q⟩
 rw[D2];lia
end
namespace Mi
section
variable{X:Cx}
noncomputable def nP:R2d:=λx y M Q=>∃a b xs ys,x=.ref a/\y=.ref b/\M a=Z (.lst xs)/\M b=Z (.lst ys)/\xs.length+ys.length<=Kn/\Q (.ref a) (af M a (.lst (xs++ys)))
theorem mM:aB nP:=λ_ _ _ _ _ h j=>(by obtain⟨a,b,xs,y,e1,e2,B,F,z,q⟩:=j;exact⟨a,b,xs,y,e1,e2,B,F,z,h _ _ q⟩)
theorem wd:OpR X (NF .Add) (l2 X.K nP):=by
 refine OpR.of Bc λv u H Q h=>?_;obtain⟨x,y,M,rm,rx,ry,a,b,xs,ys,rfl,rfl,e1,e2,z,q⟩:=h
 cases Vn.mp rx
 cases Vn.mp ry
 obtain⟨us,j,ru⟩:=rm _ _ e1;obtain⟨ws,hb,rw'⟩:=rm _ _ e2;exact⟨a,b,us,ws,rfl,rfl,j,hb,by rw[ru.length,rw'.length];exact z,kM rm e1 (ru.append rw') (Vn.mpr rfl) q⟩
end
end Mi
end
namespace Mi
open L2.Srt
end Mi
namespace Mi
end Mi
namespace Mi
end Mi
namespace Mi
variable{K:Frag}
section
mutual
noncomputable def GV(K:Frag):D->hH->Prop
 |.int i,v=>∃t,v=.int i t
 |.str x,v=>∃t,v=.str x t
 |.tup ds,v=>∃a o its n,v=.ref a/\K.lookup a=Z o/\o.cls=.type "tuple"/\o.data=.seq its n/\its.size<=Kn/\fk ds=N3/\GVs K ds its.toList
 |_,_=>False
noncomputable def GVs(K:Frag):List D->List hH->Prop
 |[],us=>us=[]
 |d::ds,us=>∃u r,us=u::r/\GV K d u/\GVs K ds r
end
theorem GV.ints{i:Int}{t}:GV K (.int i) (.int i t):=by unfold GV;exact⟨t,rfl⟩
theorem GV.tups{ds:List D}{a:VH}{od sl}{its:Array hH}{n:Nat}(h:K.lookup a=Z ⟨.type "tuple",od,.seq its n,sl⟩)(j:its.size<=1000)(f:fk ds=N3)(r:GVs K ds its.toList):GV K (.tup ds) (.ref a):=by unfold GV;exact⟨a,_,its,n,rfl,h,rfl,rfl,by rw[z4];lia,f,r⟩
theorem GVs.nil:GVs K [] []:=by unfold GVs;rfl
theorem GVs.cons{K:Frag}{d:D}{ds:List D}{u:hH}{us:List hH}(h:GV K d u)(r:GVs K ds us):GVs K (d::ds) (u::us):=by unfold GVs;exact⟨u,us,rfl,h,r⟩
mutual
theorem zS{K:Frag}:∀{d:D} {u:hH},GV K d u->∃v,RelV v u/\∀H,RD K H d v
 |.int i,u,h=>by unfold GV at h;obtain⟨t,rfl⟩:=h;exact⟨.int i,⟨t,rfl⟩,λH=>Vm.mpr rfl⟩
 |.str i,u,h=>by unfold GV at h;obtain⟨t,rfl⟩:=h;exact⟨.str i,⟨t,rfl⟩,λH=>Vt.mpr rfl⟩
 |.tup ds,u,h=>by unfold GV at h;obtain⟨a,o,its,n,rfl,h1,h2,j,q,z,B⟩:=h;obtain⟨vs,g1,g2⟩:=gvs_rd B;exact⟨.ref a,rfl,λH=>Vw.mpr ⟨a,vs,rfl,.inr ⟨z,.inr ⟨o,its,n,h1,h2,j,q,g1⟩⟩,g2 H⟩⟩
 |.non,u,h=>by unfold GV at h;exact h.elim
 |.bl _,u,h=>by unfold GV at h;exact h.elim
 |.con _,u,h=>by unfold GV at h;exact h.elim
 |.ref _,u,h=>by unfold GV at h;exact h.elim
 |.fn _,u,h=>by unfold GV at h;exact h.elim
theorem gvs_rd{K:Frag}:∀{ds:List D} {us:List hH},GVs K ds us->∃vs,Vals vs us/\∀H,RDs K H ds vs
 |[],us,h=>by unfold GVs at h;subst h;exact⟨[],.nil,λH=>RDs.nil⟩
 |d::ds,us,h=>by unfold GVs at h;obtain⟨u,r,rfl,h1,h2⟩:=h;obtain⟨v,g1,g2⟩:=zS h1;obtain⟨vs,g3,j⟩:=gvs_rd h2;exact⟨v::vs,.cons g1 g3,λH=>RDs.cons (g2 H) (j H)⟩
end
end
end Mi
namespace Mi
end Mi
namespace Mi
section
inductive BOp where|add|sub|mul|fdiv|mod|pow|ext
inductive COp where|eq|ne|lt|gt|ge|is|inS|ninD
inductive BF where|len|abs|min2|int|list|tuple|sum|sortk|minP
inductive MF where|append
set_option genCtorIdx false
set_option genInjectivity false
mutual
inductive MG where
 |name (i:Nat)
 |tup (gs:MGs)
inductive MGs where
 |nil
 |cons (g:MG) (r:MGs)
end
mutual
inductive ME where
 |var (i:Nat)
 |int (i:Int)
 |bl (b:Bool)
 |non
 |bin (op:BOp) (a b:ME)
 |neg (a:ME)
 |cmp (op:COp) (a b:ME)
 |and (es:MEs)
 |or (es:MEs)
 |not (a:ME)
 |ite (c:MT) (a b:ME)
 |tup (es:MEs)
 |lst (es:MEs)
 |ix (a b:ME)
 |sl (a:ME) (lo hi:MO)
 |call (f:Nat) (es:MEs)
 |blt (f:BF) (es:MEs)
 |isin (a:ME) (T:String)
 |glob (x:Str) (d:D)
 |dnew (t:Bool)
 |sortI (a:ME)
 |dget (o k x:ME)
 |meth (m:MF) (o a:ME)
 |ins (o i a:ME)
 |comp (fr:List (Option Nat)) (N:List Str) (c:MC)
inductive MEs where
 |nil
 |cons (e:ME) (r:MEs)
inductive MO where
 |none
 |some (e:ME)
inductive MT where
 |tru (e:ME)
 |cmp (op:COp) (a b:ME)
 |and (ts:MTs)
 |or (ts:MTs)
 |not (t:MT)
inductive MTs where
 |nil
 |cons (t:MT) (r:MTs)
inductive MI where
 |seq (e:ME)
 |rng1 (a:ME)
 |rng2 (a b:ME)
 |zip (a b:ME)
 |enum (a:ME)
 |items (a:ME)
inductive MC where
 |last (src:MI) (g:MG) (ifs:MTs) (elt:ME)
 |more (src:MI) (g:MG) (ifs:MTs) (rest:MC)
end
mutual
inductive MS where
 |asg (g:MG) (e:ME)
 |par (i j:Nat) (a b:ME)
 |put (o i e:ME)
 |aug (i:Nat) (op:BOp) (e:ME)
 |augI (o i:ME) (op:BOp) (e:ME)
 |drop (e:ME)
 |ret (e:ME)
 |ite (c:MT) (a b:MSs)
 |for (g:MG) (src:MI) (b:MSs)
 |while (c:MT) (b:MSs)
 |frz (i:Nat) (s:MS)
 |pass|brk|cnt
inductive MSs where
 |nil
 |cons (s:MS) (r:MSs)
end
set_option genCtorIdx true
set_option genInjectivity true
noncomputable def opB:BOp->R2d
 |.add=>eS|.sub=>iP|.mul=>iQ|.fdiv=>jB|.mod=>oB|.pow=>oC|.ext=>eS
noncomputable def opC:COp->R2d
 |.eq=>wEq|.ne=>wNe|.lt=>wLt| .gt=>wGt|.ge=>wGe|.is=>wIs| .inS=>tP| .ninD=>tQ F2
noncomputable def opF:BF->RAd
 |.len=>fC| .abs=>kL| .min2=>jD|.int=>iT|.list=>no|.tuple=>jE|.sum=>oQ| .sortk=>jX| .minP=>nO
noncomputable def opM:MF->D->List D->Mem->QD->Prop
 |.append=>gY
noncomputable def opI:BOp->R2d
 |.add=>jL|.sub=>jM|.mul=>jO|.ext=>nP|_=>λ_ _ _ _=>False
theorem pM:∀o,aB (opB o)
 |.add=>oD|.sub=>xT|.mul=>xU|.fdiv=>va|.mod=>xV|.pow=>xW|.ext=>oD
theorem fL:∀o,aB (opC o)
 |.eq=>Ax|.ne=>Ay|.lt=>AB| .gt=>AC|.ge=>AD|.is=>AX| .inS=>yJ| .ninD=>yL
theorem yO:∀o,b4 (opF o)
 |.len=>oJ| .abs=>oK| .min2=>lV|.int=>oM|.list=>lW|.tuple=>jF|.sum=>oR| .sortk=>jY| .minP=>mK
theorem yP:∀o,jG (opM o)
 |.append=>iD
theorem pN:∀o,aB (opI o)
 |.add=>gu|.sub=>gv|.mul=>gw|.ext=>mM
 |.fdiv=>λ_ _ _ _ _ _ q=>q.elim|.mod=>λ_ _ _ _ _ _ q=>q.elim|.pow=>λ_ _ _ _ _ _ q=>q.elim
noncomputable abbrev Phi:=Nat->RAd
mutual
noncomputable def bG:MG->BT
 |.name i=>br i
 |.tup gs=>oU (bGs gs)
noncomputable def bGs:MGs->BTs
 |.nil=>fE
 |.cons g r=>bw (bG g) (bGs r)
end
mutual
noncomputable def wE(Φ:Phi):ME->TEd
 |.var i=>dQ i
 |.int i=>wC (.int i)
 |.bl b=>wC (.bl b)
 |.non=>wC .non
 |.bin op a b=>wOp (opB op) (wE Φ a) (wE Φ b)
 |.neg a=>wUn oF (wE Φ a)
 |.cmp op a b=>wOp (opC op) (wE Φ a) (wE Φ b)
 |.and es=>wAnds Φ es
 |.or es=>wOrs Φ es
 |.not a=>nA (wE Φ a)
 |.ite c a b=>wIf (wT Φ c) (wE Φ a) (wE Φ b)
 |.tup es=>wAr sY (wA Φ es)
 |.lst es=>wAr sZ (wA Φ es)
 |.ix a b=>wOp wIx (wE Φ a) (wE Φ b)
 |.sl a lo hi=>wSl (wE Φ a) (wO Φ lo) (wO Φ hi)
 |.call f es=>wAr (Φ f) (wA Φ es)
 |.blt f es=>wAr (opF f) (wA Φ es)
 |.isin a T=>nC T (wE Φ a)
 |.glob _ d=>wC d
 |.dnew t=>nJ t
 |.sortI a=>jW (wE Φ a)
 |.dget o k x=>nN (wE Φ o) (wE Φ k) (wE Φ x)
 |.meth m o a=>wBM (opM m) (wE Φ o) (aG (wE Φ a) bo)
 |.ins o i a=>wBM ig (wE Φ o) (aG (wE Φ i) (aG (wE Φ a) bo))
 |.comp fr _ c=>wCmp Φ fr c
noncomputable def wA(Φ:Phi):MEs->TAd
 |.nil=>bo
 |.cons e r=>aG (wE Φ e) (wA Φ r)
noncomputable def wAnds(Φ:Phi):MEs->TEd
 |.nil=>λ_ _ _=>False
 |.cons e .nil=>wE Φ e
 |.cons e (.cons f r)=>ny (wE Φ e) (wAnds Φ (.cons f r))
noncomputable def wOrs(Φ:Phi):MEs->TEd
 |.nil=>λ_ _ _=>False
 |.cons e .nil=>wE Φ e
 |.cons e (.cons f r)=>tm (wE Φ e) (wOrs Φ (.cons f r))
noncomputable def wO(Φ:Phi):MO->TOd
 |.none=>gX
 |.some e=>nB (wE Φ e)
noncomputable def wT(Φ:Phi):MT->TTd
 |.tru e=>tf (wE Φ e)
 |.cmp op a b=>kH (wOp (opC op) (wE Φ a) (wE Φ b))
 |.and ts=>wAndTs Φ ts
 |.or ts=>wOrTs Φ ts
 |.not t=>nt (wT Φ t)
noncomputable def wAndTs(Φ:Phi):MTs->TTd
 |.nil=>λ_ _ _=>False
 |.cons e .nil=>wT Φ e
 |.cons e (.cons f r)=>nv (wT Φ e) (wAndTs Φ (.cons f r))
noncomputable def wOrTs(Φ:Phi):MTs->TTd
 |.nil=>λ_ _ _=>False
 |.cons e .nil=>wT Φ e
 |.cons e (.cons f r)=>tj (wT Φ e) (wOrTs Φ (.cons f r))
noncomputable def wTl(Φ:Phi):MTs->List TTd
 |.nil=>[]
 |.cons t r=>wT Φ t::wTl Φ r
noncomputable def wI(Φ:Phi):MI->TId
 |.seq e=>tu (wE Φ e)
 |.rng1 a=>nD (aG (wE Φ a) bo)
 |.rng2 a b=>nE (aG (wE Φ a) (aG (wE Φ b) bo))
 |.zip a b=>kN (wE Φ a) (wE Φ b)
 |.enum a=>nF (wE Φ a)
 |.items a=>jZ (wE Φ a)
noncomputable def wCl(Φ:Phi):MC->TCd
 |.last src g ifs elt=>dE (wI Φ src) (bG g) (bf (wTl Φ ifs) (cC (wE Φ elt)))
 |.more src g ifs rest=>dE (wI Φ src) (bG g) (bf (wTl Φ ifs) (wCl Φ rest))
noncomputable def wCmp(Φ:Phi)(fr:List (Option Nat)):MC->TEd
 |.last src g ifs elt=>hJ fr (wI Φ src) (bG g) (bf (wTl Φ ifs) (cC (wE Φ elt)))
 |.more src g ifs rest=>hJ fr (wI Φ src) (bG g) (bf (wTl Φ ifs) (wCl Φ rest))
end
mutual
noncomputable def wS(Φ:Phi):MS->TSd
 |.asg g e=>kP (wE Φ e) (bG g)
 |.par i j a b=>tz (aG (wE Φ a) (aG (wE Φ b) bo)) (bw (br i) (bw (br j) fE))
 |.put o i e=>tI (wE Φ e) (wE Φ o) (wE Φ i)
 |.aug i op e=>tJ i (opI op) (wE Φ e)
 |.augI o i op e=>nI (wE Φ o) (wE Φ i) (wE Φ e) (opI op)
 |.drop e=>nH (wE Φ e)
 |.ret e=>tw (wE Φ e)
 |.ite c a b=>sIf (wT Φ c) (wSs Φ a) (wSs Φ b)
 |.for g src b=>tD (wI Φ src) (bG g) (wSs Φ b)
 |.while c b=>jK (wT Φ c) (wSs Φ b)
 |.frz i s=>pJ i (wS Φ s)
 |.pass=>jI
 |.brk=>jJ
 |.cnt=>nG
noncomputable def wSs(Φ:Phi):MSs->TSd
 |.nil=>jI
 |.cons s r=>yh (wS Φ s) (wSs Φ r)
end
section
variable{Φ:Phi}(hΦ:∀f,b4 (Φ f))
include hΦ
mutual
theorem mE:∀m,ae (wE Φ m)
 |.var _=>xQ
 |.int _=>jA
 |.bl _=>jA
 |.non=>jA
 |.bin op a b=>eX (pM op) (mE a) (mE b)
 |.neg a=>Au oG (mE a)
 |.cmp op a b=>eX (fL op) (mE a) (mE b)
 |.and es=>mAnds es
 |.or es=>mOrs es
 |.not a=>vg (mE a)
 |.ite c a b=>AJ (mT c) (mE a) (mE b)
 |.tup es=>gU uY (mA es)
 |.lst es=>gU uZ (mA es)
 |.ix a b=>eX rg (mE a) (mE b)
 |.sl a lo hi=>AM (mE a) (mO lo) (mO hi)
 |.call f es=>gU (hΦ f) (mA es)
 |.blt f es=>gU (yO f) (mA es)
 |.isin a T=>vm (mE a)
 |.glob _ _=>jA
 |.dnew _=>vI
 |.sortI a=>tO (mE a)
 |.dget o k x=>vZ (mE o) (mE k) (mE x)
 |.meth m o a=>rh (yP m) (mE o) (aq (mE a) aw)
 |.ins o i a=>rh iG (mE o) (aq (mE i) (aq (mE a) aw))
 |.comp fr _ c=>mCmp fr c
theorem mA:∀m,b5 (wA Φ m)
 |.nil=>aw
 |.cons e r=>aq (mE e) (mA r)
theorem mAnds:∀m,ae (wAnds Φ m)
 |.nil=>λ_ _ _ _ _ q=>q.elim
 |.cons e .nil=>mE e
 |.cons e (.cons f r)=>vf (mE e) (mAnds (.cons f r))
theorem mOrs:∀m,ae (wOrs Φ m)
 |.nil=>λ_ _ _ _ _ q=>q.elim
 |.cons e .nil=>mE e
 |.cons e (.cons f r)=>yc (mE e) (mOrs (.cons f r))
theorem mO:∀m,fD (wO Φ m)
 |.none=>qM
 |.some e=>vj (mE e)
theorem mT:∀m,aJ (wT Φ m)
 |.tru e=>ya (mE e)
 |.cmp op a b=>xR (eX (fL op) (mE a) (mE b))
 |.and ts=>mAndTs ts
 |.or ts=>mOrTs ts
 |.not t=>vd (mT t)
theorem mAndTs:∀m,aJ (wAndTs Φ m)
 |.nil=>λ_ _ _ _ _ q=>q.elim
 |.cons e .nil=>mT e
 |.cons e (.cons f r)=>ve (mT e) (mAndTs (.cons f r))
theorem mOrTs:∀m,aJ (wOrTs Φ m)
 |.nil=>λ_ _ _ _ _ q=>q.elim
 |.cons e .nil=>mT e
 |.cons e (.cons f r)=>yb (mT e) (mOrTs (.cons f r))
theorem mTl:∀m,∀t∈wTl Φ m,aJ t
 |.nil=>by rw[wTl];intro t j;simp at j
 |.cons t r=>by
  rw[wTl];intro t' j
  rcases Km.mp j with e|e
  ·rw[e];exact mT t
  ·exact mTl r t' e
theorem mI:∀m,bZ (wI Φ m)
 |.seq e=>yf (mE e)
 |.rng1 a=>vw (aq (mE a) aw)
 |.rng2 a b=>vx (aq (mE a) (aq (mE b) aw))
 |.zip a b=>yg (mE a) (mE b)
 |.enum a=>vy (mE a)
 |.items a=>tT (mE a)
theorem mCl:∀m,ca (wCl Φ m)
 |.last src g ifs elt=>iE (mI src) (aS (bD (mE elt)) (mTl ifs))
 |.more src g ifs rest=>iE (mI src) (aS (mCl rest) (mTl ifs))
theorem mCmp(fr:List (Option Nat)):∀m,ae (wCmp Φ fr m)
 |.last src g ifs elt=>lZ (mI src) (aS (bD (mE elt)) (mTl ifs))
 |.more src g ifs rest=>lZ (mI src) (aS (mCl rest) (mTl ifs))
end
mutual
theorem mS:∀m,aH (wS Φ m)
 |.asg g e=>yk (mE hΦ e)
 |.par i j a b=>ym (aq (mE hΦ a) (aq (mE hΦ b) aw))
 |.put o i e=>yt (mE hΦ e) (mE hΦ o) (mE hΦ i)
 |.aug i op e=>yu (pN op) (mE hΦ e)
 |.augI o i op e=>vH (mE hΦ o) (mE hΦ i) (mE hΦ e) (pN op)
 |.drop e=>vB (mE hΦ e)
 |.ret e=>yi (mE hΦ e)
 |.ite c a b=>yj (mT hΦ c) (mSs a) (mSs b)
 |.for g src b=>yn (mI hΦ src) (mSs b)
 |.while c b=>tF (mT hΦ c) (mSs b)
 |.frz i s=>yF (mS s)
 |.pass=>m9
 |.brk=>tE
 |.cnt=>vz
theorem mSs:∀m,aH (wSs Φ m)
 |.nil=>m9
 |.cons s r=>vA (mS s) (mSs r)
end
end
end
variable{e:Expr}{es:List Expr}{env:Env}
section
structure Ctx where
 Γ:List Str
 N:List Str
 sc:Scope
 fn:List Str
 cs:List (Str×D)
noncomputable def glB(sc:Scope)(x:Str):Bool:=sc.names.lookup x==Z .globalImplicit
noncomputable def yQ(sc:Scope)(x:Str):Bool:=sc.names.lookup x==Z .local || sc.names.lookup x==Z .cell || sc.names.lookup x==Z .free
noncomputable def tU(sc:Scope)(x:Str):Bool:=sc.names.lookup x==Z .local || sc.names.lookup x==Z .cell
noncomputable def aT:Expr->Bool
 |.Starred ..=>N3
 |_=>F2
noncomputable def we:Expr->Bool
 |.Name ..|.Call ..|.Subscript ..|.Constant ..|.BinOp ..|.Attribute ..=>F2
 |_=>N3
noncomputable def ii:Expr->Bool
 |.Slice ..=>N3
 |_=>F2
noncomputable def ka:Expr->Bool
 |.ListComp ..|.SetComp ..|.DictComp ..=>N3
 |_=>F2
noncomputable def tV:Expr->Bool
 |.Set ..=>N3
 |_=>F2
noncomputable def dG:Expr->Bool
 |.Call _ (_::_) _ _=>F2
 |.Call ..=>N3
 |_=>F2
noncomputable def opO:BOp->OL
 |.add=>.Add|.sub=>.Sub|.mul=>.Mult|.fdiv=>.FloorDiv|.mod=>.Mod|.pow=>.Pow|.ext=>.Add
noncomputable def yR:COp->CmpOp
 |.eq=>.Eq|.ne=>.NotEq|.lt=>.Lt| .gt=>.Gt|.ge=>.GtE|.is=>.Is| .inS=>.In| .ninD=>.NotIn
noncomputable def pO:BF->Str
 |.len=>"len"| .abs=>"abs"| .min2=>"min"|.int=>"int"|.list=>"list"|.tuple=>"tuple"|.sum=>"sum"| .sortk=>"sorted"| .minP=>"min"
noncomputable def Dh:MF->Str
 |.append=>"append"
noncomputable def bltNames:List Str:=["len","abs","max","min","int","list","tuple","sum","isinstance","range","bool","str","dict","zip","enumerate","reversed","sorted","all","any","set"]
noncomputable def j3(sc osc:Scope):Scope:={sc with names:=sc.names.map λ(n,k)=>if(k==.free&&osc.kind==.function&&osc.names.lookup n==Z .cell)then(n,.cell)else(n,k)}
theorem qT(sc:Scope)(env:Env):relabel sc env=j3 sc env.scope:=rfl
noncomputable def yS(sc osc:Scope)(oN N':List Str)(fr:List (Option Nat)):Bool:=
 decide (sc.kind=.function)&&decide ((sc.names.map (·.1)).Nodup)&&decide (N'.Nodup)
  && sc.names.all (λx=>!(x.2==.free) || osc.names.lookup x.1==Z .cell || osc.names.lookup x.1==Z .free)
  && decide (fr.length=N'.length)
  && (D1 N'.length).all λi=>match fr[i]?,N'[i]? with
   |some (Z j),Z x=>decide (oN[j]?=Z x)&&sc.names.any (λy=>decide (y=(x,Ll)))
   |_,_=>F2
theorem pk{p:Prop}[d:Decidable p]{t:p->Bool}(h:dite p t (λ_=>N3)=F2):∃c,t c=F2:=by
 cases d with
 |isTrue c=>exact⟨c,h⟩
 |isFalse c=>cases h
noncomputable def du(e:Expr)(f:Str->Pos->Bool):Bool:=if h:e.ctorIdx=23 then @Vg.elim (λ_=>Bool) e h f else N3
@[elab_as_elim]
theorem eI{P:Expr->Prop}(e:Expr){f:Str->Pos->Bool}(h:du e f=F2)(k:∀a b,f a b=F2->P (.Name a b)):P e:=(pk h).elim λc=>@Vg.elim (λe=>∀c,@Vg.elim (λ_=>Bool) e c f=F2->P e) e c (λa b _=>k a b) c
noncomputable def eJ(e:Expr)(f:Const->Nat->Pos->Bool):Bool:=if h:e.ctorIdx=19 then @T8.elim (λ_=>Bool) e h f else N3
@[elab_as_elim]
theorem gC{P:Expr->Prop}(e:Expr){f:Const->Nat->Pos->Bool}(h:eJ e f=F2)(k:∀a b c,f a b c=F2->P (.Constant a b c)):P e:=(pk h).elim λc=>@T8.elim (λe=>∀c,@T8.elim (λ_=>Bool) e c f=F2->P e) e c (λa b c _=>k a b c) c
noncomputable def wf(e:Expr)(f:Expr->OL->Expr->Pos->Bool):Bool:=if h:e.ctorIdx=2 then @V9.elim (λ_=>Bool) e h f else N3
@[elab_as_elim]
theorem Di{P:Expr->Prop}(e:Expr){f:Expr->OL->Expr->Pos->Bool}(h:wf e f=F2)(k:∀a b c d,f a b c d=F2->P (.BinOp a b c d)):P e:=(pk h).elim λc=>@V9.elim (λe=>∀c,@V9.elim (λ_=>Bool) e c f=F2->P e) e c (λa b c d _=>k a b c d) c
noncomputable def fM(e:Expr)(f:UnaryOp->Expr->Pos->Bool):Bool:=if h:e.ctorIdx=3 then @U1.elim (λ_=>Bool) e h f else N3
@[elab_as_elim]
theorem j4{P:Expr->Prop}(e:Expr){f:UnaryOp->Expr->Pos->Bool}(h:fM e f=F2)(k:∀a b c,f a b c=F2->P (.UnaryOp a b c)):P e:=(pk h).elim λc=>@U1.elim (λe=>∀c,@U1.elim (λ_=>Bool) e c f=F2->P e) e c (λa b c _=>k a b c) c
noncomputable def j5(e:Expr)(f:Expr->List CmpOp->List Expr->Pos->Bool):Bool:=if h:e.ctorIdx=15 then @U2.elim (λ_=>Bool) e h f else N3
@[elab_as_elim]
theorem pP{P:Expr->Prop}(e:Expr){f:Expr->List CmpOp->List Expr->Pos->Bool}(h:j5 e f=F2)(k:∀a b c d,f a b c d=F2->P (.Compare a b c d)):P e:=(pk h).elim λc=>@U2.elim (λe=>∀c,@U2.elim (λ_=>Bool) e c f=F2->P e) e c (λa b c d _=>k a b c d) c
noncomputable def fb(e:Expr)(f:BoolOp->List Expr->Pos->Bool):Bool:=if h:e.ctorIdx=0 then @UH.elim (λ_=>Bool) e h f else N3
@[elab_as_elim]
theorem ik{P:Expr->Prop}(e:Expr){f:BoolOp->List Expr->Pos->Bool}(h:fb e f=F2)(k:∀a b c,f a b c=F2->P (.BoolOp a b c)):P e:=(pk h).elim λc=>@UH.elim (λe=>∀c,@UH.elim (λ_=>Bool) e c f=F2->P e) e c (λa b c _=>k a b c) c
noncomputable def wg(e:Expr)(f:Expr->Expr->Expr->Pos->Bool):Bool:=if h:e.ctorIdx=5 then @Va.elim (λ_=>Bool) e h f else N3
@[elab_as_elim]
theorem Dj{P:Expr->Prop}(e:Expr){f:Expr->Expr->Expr->Pos->Bool}(h:wg e f=F2)(k:∀a b c d,f a b c d=F2->P (.IfExp a b c d)):P e:=(pk h).elim λc=>@Va.elim (λe=>∀c,@Va.elim (λ_=>Bool) e c f=F2->P e) e c (λa b c d _=>k a b c d) c
noncomputable def cU(e:Expr)(f:List Expr->Nat->Pos->Bool):Bool:=if h:e.ctorIdx=25 then @Vb.elim (λ_=>Bool) e h f else N3
@[elab_as_elim]
theorem dX{P:Expr->Prop}(e:Expr){f:List Expr->Nat->Pos->Bool}(h:cU e f=F2)(k:∀a b c,f a b c=F2->P (.Tuple a b c)):P e:=(pk h).elim λc=>@Vb.elim (λe=>∀c,@Vb.elim (λ_=>Bool) e c f=F2->P e) e c (λa b c _=>k a b c) c
noncomputable def zT(e:Expr)(f:List Expr->Pos->Bool):Bool:=if h:e.ctorIdx=24 then @Vh.elim (λ_=>Bool) e h f else N3
@[elab_as_elim]
theorem EG{P:Expr->Prop}(e:Expr){f:List Expr->Pos->Bool}(h:zT e f=F2)(k:∀a b,f a b=F2->P (.List a b)):P e:=(pk h).elim λc=>@Vh.elim (λe=>∀c,@Vh.elim (λ_=>Bool) e c f=F2->P e) e c (λa b _=>k a b) c
noncomputable def cE(e:Expr)(f:Expr->Expr->Pos->Bool):Bool:=if h:e.ctorIdx=21 then @SJ.elim (λ_=>Bool) e h f else N3
@[elab_as_elim]
theorem dv{P:Expr->Prop}(e:Expr){f:Expr->Expr->Pos->Bool}(h:cE e f=F2)(k:∀a b c,f a b c=F2->P (.Subscript a b c)):P e:=(pk h).elim λc=>@SJ.elim (λe=>∀c,@SJ.elim (λ_=>Bool) e c f=F2->P e) e c (λa b c _=>k a b c) c
noncomputable def tW(e:Expr)(f:Expr->List Expr->List Qv->Pos->Bool):Bool:=if h:e.ctorIdx=16 then @Vi.elim (λ_=>Bool) e h f else N3
@[elab_as_elim]
theorem zU{P:Expr->Prop}(e:Expr){f:Expr->List Expr->List Qv->Pos->Bool}(h:tW e f=F2)(k:∀a b c d,f a b c d=F2->P (.Call a b c d)):P e:=(pk h).elim λc=>@Vi.elim (λe=>∀c,@Vi.elim (λ_=>Bool) e c f=F2->P e) e c (λa b c d _=>k a b c d) c
noncomputable def kb(e:Expr)(f:Expr->Str->Pos->Bool):Bool:=if h:e.ctorIdx=20 then @SK.elim (λ_=>Bool) e h f else N3
@[elab_as_elim]
theorem tX{P:Expr->Prop}(e:Expr){f:Expr->Str->Pos->Bool}(h:kb e f=F2)(k:∀a b c,f a b c=F2->P (.Attribute a b c)):P e:=(pk h).elim λc=>@SK.elim (λe=>∀c,@SK.elim (λ_=>Bool) e c f=F2->P e) e c (λa b c _=>k a b c) c
noncomputable def wj(e:Expr)(f:Option Expr->Option Expr->Option Expr->Pos->Bool):Bool:=if h:e.ctorIdx=26 then @Vc.elim (λ_=>Bool) e h f else N3
@[elab_as_elim]
theorem Dm{P:Expr->Prop}(e:Expr){f:Option Expr->Option Expr->Option Expr->Pos->Bool}(h:wj e f=F2)(k:∀a b c d,f a b c d=F2->P (.Slice a b c d)):P e:=(pk h).elim λc=>@Vc.elim (λe=>∀c,@Vc.elim (λ_=>Bool) e c f=F2->P e) e c (λa b c d _=>k a b c d) c
noncomputable def mN(e:Expr)(f:Expr->List LO->Scope->Pos->Bool):Bool:=if h:e.ctorIdx=8 then @T9.elim (λ_=>Bool) e h f else N3
@[elab_as_elim]
theorem wk{P:Expr->Prop}(e:Expr){f:Expr->List LO->Scope->Pos->Bool}(h:mN e f=F2)(k:∀a b c d,f a b c d=F2->P (.ListComp a b c d)):P e:=(pk h).elim λc=>@T9.elim (λe=>∀c,@T9.elim (λ_=>Bool) e c f=F2->P e) e c (λa b c d _=>k a b c d) c
noncomputable def zV(e:Expr)(f:List (Option Expr)->List Expr->Pos->Bool):Bool:=if h:e.ctorIdx=6 then @Vj.elim (λ_=>Bool) e h f else N3
@[elab_as_elim]
theorem EH{P:Expr->Prop}(e:Expr){f:List (Option Expr)->List Expr->Pos->Bool}(h:zV e f=F2)(k:∀a b c,f a b c=F2->P (.Dict a b c)):P e:=(pk h).elim λc=>@Vj.elim (λe=>∀c,@Vj.elim (λ_=>Bool) e c f=F2->P e) e c (λa b c _=>k a b c) c
noncomputable def fN(e:Stmt)(f:List Expr->Expr->Pos->Bool):Bool:=if h:e.ctorIdx=5 then @UI.elim (λ_=>Bool) e h f else N3
@[elab_as_elim]
theorem j6{P:Stmt->Prop}(e:Stmt){f:List Expr->Expr->Pos->Bool}(h:fN e f=F2)(k:∀a b c,f a b c=F2->P (.Assign a b c)):P e:=(pk h).elim λc=>@UI.elim (λe=>∀c,@UI.elim (λ_=>Bool) e c f=F2->P e) e c (λa b c _=>k a b c) c
noncomputable def eV(e:Stmt)(f:Expr->OL->Expr->Pos->Bool):Bool:=if h:e.ctorIdx=7 then @SM.elim (λ_=>Bool) e h f else N3
@[elab_as_elim]
theorem iH{P:Stmt->Prop}(e:Stmt){f:Expr->OL->Expr->Pos->Bool}(h:eV e f=F2)(k:∀a b c d,f a b c d=F2->P (.AugAssign a b c d)):P e:=(pk h).elim λc=>@SM.elim (λe=>∀c,@SM.elim (λ_=>Bool) e c f=F2->P e) e c (λa b c d _=>k a b c d) c
noncomputable def wl(e:Stmt)(f:Expr->Pos->Bool):Bool:=if h:e.ctorIdx=24 then @Vk.elim (λ_=>Bool) e h f else N3
@[elab_as_elim]
theorem Dn{P:Stmt->Prop}(e:Stmt){f:Expr->Pos->Bool}(h:wl e f=F2)(k:∀a b,f a b=F2->P (.Expr a b)):P e:=(pk h).elim λc=>@Vk.elim (λe=>∀c,@Vk.elim (λ_=>Bool) e c f=F2->P e) e c (λa b _=>k a b) c
noncomputable def pQ(e:Stmt)(f:Option Expr->Pos->Bool):Bool:=if h:e.ctorIdx=3 then @UJ.elim (λ_=>Bool) e h f else N3
@[elab_as_elim]
theorem yT{P:Stmt->Prop}(e:Stmt){f:Option Expr->Pos->Bool}(h:pQ e f=F2)(k:∀a b,f a b=F2->P (.Return a b)):P e:=(pk h).elim λc=>@UJ.elim (λe=>∀c,@UJ.elim (λ_=>Bool) e c f=F2->P e) e c (λa b _=>k a b) c
noncomputable def Do(e:Stmt)(f:Expr->List Stmt->List Stmt->Pos->Bool):Bool:=if h:e.ctorIdx=12 then @Stmt.If.elim (λ_=>Bool) e h f else N3
@[elab_as_elim]
theorem FN{P:Stmt->Prop}(e:Stmt){f:Expr->List Stmt->List Stmt->Pos->Bool}(h:Do e f=F2)(k:∀a b c d,f a b c d=F2->P (.If a b c d)):P e:=(pk h).elim λc=>@Stmt.If.elim (λe=>∀c,@Stmt.If.elim (λ_=>Bool) e c f=F2->P e) e c (λa b c d _=>k a b c d) c
noncomputable def zW(e:Stmt)(f:Expr->Expr->List Stmt->List Stmt->Pos->Bool):Bool:=if h:e.ctorIdx=9 then @Stmt.For.elim (λ_=>Bool) e h f else N3
@[elab_as_elim]
theorem EI{P:Stmt->Prop}(e:Stmt){f:Expr->Expr->List Stmt->List Stmt->Pos->Bool}(h:zW e f=F2)(k:∀a b c d e,f a b c d e=F2->P (.For a b c d e)):P e:=(pk h).elim λc=>@Stmt.For.elim (λe=>∀c,@Stmt.For.elim (λ_=>Bool) e c f=F2->P e) e c (λa b c d e _=>k a b c d e) c
noncomputable def rK(e:Stmt)(f:Expr->List Stmt->List Stmt->Pos->Bool):Bool:=if h:e.ctorIdx=11 then @Vd.elim (λ_=>Bool) e h f else N3
@[elab_as_elim]
theorem Bd{P:Stmt->Prop}(e:Stmt){f:Expr->List Stmt->List Stmt->Pos->Bool}(h:rK e f=F2)(k:∀a b c d,f a b c d=F2->P (.While a b c d)):P e:=(pk h).elim λc=>@Vd.elim (λe=>∀c,@Vd.elim (λ_=>Bool) e c f=F2->P e) e c (λa b c d _=>k a b c d) c
noncomputable def wm(e:Stmt)(f:Pos->Bool):Bool:=if h:e.ctorIdx=25 then @Vl.elim (λ_=>Bool) e h f else N3
@[elab_as_elim]
theorem Dp{P:Stmt->Prop}(e:Stmt){f:Pos->Bool}(h:wm e f=F2)(k:∀a,f a=F2->P (.Pass a)):P e:=(pk h).elim λc=>@Vl.elim (λe=>∀c,@Vl.elim (λ_=>Bool) e c f=F2->P e) e c (λa _=>k a) c
noncomputable def rL(e:Stmt)(f:Pos->Bool):Bool:=if h:e.ctorIdx=26 then @Ve.elim (λ_=>Bool) e h f else N3
@[elab_as_elim]
theorem Be{P:Stmt->Prop}(e:Stmt){f:Pos->Bool}(h:rL e f=F2)(k:∀a,f a=F2->P (.Break a)):P e:=(pk h).elim λc=>@Ve.elim (λe=>∀c,@Ve.elim (λ_=>Bool) e c f=F2->P e) e c (λa _=>k a) c
noncomputable def kc(e:Stmt)(f:Pos->Bool):Bool:=if h:e.ctorIdx=27 then @Ta.elim (λ_=>Bool) e h f else N3
@[elab_as_elim]
theorem tY{P:Stmt->Prop}(e:Stmt){f:Pos->Bool}(h:kc e f=F2)(k:∀a,f a=F2->P (.Continue a)):P e:=(pk h).elim λc=>@Ta.elim (λe=>∀c,@Ta.elim (λ_=>Bool) e c f=F2->P e) e c (λa _=>k a) c
noncomputable def lv0{α:Type}(xs:List α)(b:Bool):Bool:=xs.isEmpty&&b
noncomputable def lvc{α:Type}(xs:List α)(f:α->List α->Bool):Bool:=match xs with
 |y::r=>f y r
 |[]=>N3
noncomputable def lv1{α:Type}(xs:List α)(f:α->Bool):Bool:=lvc xs λy r=>lv0 r (f y)
noncomputable def lv2{α:Type}(xs:List α)(f:α->α->Bool):Bool:=lvc xs λy r=>lv1 r (f y)
noncomputable def os{α:Type}(o:Option α)(f:α->Bool):Bool:=match o with
 |some x=>f x
 |none=>N3
noncomputable def on{α:Type}(o:Option α)(b:Bool):Bool:=o.isNone&&b
@[elab_as_elim]
theorem fO{α:Type}{P:List α->Prop}(xs:List α){b:Bool}(h:lv0 xs b=F2)(k:b=F2->P []):P xs:=by
 cases xs with
 |nil=>exact k h
 |cons _ _=>cases h
@[elab_as_elim]
theorem Dq{α:Type}{P:List α->Prop}(xs:List α){f:α->List α->Bool}(h:lvc xs f=F2)(k:∀y r,f y r=F2->P (y::r)):P xs:=by
 cases xs with
 |nil=>cases h
 |cons y r=>exact k y r h
@[elab_as_elim]
theorem da{α:Type}{P:List α->Prop}(xs:List α){f:α->Bool}(h:lv1 xs f=F2)(k:∀y,f y=F2->P [y]):P xs:=Dq xs h λy r h=>fO r h λh=>k y h
@[elab_as_elim]
theorem j7{α:Type}{P:List α->Prop}(xs:List α){f:α->α->Bool}(h:lv2 xs f=F2)(k:∀y z,f y z=F2->P [y,z]):P xs:=Dq xs h λy r h=>da r h λz h=>k y z h
@[elab_as_elim]
theorem jos{α:Type}{P:Option α->Prop}(o:Option α){f:α->Bool}(h:os o f=F2)(k:∀x,f x=F2->P (Z x)):P o:=by
 cases o with
 |none=>cases h
 |some x=>exact k x h
@[elab_as_elim]
theorem jon{α:Type}{P:Option α->Prop}(o:Option α){b:Bool}(h:on o b=F2)(k:b=F2->P Y):P o:=by
 cases o with
 |none=>exact k h
 |some x=>cases h
theorem bT{a b:Bool}(h:(a&&b)=F2):a=F2/\b=F2:=by rwa[q7]at h
noncomputable def cF(e:Expr)(g:Str->List Expr->Bool):Bool:=tW e λf xs ks _=>lv0 ks (du f λx _=>g x xs)
@[elab_as_elim]
theorem cV{P:Expr->Prop}(e:Expr){g:Str->List Expr->Bool}(h:cF e g=F2)(k:∀x xs p pos,g x xs=F2->P (.Call (.Name x p) xs [] pos)):P e:=zU e h λf xs ks pos h=>fO ks h λh=>eI f h λx p h=>k x xs p pos h
noncomputable def il(e:Expr)(g:Expr->Str->List Expr->Pos->Pos->Bool):Bool:=tW e λf xs ks p=>lv0 ks (kb f λo n q=>g o n xs q p)
@[elab_as_elim]
theorem ke{P:Expr->Prop}(e:Expr){g:Expr->Str->List Expr->Pos->Pos->Bool}(h:il e g=F2)(k:∀o n xs q p,g o n xs q p=F2->P (.Call (.Attribute o n q) xs [] p)):P e:=zU e h λf xs ks pos h=>fO ks h λh=>tX f h λo n q h=>k o n xs q pos h
noncomputable def iSl(e:Expr)(g:Expr->Option Expr->Option Expr->Option Expr->Bool):Bool:=cE e λx y _=>wj y λl u s _=>g x l u s
@[elab_as_elim]
theorem jSl{P:Expr->Prop}(e:Expr){g:Expr->Option Expr->Option Expr->Option Expr->Bool}(h:iSl e g=F2)(k:∀x l u s p pos,g x l u s=F2->P (.Subscript x (.Slice l u s p) pos)):P e:=dv e h λx y pos h=>Dm y h λl u s p h=>k x l u s p pos h
mutual
noncomputable def okG:MG->Ctx->Expr->Bool
 |.name i,C,e=>du e λx _=>decide (C.N[i]?=Z x)&&tU C.sc x&&(C.sc.names.lookup x==Z .local || C.fn.contains x)
 |.tup gs,C,e=>cU e λes _ _=>okGs gs C es
noncomputable def okGs:MGs->Ctx->List Expr->Bool
 |.nil,_,es=>es.isEmpty
 |.cons g r,C,es=>match es with
  |e::es=>aT e&&okG g C e&&okGs r C es
  |[]=>N3
end
mutual
noncomputable def okE:ME->Ctx->Expr->Bool
 |.var i,C,e=>du e λx _=>decide (C.N[i]?=Z x)&&yQ C.sc x && !(x==("__debug__":Str)) && !(x==("__classdict__":Str))
 |.int i,_,e=>eJ e λc _ _=>decide (c=.int i)
 |.bl i,_,e=>eJ e λc _ _=>decide (c=.bool i)
 |.non,_,e=>eJ e λc _ _=>decide (c=.none)
 |.bin op a b,C,e=>wf e λl o r _=>decide (o=opO op)&&okE a C l&&okE b C r
 |.neg a,C,e=>fM e λo x _=>decide (o=.USub)&&okE a C x
 |.cmp op a b,C,e=>j5 e λl os rs _=>lv1 os λo=>lv1 rs λr=>decide (o=yR op)&&okE a C l&&okE b C r && !(P4 o r)
 |.and es,C,e=>fb e λo xs _=>decide (o=.And) && !xs.isEmpty&&okEs es C xs
 |.or es,C,e=>fb e λo xs _=>decide (o=.Or) && !xs.isEmpty&&okEs es C xs
 |.not a,C,e=>fM e λo x _=>decide (o=.Not)&&okE a C x
 |.ite c a b,C,e=>wg e λt x y _=>okT c C t&&okE a C x&&okE b C y
 |.tup es,C,e=>cU e λxs _ _=>okEs es C xs
 |.lst es,C,e=>zT e λxs _=>okEs es C xs
 |.ix a b,C,e=>cE e λx y _=>ii y&&okE a C x&&okE b C y
 |.sl a lo hi,C,e=>iSl e λx l u s=>on s (okE a C x&&okO lo C l&&okO hi C u)
 |.call f es,C,e=>cF e λx xs=>decide (C.Γ[f]?=Z x)&&glB C.sc x && !(x==("__debug__":Str))&&okEs es C xs
 |.blt f es,C,e=>cF e λx xs=>decide (x=pO f)&&glB C.sc x && !xs.isEmpty&&okEs es C xs
 |.isin a T,C,e=>cF e λx xs=>lv2 xs λy w=>du w λz _=>decide (x="isinstance")&&glB C.sc x&&glB C.sc z&&decide (z=LI T)&&decide (T∈["bool","int","str","tuple","list","dict"])&&aT y&&okE a C y
 |.glob x k,C,e=>du e λy _=>decide (y=x)&&glB C.sc y&&decide ((x,k)∈C.cs) && !(x==("__debug__":Str))
 |.dnew _,_,e=>zV e λks vs _=>lv0 ks (lv0 vs F2)
 |.sortI a,C,e=>cF e λx xs=>lv1 xs λw=>il w λy n ys ap cp=>lv0 ys (decide (x="sorted")&&glB C.sc x&&decide (n="items")&&dG y&&(ap.endLine==cp.line)&&okE a C y)
 |.dget o k x,C,e=>il e λy n xs ap cp=>lv2 xs λe1 e2=>decide (n="get")&&dG y&&(ap.endLine==cp.line)&&aT e1&&aT e2&&okE o C y&&okE k C e1&&okE x C e2
 |.meth m o a,C,e=>il e λx n xs ap cp=>lv1 xs λy=>decide (n=Dh m)&&dG x&&(ap.endLine==cp.line)&&aT y&&okE o C x&&okE a C y
 |.ins o i a,C,e=>il e λx n xs ap cp=>lv2 xs λy z=>decide (n="insert")&&dG x&&(ap.endLine==cp.line)&&aT y&&aT z&&okE o C x&&okE i C y&&okE a C z
 |.comp fr N' c,C,e=>mN e λelt gens sc _=>yS sc C.sc C.N N' fr&&okC c C ⟨C.Γ,N',j3 sc C.sc,(sc.names.filter (·.2==.cell)).map (·.1),C.cs⟩ gens elt
noncomputable def okEs:MEs->Ctx->List Expr->Bool
 |.nil,_,es=>es.isEmpty
 |.cons m r,C,es=>match es with
  |e::es=>aT e&&okE m C e&&okEs r C es
  |[]=>N3
noncomputable def okO:MO->Ctx->Option Expr->Bool
 |.none,_,e=>e.isNone
 |.some m,C,e=>match e with
  |some e=>okE m C e
  |none=>N3
noncomputable def okT:MT->Ctx->Expr->Bool
 |.tru m,C,e=>we e&&okE m C e
 |.cmp op a b,C,e=>j5 e λl os rs _=>lv1 os λo=>lv1 rs λr=>decide (o=yR op)&&okE a C l&&okE b C r && !(P4 o r)
 |.and ts,C,e=>fb e λo xs _=>decide (o=.And) && !xs.isEmpty&&okTs ts C xs
 |.or ts,C,e=>fb e λo xs _=>decide (o=.Or) && !xs.isEmpty&&okTs ts C xs
 |.not t,C,e=>fM e λo x _=>decide (o=.Not)&&okT t C x
noncomputable def okTs:MTs->Ctx->List Expr->Bool
 |.nil,_,es=>es.isEmpty
 |.cons m r,C,es=>match es with
  |e::es=>okT m C e&&okTs r C es
  |[]=>N3
noncomputable def okI:MI->Ctx->Expr->Expr->Bool
 |.seq m,C,_,e=>tV e&&okE m C e
 |.items a,C,t,e=>il e λx n xs ap cp=>lv0 xs (cU t λ_ _ _=>decide (n="items")&&dG x&&(ap.endLine==cp.line)&&okE a C x)
 |.rng1 a,C,_,e=>cF e λx xs=>lv1 xs λy=>decide (x="range")&&glB C.sc x&&aT y&&okE a C y
 |.rng2 a b,C,_,e=>cF e λx xs=>lv2 xs λy z=>decide (x="range")&&glB C.sc x&&aT y&&aT z&&okE a C y&&okE b C z
 |.enum a,C,t,e=>cF e λx xs=>lv1 xs λy=>cU t λ_ _ _=>decide (x="enumerate")&&glB C.sc x&&aT y&&okE a C y
 |.zip a b,C,t,e=>cF e λx xs=>lv2 xs λy z=>cU t λ_ _ _=>decide (x="zip")&&glB C.sc x&&aT y&&aT z&&okE a C y&&okE b C z
noncomputable def okC:MC->Ctx->Ctx->List LO->Expr->Bool
 |.last src g ifs m,Cs,C,gens,elt=>match gens with
  |[⟨t,it,fs,a⟩]=>decide (a=0)&&okI src Cs t it&&okG g C t&&okTs ifs C fs&&okE m C elt
  |_=>N3
 |.more src g ifs rest,Cs,C,gens,elt=>match gens with
  |⟨t,it,fs,a⟩::g2::gs=>decide (a=0)&&okI src Cs t it&&okG g C t&&okTs ifs C fs&&okC rest C C (g2::gs) elt
  |_=>N3
end
noncomputable def b6(sc:Scope)(ts:List Expr):List Str:=ts.filterMap fun
 |.Name id pos=>if sc.names.lookup id==Z .local&&pos.line==(ts.head?.map (·.pos.line)).getD 0 then Z id else Y
 |_=>Y
noncomputable def tZ(sc:Scope)(ts vs:List Expr):Bool:=!(ts.length==2 || ts.length==3) || vs.length != ts.length || (b6 sc ts).length != ts.length || (b6 sc ts).eraseDups.length != (b6 sc ts).length || vs.all (Tb 8)
noncomputable def u4(C:Ctx)(i:Nat)(x:Str):Bool:=decide (C.N[i]?=Z x)&&decide (C.sc.names.lookup x=Z .local)
noncomputable def u5(sc:Scope)(ts vs:List Expr)(ns:List Str):Bool:=!(!(ts.length==2 || ts.length==3) || vs.length != ts.length) && !(vs.any λ| .Starred ..=>F2|_=>N3)&&decide (b6 sc ts=ns) && !((b6 sc ts).length != ts.length || (b6 sc ts).eraseDups.length != (b6 sc ts).length) && !(vs.all (Tb 8)) && !(vs.all (constantsAlone 8))
noncomputable def zX(sc:Scope)(tg e:Expr):Bool:=match tg,e with
 |.Tuple ts _ _,.Tuple vs _ _=>tZ sc ts vs
 |.Tuple ..,_=>F2
 |.Name ..,_=>F2
 |_,_=>N3
noncomputable def Ds(sc:Scope)(x:Str)(px:Pos)(e:Expr):Bool:=match e with
 |.DictComp _ _ _ s _=>!(sc.names.lookup x==Z .local&&px.line==e.pos.line && !(s.names.any λ(n,k)=>n==x&&(k==.local || k==.cell)))
 |_=>F2
noncomputable def u6(sc:Scope)(x:Str)(px:Pos)(e:Expr):Bool:=match e with
 |.ListComp _ _ s _=>sc.names.lookup x==Z .local&&px.line==e.pos.line && !(s.names.any λ(n,k)=>n==x&&(k==.local || k==.cell))
 |_=>N3
mutual
noncomputable def okS:MS->Ctx->Stmt->Bool
 |.asg g m,C,s=>fN s λts e _=>lv1 ts λtg=>okG g C tg&&okE m C e&&zX C.sc tg e&&(match tg with|.Name x px=>Ds C.sc x px e|_=>ka e)
 |.par i j a b,C,s=>fN s λts e _=>lv1 ts λtg=>cU tg λts _ _=>cU e λes _ _=>lv2 ts λt u=>lv2 es λe f=>du t λx px=>du u λy py=>u4 C i x&&u4 C j y&&decide (i≠j)&&aT e&&aT f&&okE a C e&&okE b C f&&u5 C.sc [.Name x px,.Name y py] [e,f] [x,y]
 |.put o i m,C,s=>fN s λts e _=>lv1 ts λtg=>cE tg λx y _=>ii y&&ka e&&okE o C x&&okE i C y&&okE m C e
 |.aug i op m,C,s=>eV s λt o e _=>du t λx _=>decide (o=opO op)&&(match op with|.add|.sub|.mul|.ext=>F2|_=>N3)&&decide (C.N[i]?=Z x)&&tU C.sc x&&(C.sc.names.lookup x==Z .local || C.fn.contains x)&&okE m C e
 |.augI o i op m,C,s=>eV s λt o' e _=>cE t λx y _=>decide (o'=opO op)&&(match op with|.add|.sub|.mul=>F2|_=>N3)&&ii y&&okE o C x&&okE i C y&&okE m C e
 |.drop m,C,s=>wl s λe _=>ka e&&okE m C e
 |.ret m,C,s=>pQ s λo _=>os o λe=>okE m C e
 |.ite c a b,C,s=>Do s λt x y _=>okT c C t&&okSs a C x&&okSs b C y
 |.for g src b,C,s=>zW s λtg it body els _=>lv0 els (tV it&&okG g C tg&&okI src C tg it&&okSs b C body)
 |.while c b,C,s=>rK s λt body els _=>lv0 els (okT c C t&&okSs b C body)
 |.frz _ m,C,s=>okS m C s
 |.pass,_,s=>wm s λ_=>F2
 |.brk,_,s=>rL s λ_=>F2
 |.cnt,_,s=>kc s λ_=>F2
noncomputable def okSs:MSs->Ctx->List Stmt->Bool
 |.nil,_,ss=>ss.isEmpty
 |.cons m r,C,ss=>match ss with
  |s::ss=>okS m C s&&okSs r C ss
  |[]=>N3
end
theorem aj(h:aT e=F2):L8 (e::es) env=(N3,eval e env)::L8 es env:=by cases e<;>first|rfl|(cases h;done)
theorem mP(h:aT e=F2):N7 (e::es) env=(N3,assign e env)::N7 es env:=by cases e<;>first|rfl|(cases h;done)
theorem u7(h:we e=F2):∀whole,isTrue e env whole=(do let v <-whole;R7 e.pos;holding [v] (truthy v)):=by
 intro w
 cases e<;>first|rfl|(cases h;done)
theorem yU(h:ii e=F2):kE e:=by
 intro o i
 cases e<;>first|rfl|(cases h;done)
theorem wo(h:tV e=F2):∀x,Ng e env x=pure x:=by
 intro x
 cases e<;>first|rfl|(cases h;done)
theorem dY{n:Str}(h:dG e=F2):Q6 e n env (eval e env)=eval e env:=by
 cases e<;>first
  |rfl
  | (rename_i f xs _ _;cases xs with
     |nil=>cases h
     |cons _ _=>cases f<;>rfl)
theorem kS{t:Option Expr}{l:Nat}(h:ka e=F2):Pp e t l env=pure N3:=by cases e<;>first|rfl|(cases h;done)
end
variable{f:Nat}{x:Str}{pos:Pos}{sc:Scope}{fr:List (Option Nat)}
section
noncomputable def lSp(K:Frag)(r:RAd):Sp:=λvs H Q _=>lR K r vs H Q
structure Good(C:Ctx)(Φ:Phi)(k:Nat)(X:Cx):Prop where
 hx:∀e s,X.xe e s->False
 calm:X.calm=F2
 N:X.N=C.N
 sc:X.env.scope=C.sc
 nd:X.N.Nodup
 fn:∀x∈C.fn,X.fn x=F2
 room:Room k X.A
 mgB:∀x∈bltNames,X.mg x=Y
 fns:∀(i:Nat) (x:Str),C.Γ[i]?=Z x->∃f fd ps,X.mg x=Z (.ref f)/\OV X.K Mf x=Z (Z (.ref f))/\ON X.K (.ref f)=F2/\Binds X.K fd ps []/\dN X.prog X.w X.K X.mg X.base CX0 k f fd ps (lSp X.K (Φ i))
 mono:∀f,b4 (Φ f)
 cs:∀x d,(x,d)∈C.cs->∃u,X.mg x=Z u/\GV X.K d u
section
variable{C:Ctx}{Φ:Phi}{k:Nat}{X:Cx}
theorem Good.units(G:Good C Φ k X):X.A.units+64<NA:=G.room.units
theorem Good.gl(G:Good C Φ k X)(h:glB C.sc x=F2):Gl X x:=by show X.env.scope.names.lookup x=_;rw[G.sc];simpa[glB]using h
theorem Good.vis(G:Good C Φ k X)(h:yQ C.sc x=F2):Vis X.env.scope x:=by
 unfold Vis;rw[G.sc];simp[yQ]at h
 rcases h with(h|h)|h
 ·exact .inl h
 ·exact .inr (.inl h)
 ·exact .inr (.inr h)
theorem Good.loc(G:Good C Φ k X)(h:tU C.sc x=F2):Loc X.env.scope x:=by unfold Loc;rw[G.sc];simpa[tU]using h
theorem Good.own(G:Good C Φ k X)(h:(C.sc.names.lookup x==Z .local || C.fn.contains x)=F2):X.fn x=F2∨X.env.scope.names.lookup x=Z .local:=by
 rw[G.sc];simp at h
 rcases h with h|h
 ·exact .inr h
 ·exact .inl (G.fn x h)
theorem Dt(G:Good C Φ k X):∀o:BOp,OpR X (MA (opO o)) (l2 X.K (opB o))
 |.add=>oE|.sub=>xX|.mul=>xY|.fdiv=>vc|.mod=>y7|.pow=>y8|.ext=>oE
theorem rM(G:Good C Φ k X):∀o:COp,OpR X (Ml (yR o)) (l2 X.K (opC o))
 |.eq=>Az (by have:=G.units;lia)|.ne=>AA (by have:=G.units;lia)|.lt=>AE| .gt=>AF|.ge=>AG|.is=>AZ| .inS=>yK| .ninD=>wb (by have:=G.units;lia)
theorem Du(G:Good C Φ k X){f:BF}{t:TAd}{p:Pos}(mt:b5 t)(q:Gl X (pO f))(z:PA X (e::es) (lA X.K t))(he:L8 (e::es) X.env=(N3,eval e X.env)::L8 es X.env)(j:(P0 pos (L8 es X.env)).any (·.1)=N3):PE X (.Call (.Name (pO f) p) (e::es) [] pos) (lE X.K (wAr (opF f) t)):=by
 cases f with
 |len=>exact PE.imp (cq t5 q (G.mgB _ (by decide)) PySem.boot_len z (by decide) (by decide) he j) (bP oJ mt)
 |abs=>exact PE.imp (cq t6 q (G.mgB _ (by decide)) (by decide +kernel) z (by decide) (by decide) he j) (bP oK mt)
 |min2=>exact PE.imp (cq (qK G.calm) q (G.mgB _ (by decide)) (by decide +kernel) z (by decide) (by decide) he j) (bP lV mt)
 |int=>exact PE.imp (fY t7 q (G.mgB _ (by decide)) (by decide +kernel) z (by decide) (by decide) he j) (bP oM mt)
 |list=>exact PE.imp (fY qL q (G.mgB _ (by decide)) (by decide +kernel) z (by decide) (by decide) he j) (bP lW mt)
 |tuple=>exact PE.imp (fY oP q (G.mgB _ (by decide)) (by decide +kernel) z (by decide) (by decide) he j) (bP jF mt)
 |sum=>exact PE.imp (cq (t8 G.calm) q (G.mgB _ (by decide)) (by decide +kernel) z (by decide) (by decide) he j) (bP oR mt)
 |sortk=>exact PE.imp (cq (pI (by have:=G.units;lia) G.calm) q (G.mgB _ (by decide)) (by decide +kernel) z (by decide) (by decide) he j) (bP jY mt)
 |minP=>exact PE.imp (cq (qS (by have:=G.units;lia) G.calm) q (G.mgB _ (by decide)) (by decide +kernel) z (by decide) (by decide) he j) (bP mK mt)
theorem Bf(G:Good C Φ k X){t:TAd}{p:Pos}(mt:b5 t)(hf:C.Γ[f]?=Z x)(z:Gl X x)(j:(x==("__debug__":Str))=N3)(B:PA X (e::es) (lA X.K t))(he:L8 (e::es) X.env=(N3,eval e X.env)::L8 es X.env)(q:(P0 pos (L8 es X.env)).any (·.1)=N3):PE X (.Call (.Name x p) (e::es) [] pos) (lE X.K (wAr (Φ f) t)):=by
 obtain⟨a,fd,ps,hm,_,J,hb,F⟩:=G.fns f x hf;refine PE.imp (Al F G.room z hm J hb .nil zG B j he q) λσ H Q h=>?_;have h2:=bP (G.mono f) mt σ H Q h;have:(λvs H1=>lSp X.K (Φ f) (vs++[]) H1 Q E0)=λvs H1=>lR X.K (Φ f) vs H1 Q:=by funext vs H1;rw[Mg];rfl
 show(lA X.K t) σ H _;rw[this];exact h2
theorem yV(G:Good C Φ k X){p:Pos}(hf:C.Γ[f]?=Z x)(z:Gl X x)(j:(x==("__debug__":Str))=N3):PE X (.Call (.Name x p) [] [] pos) (lE X.K (wAr (Φ f) bo)):=by obtain⟨a,fd,ps,hm,_,B,hb,F⟩:=G.fns f x hf;refine PE.imp (xB F G.room z hm B hb .nil zG j) λσ H Q h=>?_;obtain⟨ρ,M,rs,rm,q⟩:=h;exact⟨[],M,rm,RDs.nil,q⟩
theorem j8{env:Env}{pos:Pos}:∀{es:List Expr},es.all aT=F2->(P0 pos (L8 es env)).any (·.1)=N3
 |[],_=>rfl
 |e::es,h=>by
  simp only[OC,q7]at h;rw[aj h.1];show(N3 || (P0 pos (L8 es env)).any (·.1))=N3
  rw[j8 h.2];rfl
theorem gD:∀{ms:MEs} {es:List Expr},okEs ms C es=F2->es.all aT=F2
 |.nil,[],_=>rfl
 |.nil,_::_,h=>by simp[okEs]at h
 |.cons m r,[],h=>by simp[okEs]at h
 |.cons m r,e::es,h=>by simp only[okEs,q7]at h;simp only[OC,q7];exact⟨h.1.1,gD h.2⟩
theorem rN:∀{gs:MGs} {es:List Expr},okGs gs C es=F2->∀ds ρ ρ',bGs gs ds ρ=Z ρ'->ds.length=es.length
 |.nil,es,h,ds,ρ,ρ',e=>by
  simp[okGs]at h;subst h;rw[bGs]at e
  cases ds with
  |nil=>rfl
  |cons _ _=>cases e
 |.cons g r,[],h,_,_,_,_=>by simp[okGs]at h
 |.cons g r,x::es,h,ds,ρ,ρ',e=>by
  simp only[okGs,q7]at h;rw[bGs]at e
  cases ds with
  |nil=>cases e
  |cons d ds=>
   simp only[bw]at e
   cases e1:bG g d ρ with
   |none=>rw[e1]at e;cases e
   |some ρ1=>rw[e1]at e;simp[rN h.2 ds ρ1 ρ' e]
theorem pR{env:Env}:∀{gs:MGs} {es:List Expr},okGs gs C es=F2->(N7 es env).length=es.length/\(N7 es env).findIdx? (·.1)=Y
 |.nil,es,h=>by simp[okGs]at h;subst h;exact⟨rfl,rfl⟩
 |.cons g r,[],h=>by simp[okGs]at h
 |.cons g r,x::es,h=>by
  simp only[okGs,q7]at h;obtain⟨a,b⟩:=pR (env:=env) h.2;rw[mP h.1.1];refine⟨by simp[a],?_⟩
  rw[List.findIdx?_cons];simp[b]
mutual
theorem sG(G:Good C Φ k X):∀(m:MG) (e:Expr),okG m C e=F2->PG X e (lG X.K (bG m))
 |.name i,e,h=>by refine eI e h λx _ h=>?_;simp only[q7]at h;exact AR G.nd (by rw[G.N];exact of_decide_eq_true h.1.1) (G.loc h.1.2) (G.own h.2)
 |.tup gs,e,h=>by refine dX e h λes _ _ h=>?_;rw[bG];obtain⟨a,b⟩:=pR (env:=X.env) h;exact CY G.calm (rN h) (sGs G gs _ h) a b
theorem sGs(G:Good C Φ k X):∀(m:MGs) (es:List Expr),okGs m C es=F2->PGs X es (lGs X.K (bGs m))
 |.nil,es,h=>by simp[okGs]at h;subst h;exact AS
 |.cons g r,[],h=>by simp[okGs]at h
 |.cons g r,e::es,h=>by simp only[okGs,q7]at h;exact ye (sG G g e h.1.2) (sGs G r es h.2) (by rw[mP h.1.1];rfl)
end
theorem PB.imp{F:Sem Fin->Sem Fin}{t t':TC}(h:PB X F t)(i:∀σ H N,t' σ H N->t σ H N):PB X F t':=λpins s σ H N k Q E I q hk=>h pins s σ H N k Q E I (i _ _ _ q) hk
theorem kf{osc:Scope}{oN N':List Str}(h:yS sc osc oN N' fr=F2):b8 sc osc oN N' fr:=by
 simp only[yS,q7,decide_eq_true_eq]at h;obtain⟨⟨⟨⟨⟨h1,h2⟩,F⟩,G⟩,J⟩,L⟩:=h;refine⟨h1,h2,F,λx hx e=>?_,J,λi j x hi hf=>?_⟩
 ·have z:=OY.mp G x hx;rw[e]at z;simpa using z
 ·have B:i<N'.length:=(KO.mp hi).1;have q:=OY.mp L i (L7.mpr B);rw[hf,hi]at q;simp only[q7,decide_eq_true_eq,N9]at q;obtain⟨a,y,O,e⟩:=q;exact⟨a,by rw[<-e];exact O⟩
theorem Good.blk(G:Good C Φ k X){N':List Str}(B:b8 sc C.sc C.N N' fr)(s:p7)(H:Hp)(fp:List VH):
 Good ⟨C.Γ,N',j3 sc C.sc,(sc.names.filter (·.2==.cell)).map (·.1),C.cs⟩ Φ k (aK X sc N' s H fp):=by
 refine⟨λ_ _ h=>h,G.calm,rfl,?_,B.ndN,λx hx=>?_,G.room,G.mgB,G.fns,G.mono,G.cs⟩
 ·show relabel sc X.env=_;rw[qT,G.sc]
 ·obtain⟨y,q,e⟩:=Ki.mp hx;obtain⟨h1,h2⟩:=LZ.mp q;obtain⟨n,kd⟩:=y;have j:kd=.cell:=by simpa using h2
  subst j;have e':n=x:=e;subst e';show(sc.names.lookup n==Z .cell)=F2;rw[aV B.nd h1];rfl
end
end
variable{C:Ctx}{tb:TCd}
section
section
variable{Φ:Phi}{k:Nat}
theorem dH{X:Cx}(G:Good C Φ k X){F:Sem Fin->Sem Fin}{p:VH}{ifs:List Expr}{ts:List TTd}(mb:ca tb)(mt:∀t∈ts,aJ t)(hb:PB X F (lC X.K p tb))(j:LP (λc t=>PT X c t) ifs (ts.map (lT X.K))):
 PB X (λk=>bm ifs X.env>>=λok=>if ok=F2 then F k else k) (lC X.K p (bf ts tb)):=
 PB.imp (xN G.hx hb j) (jH mb mt)
theorem gE{m:MC}{Cs:Ctx}{g2:LO}{gs:List LO}{elt:Expr}(h:okC m Cs C (g2::gs) elt=F2):g2.is_async=0:=by
 obtain⟨t,i,f,a⟩:=g2
 cases m with
 |last src g ifs m=>
  cases gs with
  |nil=>simp only[okC,q7,decide_eq_true_eq]at h;exact h.1.1.1.1
  |cons _ _=>simp[okC]at h
 |more src g ifs rest=>
  cases gs with
  |nil=>simp[okC]at h
  |cons _ _=>simp only[okC,q7,decide_eq_true_eq]at h;exact h.1.1.1.1
theorem yW{X:Cx}(G:Good C Φ k X):∀T∈["bool","int","str","tuple","list","dict"],X.mg (LI T)=Y/\Og (LI T)=Z (.type T)/\LI T≠"__name__"/\(LI T==("__debug__":Str))=N3:=by
 intro T hT;simp only[Km,Lj,or_false]at hT
 rcases hT with rfl|rfl|rfl|rfl|rfl|rfl
 all_goals exact⟨G.mgB _ (by decide),by decide +kernel,by decide,by decide⟩
mutual
theorem sE:∀(m:ME) {C:Ctx} {X:Cx} (G:Good C Φ k X) (e:Expr),okE m C e=F2->PE X e (lE X.K (wE Φ m))
 |.var i,C,X,G,e,h=>by refine eI e h λx _ h=>?_;simp only[q7,Mz,decide_eq_true_eq]at h;exact CI (by rw[G.N];exact h.1.1.1) (G.vis h.1.1.2) h.1.2 h.2
 |.int i,C,X,G,e,h=>by refine gC e h λc _ _ h=>?_;rw[of_decide_eq_true h];exact CJ
 |.bl i,C,X,G,e,h=>by refine gC e h λc _ _ h=>?_;rw[of_decide_eq_true h];exact Eo
 |.non,C,X,G,e,h=>by refine gC e h λc _ _ h=>?_;rw[of_decide_eq_true h];exact CK
 |.bin op a b,C,X,G,e,h=>by refine Di e h λl o r _ h=>?_;simp only[q7,decide_eq_true_eq]at h;rw[h.1.1];exact Ep (Dt G op) (pM op) (mE G.mono a) (mE G.mono b) (sE a G _ h.1.2) (sE b G _ h.2)
 |.neg a,C,X,G,e,h=>by
  refine j4 e h λo x _ h=>?_;replace h:=bT h;obtain⟨ho,h⟩:=h
  cases of_decide_eq_true ho
  exact Er y9 oG (mE G.mono a) (sE a G _ h)
 |.cmp op a b,C,X,G,e,h=>by refine pP e h λl os rs pos h=>?_;refine da os h λo h=>?_;refine da rs h λr h=>?_;simp only[q7,decide_eq_true_eq]at h;obtain⟨⟨⟨ho,pv⟩,hb⟩,hm⟩:=h;rw[Mz]at hm;subst ho;exact CL (rM G op) (fL op) (mE G.mono a) (mE G.mono b) (sE a G _ pv) (sE b G _ hb) hm
 |.and es,C,X,G,e,h=>by
  refine ik e h λo xs _ h=>?_;replace h:=bT h;obtain⟨ho,h⟩:=h;obtain⟨ho,j⟩:=bT ho
  cases of_decide_eq_true ho
  exact sAnds es G _ _ h (by intro z;rw[z]at j;cases j)
 |.or es,C,X,G,e,h=>by
  refine ik e h λo xs _ h=>?_;replace h:=bT h;obtain⟨ho,h⟩:=h;obtain⟨ho,j⟩:=bT ho
  cases of_decide_eq_true ho
  exact sOrs es G _ _ h (by intro z;rw[z]at j;cases j)
 |.not a,C,X,G,e,h=>by
  refine j4 e h λo x _ h=>?_;replace h:=bT h;obtain⟨ho,h⟩:=h
  cases of_decide_eq_true ho
  exact CW (mE G.mono a) (sE a G _ h)
 |.ite c a b,C,X,G,e,h=>by refine Dj e h λt x y _ h=>?_;simp only[q7]at h;exact Ex (mT G.mono c) (mE G.mono a) (mE G.mono b) (sT c G _ h.1.1) (sE a G _ h.1.2) (sE b G _ h.2)
 |.tup es,C,X,G,e,h=>by refine dX e h λxs _ _ h=>?_;exact CN (mA G.mono es) (sA es G _ h)
 |.lst es,C,X,G,e,h=>by refine EG e h λxs _ h=>?_;exact CO (mA G.mono es) (sA es G _ h)
 |.ix a b,C,X,G,e,h=>by refine dv e h λx y _ h=>?_;simp only[q7]at h;exact Es (FJ (by have:=G.units;lia)) rg (mE G.mono a) (mE G.mono b) (sE a G _ h.1.2) (sE b G _ h.2) (yU h.1.1)
 |.sl a lo hi,C,X,G,e,h=>by refine jSl e h λx l u s p pos h=>?_;refine jon s h fun  h=>?_;simp only[q7]at h;exact Ey (mE G.mono a) (mO G.mono lo) (mO G.mono hi) (sE a G _ h.1.1) (sO lo G _ h.1.2) (sO hi G _ h.2)
 |.call f es,C,X,G,e,h=>by
  refine cV e h λx xs p pos h=>?_;simp only[q7,decide_eq_true_eq,Mz]at h;have hA:=sA es G _ h.2;have J:=gD h.2
  cases xs with
  |nil=>
   cases es with
   |nil=>exact yV G h.1.1.1 (G.gl h.1.1.2) h.1.2
   |cons _ _=>simp[okEs]at h
  |cons y ys=>simp only[OC,q7]at J;exact Bf G (mA G.mono es) h.1.1.1 (G.gl h.1.1.2) h.1.2 hA (aj J.1) (j8 J.2)
 |.blt f es,C,X,G,e,h=>by
  refine cV e h λx xs p pos h=>?_;simp only[q7,decide_eq_true_eq,Mz]at h;have hA:=sA es G _ h.2;have J:=gD h.2;obtain⟨⟨⟨rfl,O⟩,j⟩,_⟩:=h
  cases xs with
  |nil=>simp at j
  |cons y ys=>simp only[OC,q7]at J;exact Du G (mA G.mono es) (G.gl O) hA (aj J.1) (j8 J.2)
 |.glob x k',C,X,G,e,h=>by refine eI e h λx _ h=>?_;simp only[q7,decide_eq_true_eq,Mz]at h;obtain⟨⟨⟨rfl,O⟩,hc⟩,hd⟩:=h;obtain⟨u,fv,hv⟩:=G.cs _ _ hc;obtain⟨v,rv,rd⟩:=zS hv;exact PE.imp (A8 (v:=v) (G.gl O) fv rv hd) λσ H Q g9=>(by obtain⟨ρ,M,rs,rm,q⟩:=g9;exact q _ H Ext.refl rm (rd H))
 |.dnew t,C,X,G,e,h=>by refine EH e h λks vs _ h=>?_;refine fO ks h fun  h=>?_;refine fO vs h fun  h=>?_;exact B0
 |.sortI a,C,X,G,e,h=>by refine cV e h λx xs p pos h=>?_;refine da xs h λw h=>?_;refine ke w h λy n ys ap cp h=>?_;refine fO ys h fun  h=>?_;simp only[q7,decide_eq_true_eq]at h;obtain⟨⟨⟨⟨⟨rfl,O⟩,rfl⟩,L⟩,hl⟩,pv⟩:=h;exact yD (by have:=G.units;lia) (mE G.mono a) G.calm (sE a G _ pv) (G.gl O) (G.mgB _ (by decide)) (dY L) hl
 |.dget o k' x,C,X,G,e,h=>by
  refine ke e h λy n xs ap cp h=>?_;refine j7 xs h λe1 e2 h=>?_;simp only[q7,decide_eq_true_eq]at h;obtain⟨⟨⟨⟨⟨⟨⟨rfl,L⟩,hl⟩,HY⟩,U⟩,ho⟩,hk⟩,hx⟩:=h;have st:L8 [e1,e2] X.env=[(N3,eval e1 X.env),(N3,eval e2 X.env)]:=by rw[aj HY,aj U];rfl
  refine Ba (by have:=G.units;lia) (mE G.mono o) (mE G.mono k') (mE G.mono x) (sE o G _ ho) (sE k' G _ hk) (sE x G _ hx) ⟨dY L,?_,hl,?_⟩
  ·rw[st];rfl
  ·rw[st];rfl
 |.isin a T,C,X,G,e,h=>by refine cV e h λx xs p pos h=>?_;refine j7 xs h λy w h=>?_;refine eI w h λz p2 h=>?_;simp only[q7,decide_eq_true_eq]at h;obtain⟨⟨⟨⟨⟨⟨rfl,O⟩,HZ⟩,hz⟩,hT⟩,hs⟩,pv⟩:=h;obtain⟨n1,n2,n3,n4⟩:=yW G T hT;subst hz;exact AQ hT (mE G.mono a) (sE a G _ pv) (G.gl O) (G.mgB _ (by decide)) (G.gl HZ) n1 n2 n3 n4 (aj hs) rfl
 |.meth m o a,C,X,G,e,h=>by
  refine ke e h λx n xs ap cp h=>?_;refine da xs h λy h=>?_;simp only[q7,decide_eq_true_eq]at h;obtain⟨⟨⟨⟨⟨hn,L⟩,hl⟩,hs⟩,ho⟩,pv⟩:=h;subst hn;have pa:PA X [y] (lA X.K (aG (wE Φ a) bo)):=bq (mE G.mono a) aw (sE a G _ pv) cR (aj hs);have few:((P0 cp (L8 [y] X.env)).all (λx=>!x.1)&&(V1 cp (Sx [] X.env)).all (λx=>x.1.isSome)&&decide (([y]:List Expr).length+([]:List Qv).length+(if([]:List Qv).isEmpty then 0 else 1)<30))=F2:=by rw[aj hs];rfl
  cases m with
  |append=>exact PE.imp (zF RJ PySem.F.slot_list_append PySem.F.type_list_append lK (sE o G _ ho) pa (dY L) few hl (aj hs) rfl) (rj iD (mE G.mono o) (aq (mE G.mono a) aw) yd)
 |.ins o i a,C,X,G,e,h=>by
  refine ke e h λx n xs ap cp h=>?_;refine j7 xs h λy z h=>?_;simp only[q7,decide_eq_true_eq]at h;obtain⟨⟨⟨⟨⟨⟨⟨hn,L⟩,hl⟩,hs⟩,U⟩,ho⟩,hi⟩,pv⟩:=h;subst hn;have pa:PA X [y,z] (lA X.K (aG (wE Φ i) (aG (wE Φ a) bo))):=bq (mE G.mono i) (aq (mE G.mono a) aw) (sE i G _ hi) (bq (mE G.mono a) aw (sE a G _ pv) cR (aj U)) (aj hs);have few:((P0 cp (L8 [y,z] X.env)).all (λx=>!x.1)&&(V1 cp (Sx [] X.env)).all (λx=>x.1.isSome)&&decide (([y,z]:List Expr).length+([]:List Qv).length+(if([]:List Qv).isEmpty then 0 else 1)<30))=F2:=by rw[aj hs,aj U];rfl
  exact PE.imp (zF RJ Rm PySem.F.type_list_insert wa (sE o G _ ho) pa (dY L) few hl (aj hs) (by rw[aj U];rfl)) (rj iG (mE G.mono o) (aq (mE G.mono i) (aq (mE G.mono a) aw)) yI)
 |.comp fr N' c,C,X,G,e,h=>by
  refine wk e h λelt gens sc pos h=>?_;simp only[q7]at h;have B:b8 sc X.env.scope X.N N' fr:=by rw[G.sc,G.N];exact kf h.1
  have B':b8 sc C.sc C.N N' fr:=kf h.1
  cases c with
  |last src g ifs m=>
   have h2:=h.2;simp only[okC]at h2
   split at h2
   ·rename_i t it fs a;simp only[q7,decide_eq_true_eq]at h2;obtain⟨⟨⟨⟨rfl,hi⟩,O⟩,fv⟩,he⟩:=h2;refine PE.imp (iC G.calm G.hx B (λg' z=>by simp at z) (sI src G _ t hi).1 (λs H fp=>sG (G.blk B' s H fp) g t O) (tb:=λp=>lC X.K p (bf (wTl Φ ifs) (cC (wE Φ m)))) (λs H fp p=>?_) (sI src G _ t hi).2) (eD (mI G.mono src) (aS (bD (mE G.mono m)) (mTl G.mono ifs)))
    have G':=G.blk B' s H fp;exact dH (p:=p) G' (bD (mE G.mono m)) (mTl G.mono ifs) (PB.imp (kG G'.hx (sE m G' elt he) rfl) (gn (mE G.mono m))) (sTl ifs G' fs fv)
   ·cases h2
  |more src g ifs rest=>
   have h2:=h.2;simp only[okC]at h2
   split at h2
   ·rename_i t it fs a g2 gs;simp only[q7,decide_eq_true_eq]at h2;obtain⟨⟨⟨⟨rfl,hi⟩,O⟩,fv⟩,he⟩:=h2;have I0:∀g',(g2::gs)[0]?=Z g'->g'.is_async=0:=fun g' z=>by
     have z':g2=g':=by simpa using z
     subst z';exact gE he
    refine PE.imp (iC G.calm G.hx B I0 (sI src G _ t hi).1 (λs H fp=>sG (G.blk B' s H fp) g t O) (tb:=λp=>lC X.K p (bf (wTl Φ ifs) (wCl Φ rest))) (λs H fp p=>?_) (sI src G _ t hi).2) (eD (mI G.mono src) (aS (mCl G.mono rest) (mTl G.mono ifs)));have G':=G.blk B' s H fp;exact dH (p:=p) G' (mCl G.mono rest) (mTl G.mono ifs) (sCl rest G' elt (⟨t,it,fs,0⟩::g2::gs) sc pos 0 (.inl rfl) p he) (sTl ifs G' fs fv)
   ·cases h2
theorem sA:∀(m:MEs) {C:Ctx} {X:Cx} (G:Good C Φ k X) (es:List Expr),okEs m C es=F2->PA X es (lA X.K (wA Φ m))
 |.nil,C,X,G,es,h=>by simp[okEs]at h;subst h;exact cR
 |.cons m r,C,X,G,[],h=>by simp[okEs]at h
 |.cons m r,C,X,G,e::es,h=>by simp only[okEs,q7]at h;exact bq (mE G.mono m) (mA G.mono r) (sE m G e h.1.2) (sA r G es h.2) (aj h.1.1)
theorem sAnds:∀(m:MEs) {C:Ctx} {X:Cx} (G:Good C Φ k X) (es:List Expr) (pos:Pos),okEs m C es=F2->es≠[]->PE X (.BoolOp .And es pos) (lE X.K (wAnds Φ m))
 |.nil,C,X,G,es,pos,h,j=>by simp[okEs]at h;exact absurd h j
 |.cons m r,C,X,G,[],pos,h,j=>absurd rfl j
 |.cons m .nil,C,X,G,e::es,pos,h,_=>by simp only[okEs,q7]at h;obtain⟨h1,h2⟩:=h;simp at h2;subst h2;exact vh (sE m G e h1.2)
 |.cons m (.cons m2 r),C,X,G,e::es,pos,h,_=>by
  simp only[okEs,q7]at h;obtain⟨h1,h2⟩:=h
  cases es with
  |nil=>simp at h2
  |cons f fs=>exact CV (mE G.mono m) (mAnds G.mono _) (sE m G e h1.2) (sAnds (.cons m2 r) G (f::fs) pos (by simpa only[okEs,q7]using h2) (by simp))
theorem sOrs:∀(m:MEs) {C:Ctx} {X:Cx} (G:Good C Φ k X) (es:List Expr) (pos:Pos),okEs m C es=F2->es≠[]->PE X (.BoolOp .Or es pos) (lE X.K (wOrs Φ m))
 |.nil,C,X,G,es,pos,h,j=>by simp[okEs]at h;exact absurd h j
 |.cons m r,C,X,G,[],pos,h,j=>absurd rfl j
 |.cons m .nil,C,X,G,e::es,pos,h,_=>by simp only[okEs,q7]at h;obtain⟨h1,h2⟩:=h;simp at h2;subst h2;exact vh (sE m G e h1.2)
 |.cons m (.cons m2 r),C,X,G,e::es,pos,h,_=>by
  simp only[okEs,q7]at h;obtain⟨h1,h2⟩:=h
  cases es with
  |nil=>simp at h2
  |cons f fs=>exact Ew (mE G.mono m) (mOrs G.mono _) (sE m G e h1.2) (sOrs (.cons m2 r) G (f::fs) pos (by simpa only[okEs,q7]using h2) (by simp))
theorem sO:∀(m:MO) {C:Ctx} {X:Cx} (G:Good C Φ k X) (e:Option Expr),okO m C e=F2->PO X e (lO X.K (wO Φ m))
 |.none,C,X,G,e,h=>by simp[okO]at h;subst h;exact AK
 |.some m,C,X,G,Y,h=>by simp[okO]at h
 |.some m,C,X,G,Z e,h=>by simp only[okO]at h;exact AL (mE G.mono m) (sE m G e h)
theorem sT:∀(m:MT) {C:Ctx} {X:Cx} (G:Good C Φ k X) (e:Expr),okT m C e=F2->PT X e (lT X.K (wT Φ m))
 |.tru m,C,X,G,e,h=>by simp only[okT,q7]at h;exact CQ (mE G.mono m) (sE m G e h.2) (u7 h.1)
 |.cmp op a b,C,X,G,e,h=>by refine pP e h λl os rs pos h=>?_;refine da os h λo h=>?_;refine da rs h λr h=>?_;simp only[q7,decide_eq_true_eq]at h;obtain⟨⟨⟨ho,q⟩,hb⟩,hm⟩:=h;rw[Mz]at hm;subst ho;exact CM (rM G op) (fL op) (mE G.mono a) (mE G.mono b) (sE a G _ q) (sE b G _ hb) hm
 |.and ts,C,X,G,e,h=>by
  refine ik e h λo xs _ h=>?_;replace h:=bT h;obtain⟨ho,h⟩:=h;obtain⟨ho,j⟩:=bT ho
  cases of_decide_eq_true ho
  exact(sAndTs ts G _ _ h (by intro z;rw[z]at j;cases j)).pt
 |.or ts,C,X,G,e,h=>by
  refine ik e h λo xs _ h=>?_;replace h:=bT h;obtain⟨ho,h⟩:=h;obtain⟨ho,j⟩:=bT ho
  cases of_decide_eq_true ho
  exact(sOrTs ts G _ _ h (by intro z;rw[z]at j;cases j)).pt
 |.not t,C,X,G,e,h=>by
  refine j4 e h λo x _ h=>?_;replace h:=bT h;obtain⟨ho,h⟩:=h
  cases of_decide_eq_true ho
  exact CS (mT G.mono t) (sT t G _ h)
theorem sAndTs:∀(m:MTs) {C:Ctx} {X:Cx} (G:Good C Φ k X) (es:List Expr) (pos:Pos),okTs m C es=F2->es≠[]->PW X (.BoolOp .And es pos) (lT X.K (wAndTs Φ m))
 |.nil,C,X,G,es,pos,h,j=>by simp[okTs]at h;exact absurd h j
 |.cons m r,C,X,G,[],pos,h,j=>absurd rfl j
 |.cons m .nil,C,X,G,e::es,pos,h,_=>by simp only[okTs,q7]at h;obtain⟨h1,h2⟩:=h;simp at h2;subst h2;exact AI (sT m G e h1)
 |.cons m (.cons m2 r),C,X,G,e::es,pos,h,_=>by
  simp only[okTs,q7]at h;obtain⟨h1,h2⟩:=h
  cases es with
  |nil=>simp at h2
  |cons f fs=>exact CU (mT G.mono m) (mAndTs G.mono _) (sT m G e h1) (sAndTs (.cons m2 r) G (f::fs) pos (by simpa only[okTs,q7]using h2) (by simp))
theorem sOrTs:∀(m:MTs) {C:Ctx} {X:Cx} (G:Good C Φ k X) (es:List Expr) (pos:Pos),okTs m C es=F2->es≠[]->PW X (.BoolOp .Or es pos) (lT X.K (wOrTs Φ m))
 |.nil,C,X,G,es,pos,h,j=>by simp[okTs]at h;exact absurd h j
 |.cons m r,C,X,G,[],pos,h,j=>absurd rfl j
 |.cons m .nil,C,X,G,e::es,pos,h,_=>by simp only[okTs,q7]at h;obtain⟨h1,h2⟩:=h;simp at h2;subst h2;exact CT (sT m G e h1)
 |.cons m (.cons m2 r),C,X,G,e::es,pos,h,_=>by
  simp only[okTs,q7]at h;obtain⟨h1,h2⟩:=h
  cases es with
  |nil=>simp at h2
  |cons f fs=>exact Ev (mT G.mono m) (mOrTs G.mono _) (sT m G e h1) (sOrTs (.cons m2 r) G (f::fs) pos (by simpa only[okTs,q7]using h2) (by simp))
theorem sTl:∀(m:MTs) {C:Ctx} {X:Cx} (G:Good C Φ k X) (es:List Expr),okTs m C es=F2->LP (λc t=>PT X c t) es ((wTl Φ m).map (lT X.K))
 |.nil,C,X,G,es,h=>by simp[okTs]at h;subst h;exact .nil
 |.cons m r,C,X,G,[],h=>by simp[okTs]at h
 |.cons m r,C,X,G,e::es,h=>by simp only[okTs,q7]at h;exact .cons (sT m G e h.1) (sTl r G es h.2)
theorem sI:∀(m:MI) {C:Ctx} {X:Cx} (G:Good C Φ k X) (e tg:Expr),okI m C tg e=F2->PI X tg e (lI X.K (wI Φ m))/\∀x,Ng e X.env x=pure x
 |.seq m,C,X,G,e,tg,h=>by simp only[okI,q7]at h;exact⟨D4 (mE G.mono m) (sE m G e h.2),wo h.1⟩
 |.rng1 a,C,X,G,e,tg,h=>by refine cV e h λx xs p pos h=>?_;refine da xs h λy h=>?_;simp only[q7,decide_eq_true_eq]at h;obtain⟨⟨⟨rfl,B⟩,hs⟩,q⟩:=h;exact⟨AT (aq (mE G.mono a) aw) (G.gl B) (G.mgB _ (by decide)) (bq (mE G.mono a) aw (sE a G _ q) cR (aj hs)) (aj hs),λx=>rfl⟩
 |.rng2 a b,C,X,G,e,tg,h=>by refine cV e h λx xs p pos h=>?_;refine j7 xs h λy z h=>?_;simp only[q7,decide_eq_true_eq]at h;obtain⟨⟨⟨⟨⟨rfl,B⟩,hs⟩,j⟩,q⟩,hb⟩:=h;exact⟨AU (aq (mE G.mono a) (aq (mE G.mono b) aw)) (G.gl B) (G.mgB _ (by decide)) (bq (mE G.mono a) (aq (mE G.mono b) aw) (sE a G _ q) (bq (mE G.mono b) aw (sE b G _ hb) cR (aj j)) (aj hs)) (by rw[aj hs,aj j];rfl) (aj j),λx=>rfl⟩
 |.enum a,C,X,G,e,tg,h=>by refine cV e h λx xs p pos h=>?_;refine da xs h λy h=>?_;refine dX tg h λts kt pt h=>?_;simp only[q7,decide_eq_true_eq]at h;obtain⟨⟨⟨rfl,B⟩,hs⟩,q⟩:=h;exact⟨AV (mE G.mono a) (G.gl B) (G.mgB _ (by decide)) (bq (mE G.mono a) aw (sE a G _ q) cR (aj hs)) (aj hs),λx=>rfl⟩
 |.items a,C,X,G,e,tg,h=>by refine ke e h λx n xs ap cp h=>?_;refine fO xs h fun  h=>?_;refine dX tg h λts kt pt h=>?_;simp only[q7,decide_eq_true_eq]at h;obtain⟨⟨⟨rfl,F⟩,hl⟩,q⟩:=h;exact⟨yN (mE G.mono a) (sE a G _ q) (dY F) hl,λx=>rfl⟩
 |.zip a b,C,X,G,e,tg,h=>by refine cV e h λx xs p pos h=>?_;refine j7 xs h λy z h=>?_;refine dX tg h λts kt pt h=>?_;simp only[q7,decide_eq_true_eq]at h;obtain⟨⟨⟨⟨⟨rfl,B⟩,hs⟩,j⟩,q⟩,hb⟩:=h;exact⟨D6 (mE G.mono a) (mE G.mono b) (G.gl B) (G.mgB _ (by decide)) (bq (mE G.mono a) (aq (mE G.mono b) aw) (sE a G _ q) (bq (mE G.mono b) aw (sE b G _ hb) cR (aj j)) (aj hs)) (by rw[aj hs,aj j];rfl) (aj j),λx=>rfl⟩
theorem sCl:∀(m:MC) {C:Ctx} {X:Cx} (G:Good C Φ k X) (elt:Expr) (gens:List LO) (sc:Scope) (pos:Pos) (d:Nat) (_:d=0∨d=d) (p:VH),okC m C C (gens.drop (d+1)) elt=F2->
 PB X (b7 elt gens sc pos d (.ref p) X.env) (lC X.K p (wCl Φ m))
 |.last src g ifs m,C,X,G,elt,gens,sc,pos,d,_,p,h=>by
  simp only[okC]at h
  split at h
  ·rename_i t it fs a hd;simp only[q7,decide_eq_true_eq]at h;obtain⟨⟨⟨⟨rfl,hi⟩,j⟩,q⟩,he⟩:=h;have e1:gens[d+1]?=Z ⟨t,it,fs,0⟩:=by
    have z:(gens.drop (d+1))[0]?=Z ⟨t,it,fs,0⟩:=by rw[hd];rfl
    rw[Pk]at z;simpa using z
   have e2:gens[d+1+1]?=Y:=by
    have z:(gens.drop (d+1))[1]?=Y:=by rw[hd];rfl
    rw[Pk]at z;simpa using z
   refine PB.imp (lP G.hx G.calm e1 (λg' z=>by rw[e2]at z;cases z) (sI src G _ t hi).1 (sG G g t j) (dH (p:=p) G (bD (mE G.mono m)) (mTl G.mono ifs) (PB.imp (kG G.hx (sE m G elt he) e2) (gn (mE G.mono m))) (sTl ifs G fs q)) (sI src G _ t hi).2) (iF (mI G.mono src) (aS (bD (mE G.mono m)) (mTl G.mono ifs)))
  ·cases h
 |.more src g ifs rest,C,X,G,elt,gens,sc,pos,d,_,p,h=>by
  simp only[okC]at h
  split at h
  ·rename_i t it fs a g2 gs hd;simp only[q7,decide_eq_true_eq]at h;obtain⟨⟨⟨⟨rfl,hi⟩,j⟩,q⟩,he⟩:=h;have e1:gens[d+1]?=Z ⟨t,it,fs,0⟩:=by
    have z:(gens.drop (d+1))[0]?=Z ⟨t,it,fs,0⟩:=by rw[hd];rfl
    rw[Pk]at z;simpa using z
   have e2:gens[d+1+1]?=Z g2:=by
    have z:(gens.drop (d+1))[1]?=Z g2:=by rw[hd];rfl
    rw[Pk]at z;simpa using z
   have F:gens.drop (d+1+1)=g2::gs:=by
    have z:(gens.drop (d+1)).drop 1=g2::gs:=by rw[hd];rfl
    rw[QP]at z;simpa using z
   have B:∀g',gens[d+1+1]?=Z g'->g'.is_async=0:=λg' z=>by rw[e2]at z;cases z;exact gE he
   refine PB.imp (lP G.hx G.calm e1 B (sI src G _ t hi).1 (sG G g t j) (dH (p:=p) G (mCl G.mono rest) (mTl G.mono ifs) (sCl rest G elt gens sc pos (d+1) (.inr rfl) p (by rw[F];exact he)) (sTl ifs G fs q)) (sI src G _ t hi).2) (iF (mI G.mono src) (aS (mCl G.mono rest) (mTl G.mono ifs)))
  ·cases h
end
end
end
section
section
variable{Φ:Phi}{k:Nat}{C:Ctx}{X:Cx}
theorem yX{ts vs:List Expr}{kk j:Nat}{pp p2:Pos}(hs:env.scope=sc)(q:sc.kind=.function)(h:tZ sc ts vs=F2):NY [.Tuple ts kk pp] (.Tuple vs j p2) env=pure Y:=by
 have hb:env.blockKind=.function:=by unfold Ro;rw[hs,q];rfl
 have h':tZ sc ts vs=F2:=h;unfold NY;dsimp only;rw[hb]
 by_cases c1:(!(ts.length==2 || ts.length==3) || vs.length != ts.length)=F2
 ·simp only[c1,Bool.true_or,if_true]
 ·simp only[Q0]at c1;rw[c1];simp only[Q7,bne_self_eq_false,MK,if_false]
  split
  ·rfl
  ·
    generalize hL:List.filterMap _ ts=L;obtain rfl:L=b6 sc ts:=by
     rw[<-hL];unfold b6;congr 1
     funext x
     cases x<;>first|rfl|(unfold Tr;rw[hs])
    unfold tZ at h';rw[c1]at h';simp only[Q7,Qn]at h'
    by_cases c3:((b6 sc ts).length != ts.length || (b6 sc ts).eraseDups.length != (b6 sc ts).length)=F2
    ·rw[if_pos c3]
    ·rw[if_neg c3];have z:vs.all (Tb 8)=F2:=by
      rcases h' with h'|h'
      ·exact absurd (Qn _ _ |>.mpr h') c3
      ·exact h'
     rw[if_pos z]
theorem Bg{ts vs:List Expr}{ns:List Str}{kk j:Nat}{pp p2:Pos}(hs:env.scope=sc)(q:sc.kind=.function)(h:u5 sc ts vs ns=F2):NY [.Tuple ts kk pp] (.Tuple vs j p2) env=pure (Z ns):=by
 have hb:env.blockKind=.function:=by unfold Ro;rw[hs,q];rfl
 simp only[u5,q7,Mz,decide_eq_true_eq]at h;obtain⟨⟨⟨⟨⟨B,F⟩,G⟩,J⟩,O⟩,U⟩:=h;unfold NY;dsimp only;rw[hb,B];simp only[Q7,bne_self_eq_false,MK,if_false]
 split
 ·next z=>exact absurd z (by rw[Q0];exact F)
 ·generalize hL:List.filterMap _ ts=L;obtain rfl:L=b6 sc ts:=by
   rw[<-hL];unfold b6;congr 1
   funext x
   cases x<;>first|rfl|(unfold Tr;rw[hs])
  rw[J,O,U,G];rfl
theorem rO{i:Nat}(h:u4 C i x=F2):C.N[i]?=Z x/\C.sc.names.lookup x=Z .local:=by simpa[u4]using h
theorem dI{tg:Expr}{l:Nat}{b:Bool}(h:Pp e (Z tg) l env=pure b):P2 [tg] e l env=pure b:=by unfold P2;exact h
theorem Bh{tg:Expr}(hs:env.scope=sc)(j:sc.kind=.function)(h:zX sc tg e=F2):NY [tg] e env=pure Y:=by
 cases tg with
 |Tuple ts kk pp=>
  cases e with
  |Tuple vs q p2=>exact yX hs j h
  |_=>rfl
 |_=>first|rfl|(cases h;done)
theorem pS{elt:Expr}{gens:List LO}{s:Scope}{px:Pos}{l:Nat}(hs:env.scope=sc)(j:sc.kind=.function):
 Pp (.ListComp elt gens s pos) (Z (.Name x px)) l env=pure (u6 sc x px (.ListComp elt gens s pos)):=by
 have hb:env.blockKind=.function:=by unfold Ro;rw[hs,j];rfl
 unfold Pp;dsimp only;rw[hb];unfold u6 Tr;rw[hs];rfl
theorem wq{ek ev:Expr}{gens:List LO}{s:Scope}{px:Pos}{l:Nat}(hs:env.scope=sc)(j:sc.kind=.function):
 Pp (.DictComp ek ev gens s pos) (Z (.Name x px)) l env=pure (sc.names.lookup x==Z .local&&px.line==(Expr.DictComp ek ev gens s pos).pos.line && !(s.names.any λ(n,k)=>n==x&&(k==.local || k==.cell))):=by
 have hb:env.blockKind=.function:=by unfold Ro;rw[hs,j];rfl
 unfold Pp;dsimp only;rw[hb];unfold Tr;rw[hs];rfl
mutual
theorem sS:∀(m:MS) (G:Good C Φ k X) (q:C.sc.kind=.function) (s:Stmt),okS m C s=F2->PS X s (lS X.K (wS Φ m))
 |.asg g m,G,q,s,h=>by
  refine j6 s h λts e pos h1=>?_;clear h;refine da ts h1 λtg h=>?_;clear h1;simp only[q7]at h;obtain⟨⟨⟨F,he⟩,J⟩,hc⟩:=h;have hw:=Bh G.sc q J;have pg:=sG G g tg F;have plain:P2 [tg] e pos.line X.env=pure N3->PS X (.Assign [tg] e pos) (lS X.K (kP (wE Φ m) (bG g))):=λhs=>PS.imp (uB (sE m G e he) pg hs hw (by cases tg<;>first|rfl|(cases J;done))) (yq (mE G.mono m))
  cases tg with
  |Tuple ts a b=>exact plain (dI (kS hc))
  |Name x px=>
   cases e with
   |ListComp elt gens sc cpos=>
    by_cases sw:u6 C.sc x px (.ListComp elt gens sc cpos)=F2
    ·cases g with
     |tup gs=>exact absurd F Kl
     |name i=>
      cases m with
      |comp fr N' c=>
       replace he:=bT he;have B:b8 sc X.env.scope X.N N' fr:=by rw[G.sc,G.N];exact kf he.1
       have B':b8 sc C.sc C.N N' fr:=kf he.1;have fv:PG X (.Name x px) (jj i):=by have F:=bT F;have F:=PZ (bT F.1) F.2;exact qV G.nd (by rw[G.N];exact of_decide_eq_true F.1.1) (G.loc F.1.2) (G.own F.2)
       have HY:∀l,Pp (.ListComp elt gens sc cpos) (Z (.Name x px)) l X.env=pure F2:=λl=>by rw[pS G.sc q,sw]
       have mc:=mCmp G.mono fr c
       cases c with
       |last src g ifs m=>
        have h2:=he.2;simp only[okC]at h2
        split at h2
        ·rename_i t it fs a;simp only[q7,decide_eq_true_eq]at h2;obtain⟨⟨⟨⟨rfl,hi⟩,O⟩,ht⟩,L⟩:=h2;refine PS.imp (jz (i:=i) (g:=lG X.K (bG g)) (wi:=lI X.K (wI Φ src)) G.calm G.hx B (λg' z=>by simp at z) (sI src G _ t hi).1 (λs H fp=>sG (G.blk B' s H fp) g t O) (tb:=λp=>lC X.K p (bf (wTl Φ ifs) (cC (wE Φ m)))) (λs H fp p=>?_) (sI src G _ t hi).2 fv (HY _)) λD σ H h=>?_
         ·have G':=G.blk B' s H fp;exact dH (p:=p) G' (bD (mE G.mono m)) (mTl G.mono ifs) (PB.imp (kG G'.hx (sE m G' elt L) rfl) (gn (mE G.mono m))) (sTl ifs G' fs ht)
         ·exact eD (mI G.mono src) (aS (bD (mE G.mono m)) (mTl G.mono ifs)) σ H _ (mf mc D σ H h)
        ·cases h2
       |more src g ifs rest=>
        have h2:=he.2;simp only[okC]at h2
        split at h2
        ·rename_i t it fs a g2 gs;simp only[q7,decide_eq_true_eq]at h2;obtain⟨⟨⟨⟨rfl,hi⟩,O⟩,ht⟩,L⟩:=h2;have HZ:∀g',(g2::gs)[0]?=Z g'->g'.is_async=0:=fun g' z=>by
          have z':g2=g':=by simpa using z
          subst z';exact gE L
         refine PS.imp (jz (i:=i) (g:=lG X.K (bG g)) (wi:=lI X.K (wI Φ src)) G.calm G.hx B HZ (sI src G _ t hi).1 (λs H fp=>sG (G.blk B' s H fp) g t O) (tb:=λp=>lC X.K p (bf (wTl Φ ifs) (wCl Φ rest))) (λs H fp p=>?_) (sI src G _ t hi).2 fv (HY _)) λD σ H h=>?_
         ·have G':=G.blk B' s H fp;exact dH (p:=p) G' (mCl G.mono rest) (mTl G.mono ifs) (sCl rest G' elt (⟨t,it,fs,0⟩::g2::gs) sc cpos 0 (.inl rfl) p L) (sTl ifs G' fs ht)
         ·exact eD (mI G.mono src) (aS (mCl G.mono rest) (mTl G.mono ifs)) σ H _ (mf mc D σ H h)
        ·cases h2
      |_=>exact absurd he Kl
    ·refine plain ?_;simp only[Q0]at sw;refine dI ?_;rw[pS G.sc q,sw]
   |SetComp _ _ _ _=>cases m<;>exact absurd he Kl
   |DictComp _ _ _ _ _=>refine plain (dI ?_);rw[wq G.sc q];unfold Ds at hc;simp only[Mz]at hc;rw[hc]
   |_=>exact plain (dI rfl)
  |_=>cases J
 |.par i j a b,G,q,s,h=>by refine j6 s h λts e pos h=>?_;refine da ts h λtg h=>?_;refine dX tg h λts k p h=>?_;refine dX e h λes k' p' h=>?_;refine j7 ts h λt u h=>?_;refine j7 es h λe f h=>?_;refine eI t h λx px h=>?_;refine eI u h λy py h=>?_;simp only[q7,decide_eq_true_eq]at h;obtain⟨⟨⟨⟨⟨⟨⟨hi,hj⟩,I0⟩,n1⟩,n2⟩,J⟩,hb⟩,hw⟩:=h;obtain⟨i1,i2⟩:=rO hi;obtain⟨j1,j2⟩:=rO hj;exact PS.imp (Cg G.calm G.nd (by rw[G.N];exact i1) (by rw[G.N];exact j1) I0 (by rw[G.sc];exact i2) (by rw[G.sc];exact j2) (bq (mE G.mono a) (aq (mE G.mono b) aw) (sE a G _ J) (bq (mE G.mono b) aw (sE b G _ hb) cR (aj n2)) (aj n1)) (Bg G.sc q hw) (dI rfl)) (vF (aq (mE G.mono a) (aq (mE G.mono b) aw)))
 |.put o i m,G,q,s,h=>by refine j6 s h λts e pos h=>?_;refine da ts h λtg h=>?_;refine dv tg h λx y tp h=>?_;simp only[q7]at h;obtain⟨⟨⟨⟨U,hc⟩,ho⟩,hi⟩,he⟩:=h;exact D8 (by have:=G.units;lia) (mE G.mono m) (mE G.mono o) (mE G.mono i) (sE m G e he) (sE o G x ho) (sE i G y hi) (dI (kS hc)) rfl (λv=>by cases y<;>first|rfl|(cases U;done))
 |.aug i op m,G,q,s,h=>by
  refine iH s h λt o e pos h=>?_;refine eI t h λx _ h=>?_;simp only[q7,decide_eq_true_eq]at h;obtain⟨⟨⟨⟨⟨rfl,pv⟩,hi⟩,hl⟩,hf⟩,he⟩:=h
  cases op with
  |add=>exact jP G.nd (by rw[G.N];exact hi) (G.loc hl) (sE m G _ he) mm gu (mE G.mono m) (G.own hf)
  |sub=>exact jP G.nd (by rw[G.N];exact hi) (G.loc hl) (sE m G _ he) mn gv (mE G.mono m) (G.own hf)
  |ext=>exact jP G.nd (by rw[G.N];exact hi) (G.loc hl) (sE m G _ he) wd mM (mE G.mono m) (G.own hf)
  |mul=>exact jP G.nd (by rw[G.N];exact hi) (G.loc hl) (sE m G _ he) mq gw (mE G.mono m) (G.own hf)
  |_=>simp at pv
 |.augI o i op m,G,q,s,h=>by
  refine iH s h λt o' e pos h=>?_;refine dv t h λx y tp h=>?_;simp only[q7,decide_eq_true_eq]at h;obtain⟨⟨⟨⟨⟨rfl,pv⟩,U⟩,ho⟩,hi⟩,he⟩:=h;have hu:X.A.units+1<NA:=by have:=G.units;lia
  have J:∀ov iv new,augStore y ov iv new=(do holding [new,ov,iv] (SO ov iv new);release [new,ov,iv] [];pure .next):=λov iv new=>by cases y<;>first|rfl|(cases U;done)
  cases op with
  |add=>exact kQ hu (mE G.mono o) (mE G.mono i) (mE G.mono m) gu (sE o G x ho) (sE i G y hi) (sE m G e he) mm J
  |sub=>exact kQ hu (mE G.mono o) (mE G.mono i) (mE G.mono m) gv (sE o G x ho) (sE i G y hi) (sE m G e he) mn J
  |mul=>exact kQ hu (mE G.mono o) (mE G.mono i) (mE G.mono m) gw (sE o G x ho) (sE i G y hi) (sE m G e he) mq J
  |_=>simp at pv
 |.drop m,G,q,s,h=>by refine Dn s h λe _ h=>?_;simp only[q7]at h;exact PS.imp (Ad (sE m G _ h.2) (kS h.1)) (vD (mE G.mono m))
 |.ret m,G,q,s,h=>by refine yT s h λo _ h=>?_;refine jos o h λe h=>?_;exact PS.imp (Cb (sE m G _ h)) (yp (mE G.mono m))
 |.ite c a b,G,q,s,h=>by refine FN s h λt x y _ h=>?_;simp only[q7]at h;exact PS.imp (E3 (sT c G _ h.1.1) (sSs a G q _ h.1.2) (sSs b G q _ h.2)) (AW (mT G.mono c))
 |.for g src b,G,q,s,h=>by refine EI s h λtg it body els _ h=>?_;refine fO els h fun  h=>?_;simp only[q7]at h;obtain⟨⟨⟨hs,F⟩,hi⟩,hb⟩:=h;exact PS.imp (Ck (λe s z=>(G.hx e s z).elim) G.calm (sI src G _ _ hi).1 (sG G g _ F) (sSs b G q _ hb) (wo hs)) (yr (mI G.mono src) (mSs G.mono b))
 |.while c b,G,q,s,h=>by refine Bd s h λt body els _ h=>?_;refine fO els h fun  h=>?_;simp only[q7]at h;exact PS.imp (xt (λe s z=>(G.hx e s z).elim) (sT c G _ h.1) (sSs b G q _ h.2)) (tH (mT G.mono c) (mSs G.mono b))
 |.frz i m,G,q,s,h=>by exact De (sS m G q s h)
 |.pass,G,q,s,h=>by refine Dp s h λ_ h=>?_;exact PS.imp Ac md
 |.brk,G,q,s,h=>by refine Be s h λ_ h=>?_;exact PS.imp xq tG
 |.cnt,G,q,s,h=>by refine tY s h λ_ h=>?_;exact PS.imp qJ vC
theorem sSs:∀(m:MSs) (G:Good C Φ k X) (j:C.sc.kind=.function) (s:List Stmt),okSs m C s=F2->PSs X s (lS X.K (wSs Φ m))
 |.nil,G,j,s,h=>by simp[okSs]at h;subst h;exact PSs.imp Ab md
 |.cons m r,G,j,[],h=>by simp[okSs]at h
 |.cons m r,G,j,s::ss,h=>by simp only[okSs,q7]at h;exact PSs.imp (xp (sS m G j s h.1) (sSs r G j ss h.2)) (yo (mS G.mono m) (mSs G.mono r))
end
end
end
variable{a:VH}{ns:List Int}
section
structure FD where
 name:Str
 st:Stmt
 N:List Str
 np:Nat
 body:MSs
noncomputable def fe(N:List Str)(ds:List D):ar:=ds.map Z++Kf (N.length-ds.length) Y
noncomputable def phi(T:List FD):Nat->Phi
 |0=>λ_ _ _ _=>False
 |k+1=>λf ds M Q=>∃d,T[f]?=Z d/\ds.length=d.np/\wSs (phi T k) d.body {nx:=λ_ M'=>Q .non M',rt:=Q} (fe d.N ds) M
theorem j9(T:List FD):∀k f,b4 (phi T k f)
 |0,f=>λ_ _ _ _ _ q=>q.elim
 |k+1,f=>λds M Q Q' h j=>(by obtain⟨d,e,l,q⟩:=j;exact⟨d,e,l,mSs (j9 T k) d.body {nx:=λ_ M'=>Q .non M',rt:=Q} {nx:=λ_ M'=>Q' .non M',rt:=Q'} _ _ ⟨λ_ M' q'=>h _ _ q',h,λ_ _ z=>z,λ_ _ z=>z⟩ q⟩)
noncomputable def u8(Γ:List Str)(cs:List (Str×D))(d:FD):Bool:=
 decide ((aC d.st).kind=.function) && !(aC d.st).isCoroutine && !(aC d.st).isGenerator&&decide (d.N.Nodup)&&decide (d.np<=d.N.length)
  && (d.N.take d.np).all (λx=>(aC d.st).names.lookup x==Z .local || (aC d.st).names.lookup x==Z .cell)
  && (aC d.st).names.all (λy=>!(y.2==.free))&&okSs d.body ⟨Γ,d.N,aC d.st,d.N,cs⟩ (bY d.st)
theorem yY{Γ:List Str}{cs:List (Str×D)}{d:FD}(h:u8 Γ cs d=F2):gR d.N (d.N.take d.np) (aC d.st)/\(d.N.take d.np).length=d.np/\okSs d.body ⟨Γ,d.N,aC d.st,d.N,cs⟩ (bY d.st)=F2:=by
 simp only[u8,q7,decide_eq_true_eq,Mz]at h;obtain⟨⟨⟨⟨⟨⟨⟨h1,h2⟩,j⟩,q⟩,L⟩,B⟩,F⟩,G⟩:=h;have hl:(d.N.take d.np).length=d.np:=by rw[L3];lia
 refine⟨⟨h1,h2,j,q,by rw[hl],λx hx=>?_,λy J e=>?_⟩,hl,G⟩
 ·have z:=OY.mp B x hx;simpa using z
 ·have z:=OY.mp F y J;rw[e]at z;simp at z
section
variable{P:KW}{w:Lo}{K:Frag}{mg:Str->Option hH}{base:Heap}
structure zY(K:Frag)(mg:Str->Option hH)(T:List FD)(cs:List (Str×D)):Prop where
 blt:∀x∈bltNames,mg x=Y
 fns:∀(i:Nat) (d:FD),T[i]?=Z d->∃f fd,Fun K d.name d.name d.st f fd/\mg d.name=Z (.ref f)/\OV K Mf d.name=Z (Z (.ref f))/\Binds K fd (d.N.take d.np) []
 ok:∀d∈T,u8 (T.map (·.name)) cs d=F2
 cst:∀x d,(x,d)∈cs->∃u,mg x=Z u/\GV K d u
theorem wt{T:List FD}{cs:List (Str×D)}(O:zY K mg T cs):∀(k i:Nat) (d:FD) (f:VH) (fd:OM),T[i]?=Z d->Fun K d.name d.name d.st f fd->dN P w K mg base CX0 k f fd (d.N.take d.np) (lSp K (phi T k i))
 |0,i,d,f,fd,e,F=>⟨λvs H Q E h=>by obtain⟨ds,M,_,_,q⟩:=h;exact q.elim,λA outer s H args us vs Q E _ _ _ _ h=>by obtain⟨ds,M,_,_,q⟩:=h;exact q.elim⟩
 |k+1,i,d,f,fd,e,F=>by
  obtain⟨S,hl,hb⟩:=yY (O.ok d (KU e));refine F.ok S (λvs H Q E h=>?_) λcdv A outer s H vs Q E fv h=>?_
  ·obtain⟨ds,M,rm,rs,d',e',l,q⟩:=h;rw[e]at e';cases e';rw[rs.length,l,hl]
  ·obtain⟨ds,M,rm,rs,d',e',l,q⟩:=h;rw[e]at e';cases e';have G:Good ⟨T.map (·.name),d.N,aC d.st,d.N,cs⟩ (phi T k) k ((iK CX0 P w K mg base d.N d.name (aC d.st) f cdv A outer s H E).nox):=by
    refine⟨λ_ _ z=>z,rfl,rfl,rfl,S.nd,λ_ _=>rfl,fv,O.blt,λj x hx=>?_,j9 T k,O.cst⟩;have B:(T.map (·.name))[j]?=Z x:=hx;rw[KH]at B
    cases e2:T[j]? with
    |none=>rw[e2]at B;cases B
    |some d2=>rw[e2]at B;cases B;obtain⟨f2,U,pv,m2,n2,b2⟩:=O.fns j d2 e2;exact⟨f2,U,_,m2,n2,pv.kp,b2,wt O k j d2 f2 U e2 pv⟩
   refine⟨_,sSs d.body G S.kind _ hb,fe d.N ds,M,{nx:=λ_ M'=>KE' K M H Q .non M',rt:=KE' K M H Q},?_,rm,⟨λρ M' σ H' x rs' rm' q'=>?_,λd M' v H' x rm' rd' q'=>q' v H' x rm' rd',λ_ _ _ _ _ _ _ z=>z,λ_ _ _ _ _ _ _ z=>z⟩,q⟩
   ·refine⟨by simp[cP,fe,rs.length],λj dd J=>?_⟩
    unfold fe at J;unfold cP
    by_cases L:j<ds.length
    ·rw[KA (by simpa using L),KH]at J
     cases e3:ds[j]? with
     |none=>rw[e3]at J;cases J
     |some z=>rw[e3]at J;cases J;obtain⟨v,hv,rv⟩:=rs.get e3;refine⟨v,?_,rv⟩;rw[KA (by rw[tv,rs.length];exact L),KH,hv];rfl
    ·rw[J4 (by simpa using L),Ru]at J
     split at J<;>cases J
   ·exact q' .non H' x rm' (Vu.mpr rfl)
theorem Dv{T:List FD}{k i:Nat}{H:Hp}(B:sU H)(F:SqL K H a (ns.map V.int))(h:phi T k i [.con (ns.map D.int)] (λ_=>Y) λd _=>d=.bl F2):
 lSp K (phi T k i) [.ref a] H (λv _=>v=.bl F2) λ_ _ _=>False:=by
 have j:RM K (λ_=>Y) H:=λ_ _ z=>by cases z
 refine⟨[.con (ns.map D.int)],λ_=>Y,j,RDs.cons (Vr.mpr ⟨a,ns.map V.int,rfl,?_,RDs.ints ns⟩) RDs.nil,j9 T k i [.con (ns.map D.int)] (λ_=>Y) (λd _=>d=.bl F2) (KE' K (λ_=>Y) H λv _=>v=.bl F2) (λd M' e=>λv H' x rm rd=>?_) h⟩
 ·rcases F with(z|⟨o,z⟩)|z
  ·rcases B a with q|⟨o,xs,q⟩
   ·rw[z]at q;cases q
   ·rw[z]at q;cases q
  ·exact .inl ⟨o,z⟩
  ·exact .inr z
 ·subst e;exact Vo.mp rd
end
theorem EJ(us:List hH)(h:us.length=0):us=[]:=Ls.mp h
theorem dw(us:List hH)(h:us.length=1):∃a,us=[a]:=List.length_eq_one_iff.mp h
theorem bn(us:List hH)(h:us.length=2):∃a b,us=[a,b]:=by
 cases us with
 |nil=>cases h
 |cons a us=>obtain⟨b,rfl⟩:=dw us (Vf.inj h);exact⟨a,b,rfl⟩
theorem fP(us:List hH)(h:us.length=3):∃a b c,us=[a,b,c]:=by
 cases us with
 |nil=>cases h
 |cons a us=>obtain⟨b,c,rfl⟩:=bn us (Vf.inj h);exact⟨a,b,c,rfl⟩
theorem EK(us:List hH)(h:us.length=4):∃a b c d,us=[a,b,c,d]:=by
 cases us with
 |nil=>cases h
 |cons a us=>obtain⟨b,c,d,rfl⟩:=fP us (Vf.inj h);exact⟨a,b,c,d,rfl⟩
end
variable{b d po:VH}{n m N ft L L0 L1 L2 ff fo:Nat}{l other:List Int}{j i c B:Int}{s s' sf so:Stmt}{T:List FD}{ds xs:List D}{M M' M'':Mem}{Q:QD}{ρ:ar}{Φ:Phi}{kvs:List (D×D)}{o:O}{E:bh}{G v0 v1 v2 v4 v6 v7 v8 J:Option D}{zs:List (Int×Int)}{x0:D}
section
theorem Dw{k:Nat}{d:FD}(e:T[f]?=Z d)(l:ds.length=d.np)(r:fe d.N ds=ρ)(h:wSs (phi T k) d.body {nx:=λ_ M'=>Q .non M',rt:=Q} ρ M):phi T (k+1) f ds M Q:=⟨d,e,l,by rw[r];exact h⟩
theorem am{d:FD}(j:1<=n)(e:T[f]?=Z d)(l:ds.length=d.np)(r:fe d.N ds=ρ)(h:wSs (phi T (n-1)) d.body {nx:=λ_ M'=>Q .non M',rt:=Q} ρ M):phi T n f ds M Q:=by
 obtain⟨k,rfl⟩:∃k,n=k+1:=⟨n-1,∅⟩
 exact Dw e l r h
theorem kT{D:bh}:wSs Φ .nil D ρ M=D.nx ρ M:=by rw[wSs];rfl
theorem aX{s:MS}{r:MSs}{D:bh}:wSs Φ (.cons s r) D ρ M=wS Φ s {D with nx:=wSs Φ r D} ρ M:=by rw[wSs];rfl
theorem G7{y:D}:wIx (.tup ds) y M Q=∃i d,y=.int i/\atI ds i=Z d/\Q d M:=rfl
theorem G8{y:D}:wIx (.con ds) y M Q=∃i d,y=.int i/\atI ds i=Z d/\Q d M:=rfl
theorem aA{d:D}(h:M a=Z (.lst ds))(e:atI ds i=Z d)(q:Q d M):wIx (.ref a) (.int i) M Q:=.inl ⟨ds,i,d,h,rfl,e,q⟩
theorem aN{v:D}{j:Nat}{Q:Mem->Prop}(h:M a=Z (.lst ds))(e:ixN ds.length i=Z j)(q:Q (af M a (.lst (ds.set j v)))):fH (.ref a) (.int i) v M Q:=⟨a,rfl,.inl ⟨ds,i,j,rfl,h,e,q⟩⟩
theorem im(h:M a=Z (.lst ds))(q:Q (.int ds.length) M):fC [.ref a] M Q:=⟨_,_,rfl,by simp only[oI,h],q⟩
theorem ad(h:M a=Z (.lst ds)):ax M (.ref a)=Z ds:=by simp only[ax,h]
theorem GN:iT [.int i] M Q=Q (.int i) M:=by
 apply propext;constructor
 ·rintro(⟨j,e,q⟩|⟨k,e,q⟩)
  ·cases e;exact q
  ·cases e
 ·exactλq=>.inl ⟨i,rfl,q⟩
theorem GO{b:Bool}:iT [.bl b] M Q=Q (.int (if b then 1 else 0)) M:=by
 apply propext;constructor
 ·rintro(⟨j,e,q⟩|⟨k,e,q⟩)
  ·cases e
  ·cases e;exact q
 ·exactλq=>.inr ⟨b,rfl,q⟩
theorem HK:wEq (.int i) (.int j) M Q=Q (.bl (i==j)) M:=by simp[wEq,rb,Lw]
theorem HM:wNe (.int i) (.int j) M Q=Q (.bl (!(i==j))) M:=by simp[wNe,rb,Lw]
theorem GP:eS (.int i) (.int j) M Q=Q (.int (i+j)) M:=rfl
theorem GQ{a b:List D}:eS (.tup a) (.tup b) M Q=((a≠[]∨True)/\a.length+b.length<=Kn/\Q (.tup (a++b)) M):=rfl
theorem GR:iP (.int i) (.int j) M Q=Q (.int (i-j)) M:=rfl
theorem GS:iQ (.int i) (.int j) M Q=(MulOk i j/\Q (.int (i*j)) M):=rfl
theorem GT{k:Int}:iQ (.tup ds) (.int k) M Q=(-(2^63)<=k/\k<2^63/\ds.length*k.toNat<=Kn/\Q (.tup (Kf k.toNat ds).flatten) M):=rfl
theorem G9:jB (.int i) (.int j) M Q=(0<j/\j<2^256/\Q (.int (i / j)) M):=rfl
theorem GU:oB (.int i) (.int j) M Q=(0<j/\Q (.int (i%j)) M):=rfl
theorem GW:oC (.int i) (.int j) M Q=(0<=j/\j<=1000000/\i.natAbs<2^64/\Q (.int (i^j.toNat)) M):=rfl
theorem HN:wLt (.int i) (.int j) M Q=Q (.bl (decide (i<j))) M:=rfl
theorem EL:wGt (.int i) (.int j) M Q=Q (.bl (decide (j<i))) M:=rfl
theorem HP:wGe (.int i) (.int j) M Q=Q (.bl (decide (j<=i))) M:=rfl
theorem Ga:jL (.int i) (.int j) M Q=Q (.int (i+j)) M:=rfl
theorem Gb:jM (.int i) (.int j) M Q=Q (.int (i-j)) M:=rfl
theorem Gc:jO (.int i) (.int j) M Q=(MulOk i j/\Q (.int (i*j)) M):=rfl
theorem GX:oF (.int i) M Q=Q (.int (-i)) M:=rfl
theorem GY:kL [.int i] M Q=Q (.int (if i<0 then -i else i)) M:=by simp[kL]
theorem Gd:jD [.int i,.int j] M Q=Q (.int (if j<i then j else i)) M:=by
 apply propext;constructor
 ·rintro⟨a,b,e,q⟩;cases e;exact q
 ·exactλq=>⟨i,j,rfl,q⟩
theorem GZ:fC [.con ds] M Q=Q (.int ds.length) M:=by simp[fC,oI]
theorem H0:fC [.tup ds] M Q=Q (.int ds.length) M:=by simp[fC,oI]
theorem wu:ax M (.tup ds)=Z ds:=rfl
theorem H8:ax M (.con ds)=Z ds:=rfl
theorem HQ{α:Sort _}{a b:α}:(if F2=F2 then a else b)=a:=rfl
theorem HR{α:Sort _}{a b:α}:(if N3=F2 then a else b)=b:=rfl
theorem Gf{ta tb:TEd}{R:List D->(Mem->Prop)->Mem->Prop}:kN ta tb ρ M R=ta ρ M λx j=>tb ρ j λy M2=>∃xs ys,ax M2 x=Z xs/\ax M2 y=Z ys/\R (Nc fF xs ys) (λM=>ax M x=Z xs/\ax M y=Z ys) M2:=by
 unfold kN aG;congr 1;funext x j;unfold bo;congr 1;funext y M2;apply propext;constructor
 ·rintro⟨x',y',xs,ys,e,q⟩
  cases e;exact⟨xs,ys,q⟩
 ·rintro⟨xs,ys,q⟩;exact⟨x,y,xs,ys,rfl,q⟩
theorem H9{y:Str}:eS (.str x) (.str y) M Q=(x.length+y.length<=Kn/\Q (.str (x++y)) M):=rfl
theorem Ha{i}:wE Φ (.var i)=dQ i:=rfl
theorem Hb{i}:wE Φ (.int i)=wC (.int i):=rfl
theorem HS{b}:wE Φ (.bl b)=wC (.bl b):=rfl
theorem Hc:wE Φ (.non)=wC .non:=rfl
theorem Hd{op}{a}{b}:wE Φ (.bin op a b)=wOp (opB op) (wE Φ a) (wE Φ b):=rfl
theorem He{a}:wE Φ (.neg a)=wUn oF (wE Φ a):=rfl
theorem Hf{op}{a}{b}:wE Φ (.cmp op a b)=wOp (opC op) (wE Φ a) (wE Φ b):=rfl
theorem Hg{es}:wE Φ (.and es)=wAnds Φ es:=rfl
theorem HU{es}:wE Φ (.or es)=wOrs Φ es:=rfl
theorem Hh{a}:wE Φ (.not a)=nA (wE Φ a):=rfl
theorem Hi{c}{a}{b}:wE Φ (.ite c a b)=wIf (wT Φ c) (wE Φ a) (wE Φ b):=rfl
theorem Hj{es}:wE Φ (.tup es)=wAr sY (wA Φ es):=rfl
theorem Hk{es}:wE Φ (.lst es)=wAr sZ (wA Φ es):=rfl
theorem HV{a}{b}:wE Φ (.ix a b)=wOp wIx (wE Φ a) (wE Φ b):=rfl
theorem HW{a}{lo}{hi}:wE Φ (.sl a lo hi)=wSl (wE Φ a) (wO Φ lo) (wO Φ hi):=rfl
theorem Gg{f}{es}:wE Φ (.call f es)=wAr (Φ f) (wA Φ es):=rfl
theorem Hl{f}{es}:wE Φ (.blt f es)=wAr (opF f) (wA Φ es):=rfl
theorem Gh{a}{T}:wE Φ (.isin a T)=nC T (wE Φ a):=rfl
theorem Gi{j}{d}:wE Φ (.glob j d)=wC d:=rfl
theorem Gj{t}:wE Φ (.dnew t)=nJ t:=rfl
theorem FO{a}:wE Φ (.sortI a)=jW (wE Φ a):=rfl
theorem Gk{o}{k}{x}:wE Φ (.dget o k x)=nN (wE Φ o) (wE Φ k) (wE Φ x):=rfl
theorem Gm{m}{o}{a}:wE Φ (.meth m o a)=wBM (opM m) (wE Φ o) (aG (wE Φ a) bo):=rfl
theorem Hm{o}{i}{a}:wE Φ (.ins o i a)=wBM ig (wE Φ o) (aG (wE Φ i) (aG (wE Φ a) bo)):=rfl
theorem Gn{fr}{j}{c}:wE Φ (.comp fr j c)=wCmp Φ fr c:=rfl
theorem Go:wA Φ (.nil)=bo:=rfl
theorem FP{e}{r}:wA Φ (.cons e r)=aG (wE Φ e) (wA Φ r):=rfl
theorem FQ:wTl Φ (.nil)=[]:=rfl
theorem Fc{t}{r}:wTl Φ (.cons t r)=wT Φ t::wTl Φ r:=rfl
theorem Hn{e}:wI Φ (.seq e)=tu (wE Φ e):=rfl
theorem Gp{a}:wI Φ (.rng1 a)=nD (aG (wE Φ a) bo):=rfl
theorem Gq{a}{b}:wI Φ (.rng2 a b)=nE (aG (wE Φ a) (aG (wE Φ b) bo)):=rfl
theorem Ho{a}{b}:wI Φ (.zip a b)=kN (wE Φ a) (wE Φ b):=rfl
theorem Gr{a}:wI Φ (.enum a)=nF (wE Φ a):=rfl
theorem FR{a}:wI Φ (.items a)=jZ (wE Φ a):=rfl
theorem Fe{src}{g}{ifs}{elt}:wCl Φ (.last src g ifs elt)=dE (wI Φ src) (bG g) (bf (wTl Φ ifs) (cC (wE Φ elt))):=rfl
theorem Ff{src}{g}{ifs}{rest}:wCl Φ (.more src g ifs rest)=dE (wI Φ src) (bG g) (bf (wTl Φ ifs) (wCl Φ rest)):=rfl
theorem EM{src}{g}{ifs}{elt}:wCmp Φ fr (.last src g ifs elt)=hJ fr (wI Φ src) (bG g) (bf (wTl Φ ifs) (cC (wE Φ elt))):=rfl
theorem EN{src}{g}{ifs}{rest}:wCmp Φ fr (.more src g ifs rest)=hJ fr (wI Φ src) (bG g) (bf (wTl Φ ifs) (wCl Φ rest)):=rfl
theorem Hq{g}{e}:wS Φ (.asg g e)=kP (wE Φ e) (bG g):=rfl
theorem Hr{i}{j}{a}{b}:wS Φ (.par i j a b)=tz (aG (wE Φ a) (aG (wE Φ b) bo)) (bw (br i) (bw (br j) fE)):=rfl
theorem Hs{o}{i}{e}:wS Φ (.put o i e)=tI (wE Φ e) (wE Φ o) (wE Φ i):=rfl
theorem Ht{i}{op}{e}:wS Φ (.aug i op e)=tJ i (opI op) (wE Φ e):=rfl
theorem Gs{o}{i}{op}{e}:wS Φ (.augI o i op e)=nI (wE Φ o) (wE Φ i) (wE Φ e) (opI op):=rfl
theorem Gu{e}:wS Φ (.drop e)=nH (wE Φ e):=rfl
theorem Hu{e}:wS Φ (.ret e)=tw (wE Φ e):=rfl
theorem Hv{c}{a}{b}:wS Φ (.ite c a b)=sIf (wT Φ c) (wSs Φ a) (wSs Φ b):=rfl
theorem Hw{g}{src}{b}:wS Φ (.for g src b)=tD (wI Φ src) (bG g) (wSs Φ b):=rfl
theorem FS{c}{b}:wS Φ (.while c b)=jK (wT Φ c) (wSs Φ b):=rfl
theorem Hx{i}{s}:wS Φ (.frz i s)=pJ i (wS Φ s):=rfl
theorem Gv:wS Φ (.pass)=jI:=rfl
theorem Hy:wS Φ (.brk)=jJ:=rfl
theorem Hz:wS Φ (.cnt)=nG:=rfl
theorem HA{e}:wT Φ (.tru e)=tf (wE Φ e):=rfl
theorem HB{op}{a}{b}:wT Φ (.cmp op a b)=kH (wOp (opC op) (wE Φ a) (wE Φ b)):=rfl
theorem HC{ts}:wT Φ (.and ts)=wAndTs Φ ts:=rfl
theorem HX{ts}:wT Φ (.or ts)=wOrTs Φ ts:=rfl
theorem HD{t}:wT Φ (.not t)=nt (wT Φ t):=rfl
theorem DR:wAndTs Φ (.nil)=λ_ _ _=>False:=rfl
theorem Dx{e}:wAndTs Φ (.cons e .nil)=wT Φ e:=rfl
theorem Dy{e}{f}{r}:wAndTs Φ (.cons e (.cons f r))=nv (wT Φ e) (wAndTs Φ (.cons f r)):=rfl
theorem EO:wOrTs Φ (.nil)=λ_ _ _=>False:=rfl
theorem DS{e}:wOrTs Φ (.cons e .nil)=wT Φ e:=rfl
theorem DT{e}{f}{r}:wOrTs Φ (.cons e (.cons f r))=tj (wT Φ e) (wOrTs Φ (.cons f r)):=rfl
theorem EQ:wAnds Φ (.nil)=λ_ _ _=>False:=rfl
theorem DU{e}:wAnds Φ (.cons e .nil)=wE Φ e:=rfl
theorem DV{e}{f}{r}:wAnds Φ (.cons e (.cons f r))=ny (wE Φ e) (wAnds Φ (.cons f r)):=rfl
theorem Fg:wOrs Φ (.nil)=λ_ _ _=>False:=rfl
theorem ER{e}:wOrs Φ (.cons e .nil)=wE Φ e:=rfl
theorem ES{e}{f}{r}:wOrs Φ (.cons e (.cons f r))=tm (wE Φ e) (wOrs Φ (.cons f r)):=rfl
theorem FT{i}:bG (.name i)=br i:=rfl
theorem Gw{gs}:bG (.tup gs)=oU (bGs gs):=rfl
theorem FU:bGs (.nil)=fE:=rfl
theorem Fh{g}{r}:bGs (.cons g r)=bw (bG g) (bGs r):=rfl
theorem FV:wO Φ (.none)=gX:=rfl
theorem FW{e}:wO Φ (.some e)=nB (wE Φ e):=rfl
theorem Gx:opB (.add)=eS:=rfl
theorem Gy:opB (.sub)=iP:=rfl
theorem Gz:opB (.mul)=iQ:=rfl
theorem FX:opB (.fdiv)=jB:=rfl
theorem GA:opB (.mod)=oB:=rfl
theorem GB:opB (.pow)=oC:=rfl
theorem GC:opB (.ext)=eS:=rfl
theorem HE:opC (.eq)=wEq:=rfl
theorem HF:opC (.ne)=wNe:=rfl
theorem HG:opC (.lt)=wLt:=rfl
theorem HH:opC (.gt)=wGt:=rfl
theorem HI:opC (.ge)=wGe:=rfl
theorem HJ:opC (.is)=wIs:=rfl
theorem GD:opC (.inS)=tP:=rfl
theorem FY:opC (.ninD)=tQ F2:=rfl
theorem GE:opF (.len)=fC:=rfl
theorem GF:opF (.abs)=kL:=rfl
theorem FZ:opF (.min2)=jD:=rfl
theorem GG:opF (.int)=iT:=rfl
theorem G0:opF (.list)=no:=rfl
theorem Fi:opF (.tuple)=jE:=rfl
theorem GH:opF (.sum)=oQ:=rfl
theorem Fj:opF (.sortk)=jX:=rfl
theorem G1:opF (.minP)=nO:=rfl
theorem ET:opM (.append)=gY:=rfl
theorem GI:opI (.add)=jL:=rfl
theorem GJ:opI (.sub)=jM:=rfl
theorem GK:opI (.mul)=jO:=rfl
theorem GL:opI (.ext)=nP:=rfl
local macro_rules|`(tactic| ac_nf)=>do
 let f:=fun(n:Lean.Name)(s:String)=>(s.splitOn " ").toArray.map fun x=>(⟨(Lean.mkIdent (n++x.toName)).raw⟩:Lean.Term)
 let a:=f `_root_.L2.Mi "sW dQ wC wOp wUn bo aG wAr kH sY sZ tf nt nv tj ny tm nA wIf gX nB wSl nC wBM br fE bw oU tu nD nE nF cC bf dE hJ jI yh jJ nG nH tw sIf kP tz tD jK tI tJ nI nJ jW nN jZ kT G7 G8 GN GO HK HM GP GQ GR GS GT G9 GU GW HN EL HP Ga Gb Gc GX GY Gd GZ H0 wu H8 HQ HR Gf H9 Ha Hb HS Hc Hd He Hf Hg HU Hh Hi Hj Hk HV HW Gg Hl Gh Gi Gj FO Gk Gm Hm Gn Go FP FQ Fc Hn Gp Gq Ho Gr FR Fe Ff EM EN Hq Hr Hs Ht Gs Gu Hu Hv Hw FS Hx Gv Hy Hz HA HB HC HX HD DR Dx Dy EO DS DT EQ DU DV Fg ER ES FT Gw FU Fh FV FW Gx Gy Gz FX GA GB GC HE HF HG HH HI HJ GD FY GE GF FZ GG G0 Fi GH Fj G1 ET GI GJ GK GL"
 let b1:=a++f .anonymous "RL Oe Ts Tt RE NQ Us Ut Uu Ks Om L4 Mb"
 let b2:=a++f .anonymous "MK if_false if_true RL Oe Ts Tt TQ exists_eq_left' exists_eq_left exists_eq_right exists_and_left exists_and_right D.bl.injEq D.int.injEq D.ref.injEq D.tup.injEq RE NQ Us Ut Uu Ks Om decide_eq_true_eq Qq and_true true_and L4 Mb"
 `(tactic| ((try dsimp only[$[$b1:term],*]);(try simp only[$[$b2:term],*])))
local macro_rules|`(tactic| nofun)=>`(tactic| ((first|rw[aX]|(dsimp only;rw[aX]));ac_nf))
theorem pT{t:Bool}{k d:D}(h:M a=Z (.dct t kvs))(ok:eC t k=F2)(e:dget kvs k=Z d)(q:Q d M):wIx (.ref a) k M Q:=.inr (.inl ⟨t,kvs,d,h,ok,e,q⟩)
theorem Bi{i:Nat}{t:TSd}{A:bh}(e:ρ[i]?=Z (Z (.ref a)))(m:M a=Z (.dct F2 kvs))(h:t A ρ (af M a (.fdc kvs))):pJ i t A ρ M:=⟨a,kvs,e,.inl ⟨m,h⟩⟩
theorem ja{t:Bool}{k v:D}{Q:Mem->Prop}(h:M a=Z (.dct t kvs))(ok:eC t k=F2)(hl:kvs.length<Kn)(q:Q (af M a (.dct t (eR kvs k v)))):fH (.ref a) k v M Q:=⟨a,rfl,.inr ⟨t,kvs,h,ok,hl,q⟩⟩
theorem wv{o':O}:af (af M a o) a o'=af M a o':=by funext b;unfold af;split<;>rfl
theorem ww(h:M a=Z o):af M a o=M:=by
 funext b;unfold af;split
 ·next e=>rw[e,h]
 ·rfl
def Ge(M M':Mem):Prop:=∀a o,M a=Z o->M' a=Z o
theorem Ge.refl:Ge M M:=λ_ _ h=>h
theorem Ge.trans(h:Ge M M')(g:Ge M' M''):Ge M M'':=λ_ _ e=>g _ _ (h _ _ e)
theorem Ge.new{p:VH}(h:M p=Y):Ge M (af M p o):=λa o' e=>by rw[al (λz=>by rw[z,h]at e;cases e)];exact e
def Box(b:VH)(M:Mem):Prop:=∃x y z:Int,M b=Z (.lst [.int x,.int y,.int z])
structure Bx(b:VH)(M M':Mem):Prop where
 box:Box b M'
 keep:∀a o,a≠b->M a=Z o->M' a=Z o
theorem Bx.refl(h:Box b M):Bx b M M:=⟨h,λ_ _ _ e=>e⟩
theorem Bx.trans(h:Bx b M M')(g:Bx b M' M''):Bx b M M'':=⟨g.box,λa o n e=>g.keep a o n (h.keep a o n e)⟩
theorem Bx.ge(h:Bx b M M')(g:Ge M' M''):Bx b M M'':=⟨by obtain⟨x,y,z,e⟩:=h.box;exact⟨x,y,z,g _ _ e⟩,λa o n e=>g _ _ (h.keep a o n e)⟩
theorem Bx.put{x y z:Int}:Bx b M (af M b (.lst [.int x,.int y,.int z])):=⟨⟨x,y,z,aa⟩,λa o n e=>by rw[al n];exact e⟩
theorem Bx.of(h:Box b M)(g:Ge M M'):Bx b M M':=(Bx.refl h).ge g
theorem mQ{b:BT}{chk:Mem->Prop}{N:NC}(I:List D->ar->Mem->List D->Prop){acc:List D}(h0:I [] ρ M acc)(hc:∀l ρ M acc,I l ρ M acc->chk M)(hs:∀l x r ρ M acc,xs=l++x::r->I l ρ M acc->∃ρ',b x ρ=Z ρ'/\∀N':NC,(∀ρ2 M2 j,I (l++[x]) ρ2 M2 j->N' ρ2 M2 j)->tb ρ' M acc N')(q:∀ρ M acc,I xs ρ M acc->N ρ M acc):bx b tb chk N xs ρ M acc:=by
 have g:∀(r l:List D) (ρ:ar) (M:Mem) (acc:List D),xs=l++r->I l ρ M acc->bx b tb chk N r ρ M acc:=by
  intro r
  induction r with
  |nil=>intro l ρ M acc e i;rw[Mg]at e;subst e;exact⟨hc _ _ _ _ i,q _ _ _ i⟩
  |cons x r ih=>intro l ρ M acc e i;obtain⟨ρ',e1,h⟩:=hs l x r ρ M acc e i;exact⟨hc _ _ _ _ i,ρ',e1,h _ λρ2 M2 j z=>ih (l++[x]) ρ2 M2 j (by rw[e];simp) z⟩
 exact g xs [] ρ M acc rfl h0
theorem yZ{b:BT}{tb:TSd}{chk:Mem->Prop}(I:List D->ar->Mem->Prop)(h0:I [] ρ M)(hc:∀l ρ M,I l ρ M->chk M)(hs:∀l x r ρ M,xs=l++x::r->I l ρ M->∃ρ',b x ρ=Z ρ'/\∀F:ar->Mem->Prop,(∀ρ2 M2,I (l++[x]) ρ2 M2->F ρ2 M2)->tb {E with nx:=F,ct:=F,bk:=E.nx} ρ' M)(j:∀ρ M,I xs ρ M->E.nx ρ M):bA b tb chk E xs ρ M:=by
 have g:∀(r l:List D) (ρ:ar) (M:Mem),xs=l++r->I l ρ M->bA b tb chk E r ρ M:=by
  intro r
  induction r with
  |nil=>intro l ρ M e i;rw[Mg]at e;subst e;exact⟨hc _ _ _ i,j _ _ i⟩
  |cons x r ih=>intro l ρ M e i;obtain⟨ρ',e1,h⟩:=hs l x r ρ M e i;exact⟨hc _ _ _ i,ρ',e1,h _ λρ2 M2 q=>ih (l++[x]) ρ2 M2 (by rw[e];simp) q⟩
 exact g xs [] ρ M rfl h0
section
variable{T:List FD}
noncomputable def kg(s:Stmt):FD:=⟨"_law_cell_at",s,["_law_script","_law_k"],2,
 (.cons (.ite (.cmp .lt (.var 1) (.blt .len (.cons (.var 0) .nil))) (.cons (.ret (.ix (.var 0) (.var 1)))
 .nil) .nil)
 (.cons (.ret (.int 0))
 .nil))⟩
theorem pU{α:Type}{xs:List α}(h0:0<=i)(h1:i<xs.length):∃x,atI xs i=Z x/\xs[i.toNat]?=Z x:=by
 have:i.toNat<xs.length:=∅
 refine⟨xs[i.toNat],?_,I7 this⟩;unfold atI ixN;simp[h0,h1,I7 this]
theorem Bj(hf:T[f]?=Z (kg s))(j:1<=n){k:Int}(h0:0<=k)(q:∀i,Q (.int i) M):phi T n f [.con (ns.map D.int),.int k] M Q:=by
 refine am j hf rfl (ρ:=[Z _,Z _]) rfl ?_;unfold kg;nofun
 split
 ·next h=>
  nofun;obtain⟨x,e,e2⟩:=pU (xs:=ns.map D.int) h0 h;rw[KH]at e2
  cases e3:ns[k.toNat]? with
  |none=>rw[e3]at e2;cases e2
  |some y=>rw[e3]at e2;cases e2;exact⟨_,e,q y⟩
 ·nofun;exact q 0
theorem bS(h:-(2^64)<i/\i<2^64):MulOk i j:=.inl h
theorem pV(h:-(2^64)<j/\j<2^64):MulOk i j:=.inr (.inl h)
noncomputable def kU(s:Stmt):FD:=⟨"_law_mixed",s,["_law_number_here","_law_k","_law_once","_law_twice"],2,
 (.cons (.asg (.name 2) (.bin .mod (.bin .mul (.bin .add (.bin .add (.bin .mod (.var 0) (.int 1000000007)) (.bin .mul (.int 7) (.var 1))) (.int 1)) (.int 48271)) (.int 2147483647)))
 (.cons (.asg (.name 3) (.bin .mod (.bin .mul (.var 2) (.bin .add (.bin .add (.bin .mod (.var 2) (.int 1009)) (.var 1)) (.int 3))) (.int 998244353)))
 (.cons (.ret (.bin .fdiv (.bin .mod (.bin .add (.bin .mul (.var 3) (.int 39373)) (.var 2)) (.int 2147483629)) (.int 64)))
 .nil)))⟩
noncomputable def u9(s:Stmt)(fc fm:Nat):FD:=⟨"_law_box",s,["_law_script","_law_k","_law_cell"],2,
 (.cons (.asg (.name 2) (.call fc (.cons (.var 0) (.cons (.var 1) .nil))))
 (.cons (.ret (.lst (.cons (.bin .mul (.blt .abs (.cons (.var 2) .nil)) (.blt .int (.cons (.cmp .ge (.blt .abs (.cons (.var 2) .nil)) (.bin .pow (.int 10) (.int 18))) .nil))) (.cons (.call fm (.cons (.var 2) (.cons (.bin .add (.int 900) (.var 1)) .nil))) (.cons (.int 0) .nil)))))
 .nil))⟩
theorem Dz{fc fm:Nat}{sc:Stmt}(hf:T[f]?=Z (u9 s fc fm))(z:T[fc]?=Z (kg sc))(B:∀{x k:Int} {M:Mem} {Q:QD},(∀i,Q (.int i) M)->phi T (n-1) fm [.int x,.int k] M Q)(G:2<=n){k:Int}(h0:0<=k)(q:∀p x y,M p=Y->Q (.ref p) (af M p (.lst [.int x,.int y,.int 0]))):phi T n f [.con (ns.map D.int),.int k] M Q:=by
 refine am ∅ hf rfl (ρ:=[Z _,Z _,Y]) rfl ?_
 unfold u9;nofun;refine Bj z ∅ h0 λi=>?_
 nofun;refine⟨by decide,by decide,by decide,pV ?_,?_⟩
 ·split<;>lia
 refine B λj=>?_;exact⟨by rw[z4];lia,λp F=>q p _ _ F⟩
noncomputable def pW(s:Stmt)(fm:Nat):FD:=⟨"_law_take",s,["_law_box_here","_law_many","_law_found","_law_reach"],2,
 (.cons (.ite (.cmp .gt (.ix (.var 0) (.int 0)) (.int 0)) (.cons (.asg (.name 2) (.bin .mod (.ix (.var 0) (.int 0)) (.var 1)))
 (.cons (.put (.var 0) (.int 0) (.bin .fdiv (.ix (.var 0) (.int 0)) (.var 1)))
 (.cons (.ret (.var 2))
 .nil))) .nil)
 (.cons (.asg (.tup (.cons (.name 2) (.cons (.name 3) .nil))) (.tup (.cons (.int 0) (.cons (.int 1) .nil))))
 (.cons (.while (.cmp .lt (.var 3) (.var 1)) (.cons (.put (.var 0) (.int 2) (.bin .add (.ix (.var 0) (.int 2)) (.int 1)))
 (.cons (.asg (.name 2) (.bin .add (.bin .mul (.var 2) (.int 33554432)) (.call fm (.cons (.ix (.var 0) (.int 1)) (.cons (.ix (.var 0) (.int 2)) .nil)))))
 (.cons (.asg (.name 3) (.bin .mul (.var 3) (.int 33554432)))
 .nil))))
 (.cons (.ret (.bin .mod (.var 2) (.var 1)))
 .nil))))⟩
def ua(T:List FD)(n fm:Nat):Prop:=∀{x k:Int} {M:Mem} {Q:QD},(∀i,Q (.int i) M)->phi T n fm [.int x,.int k] M Q
theorem Bk{fm:Nat}(hf:T[f]?=Z (pW s fm))(J:ua T (n-1) fm)(L:2<=n){m:Int}(hb:Box b M)(h1:0<m)(h2:m<=2^120)(q:∀r M',0<=r->r<m->Bx b M M'->Q (.int r) M'):phi T n f [.ref b,.int m] M Q:=by
 refine am ∅ hf rfl (ρ:=[Z _,Z _,Y,Y]) rfl ?_
 unfold pW;obtain⟨x,y,z,G⟩:=hb;nofun;refine aA G (d:=.int x) rfl ?_;simp only[EL];ac_nf
 split
 ·next hx=>
  nofun;refine aA G (d:=.int x) rfl ?_;ac_nf;refine⟨h1,?_⟩;nofun;refine aA G (d:=.int x) rfl ?_;ac_nf;refine⟨h1,∅,?_⟩
  refine aN G (j:=0) rfl ?_;nofun;exact q _ _ (Qr _ ∅) (Pm _ h1) Bx.put
 ·next hx=>
  nofun;refine⟨by rw[z4];lia,?_⟩
  nofun;refine⟨6,?_⟩;have go:∀(f:Nat) (found reach z:Int) (M':Mem),m<=reach*33554432^f->M' b=Z (.lst [.int x,.int y,.int z])->Bx b M M'->
   bg (kH (wOp wLt (dQ 3) (dQ 1))) (wSs (phi T (n-1)) (MSs.cons (MS.put (ME.var 0) (ME.int 2) (ME.bin BOp.add ((ME.var 0).ix (ME.int 2)) (ME.int 1)))
    (MSs.cons (MS.asg (MG.name 2) (ME.bin BOp.add (ME.bin BOp.mul (ME.var 2) (ME.int 33554432)) (ME.call fm (MEs.cons ((ME.var 0).ix (ME.int 1)) (MEs.cons ((ME.var 0).ix (ME.int 2)) MEs.nil)))))
      (MSs.cons (MS.asg (MG.name 3) (ME.bin BOp.mul (ME.var 3) (ME.int 33554432))) MSs.nil))))
    {nx:=wSs (phi T (n-1)) (MSs.cons (MS.ret (ME.bin BOp.mod (ME.var 2) (ME.var 1))) MSs.nil) {nx:=λx M'=>Q D.non M',rt:=Q},rt:=Q} (f+1) [Z (.ref b),Z (.int m),Z (.int found),Z (.int reach)] M':=by
   intro f
   induction f with
   |zero=>
    intro found reach z M' hm F B;simp only[bg];ac_nf;rw[if_neg ∅]
    nofun;exact⟨h1,q _ _ (Qr _ ∅) (Pm _ h1) B⟩
   |succ f ih=>
    intro found reach z M' hm F B;rw[bg];ac_nf
    split
    ·next O=>
     nofun;refine aA F (d:=.int z) rfl ?_;ac_nf;refine aN F (j:=2) rfl ?_;nofun;refine⟨pV (by decide),?_⟩
     refine aA aa (d:=.int y) rfl ?_;refine aA aa (d:=.int (z+1)) rfl ?_;refine J λi=>?_;ac_nf;nofun;refine⟨pV (by decide),?_⟩
     exact ih _ _ (z+1) _ (by rw[Rp,<-Int.pow_succ'];exact hm) aa (B.trans Bx.put)
    ·nofun;exact⟨h1,q _ _ (Qr _ ∅) (Pm _ h1) B⟩
  exact go 5 0 1 z M ∅ G (Bx.refl ⟨x,y,z,G⟩)
def kh(T:List FD)(n f:Nat):Prop:=∀{b:VH} {m:Int} {M:Mem} {Q:QD},Box b M->0<m->m<=2^120->(∀r M',0<=r->r<m->Bx b M M'->Q (.int r) M')->phi T n f [.ref b,.int m] M Q
noncomputable def jb(s:Stmt)(ft:Nat):FD:=⟨"_law_number",s,["_law_box_here","_law_way"],1,
 (.cons (.asg (.name 1) (.call ft (.cons (.var 0) (.cons (.int 9) .nil))))
 (.cons (.ite (.cmp .eq (.var 1) (.int 0)) (.cons (.ret (.bin .sub (.call ft (.cons (.var 0) (.cons (.int 2001) .nil))) (.int 1000)))
 .nil) .nil)
 (.cons (.ret (.ix (.lst (.cons (.int 0) (.cons (.int 0) (.cons (.int 0) (.cons (.int 1) (.cons (.int 1) (.cons (.int 1) (.cons (.neg (.int 1)) (.cons (.neg (.int 1)) (.cons (.int 2) .nil)))))))))) (.var 1)))
 .nil)))⟩
theorem wx(hf:T[f]?=Z (jb s ft))(j:kh T (n-1) ft)(O:1<=n)(hb:Box b M)(q:∀r M',-1000<=r->r<=1000->Bx b M M'->Q (.int r) M'):phi T n f [.ref b] M Q:=by
 refine am ∅ hf rfl (ρ:=[Z _,Y]) rfl ?_
 unfold jb;nofun;refine j hb (by decide) (by decide) λr U h0 h1 B=>?_
 nofun
 split
 ·nofun;refine j B.box (by decide) (by decide) λpv M2 h0 h1 G=>?_
  ac_nf;exact q _ _ ∅ ∅ (B.trans G)
 ·next F=>
  nofun;refine⟨by rw[z4];lia,λp J=>?_⟩
  have F:r=1∨r=2∨r=3∨r=4∨r=5∨r=6∨r=7∨r=8:=by
   have:r≠0:=λz=>F (by rw[z];rfl)
   lia
  have L:=B.ge (Ge.new (o:=.lst [.int 0,.int 0,.int 0,.int 1,.int 1,.int 1,.int (-1),.int (-1),.int 2]) J)
  rcases F with rfl|rfl|rfl|rfl|rfl|rfl|rfl|rfl<;>exact aA aa rfl (q _ _ (by decide) (by decide) L)
end
section
variable{T:List FD}
def pX(T:List FD)(n f:Nat):Prop:=∀{b:VH} {M:Mem} {Q:QD},Box b M->(∀r M',-1000<=r->r<=1000->Bx b M M'->Q (.int r) M')->phi T n f [.ref b] M Q
def cG(ns:List Int):Prop:=∀x∈ns,-1000<=x/\x<=1000
theorem cb{lo:Int}:(bV lo n).length=n:=by simp[bV]
theorem ak{α:Type}{xs l r:List α}{x:α}(e:xs=l++x::r):l.length<xs.length:=by rw[e];simp
theorem wy{α:Type}{xs l r:List α}{x:α}(e:xs=l++x::r):xs[l.length]?=Z x:=by rw[e];simp
noncomputable def pY(s:Stmt)(fn:Nat):FD:=⟨"_law_part",s,["_law_box_here","_law_length"],2,
 (.cons (.ret (.blt .tuple (.cons (.comp [Y,(Z 0)] ["_law_k","_law_box_here"] (.last (.rng1 (.var 1)) (.name 0) .nil (.call fn (.cons (.var 1) .nil)))) .nil)))
 .nil)⟩
theorem Bl{fn:Nat}(hf:T[f]?=Z (pY s fn))(z:pX T (n-1) fn)(O:1<=n)(hL:L<=1000)(hb:Box b M)(q:∀(ns:List Int) M',ns.length=L->cG ns->Bx b M M'->Q (.tup (ns.map .int)) M'):phi T n f [.ref b,.int L] M Q:=by
 refine am ∅ hf rfl (ρ:=[Z _,Z _]) rfl ?_
 unfold pY;nofun;refine⟨∅,∅,?_⟩
 refine mQ (I:=λl ρ M' acc=>∃(ns:List Int) (x:Option D),acc=ns.map .int/\ns.length=l.length/\cG ns/\Bx b M M'/\ρ=[x,Z (.ref b)]) ⟨[],Y,rfl,rfl,λ_ h=>by simp at h,Bx.refl hb,rfl⟩ (λ_ _ _ _ _=>trivial) ?_ ?_
 ·rintro l x r ρ M1 acc e ⟨ns,o,rfl,hl,hs,j,rfl⟩;refine⟨_,rfl,λN' B=>?_⟩;ac_nf;refine z j.box λv M2 h1 h2 F=>?_;have:=ak e;rw[cb]at this;refine⟨by rw[tv,hl,z4];lia,B _ _ _ ⟨ns++[v],_,by simp,by simp[hl],?_,j.trans F,rfl⟩⟩
  intro y G
  rcases Kz.mp G with h|h
  ·exact hs y h
  ·simp at h;subst h;exact⟨h1,h2⟩
 ·rintro ρ M1 acc ⟨ns,o,rfl,hl,hs,j,rfl⟩ p J;rw[cb]at hl;refine⟨_,ns.map .int,rfl,ad aa,q ns _ ∅ hs (j.ge (Ge.new J))⟩
noncomputable abbrev Pr:=List Int×List Int×List Int
noncomputable def prD(p:Pr):D:=.tup [.tup (p.1.map .int),.tup (p.2.1.map .int),.tup (p.2.2.map .int)]
noncomputable def ub(p:Pr):Me:=.tuple [.tuple (p.1.map .int),.tuple (p.2.1.map .int),.tuple (p.2.2.map .int)]
structure cu(L0 L1 L2:Nat)(p:Pr):Prop where
 l0:p.1.length=L0
 l1:p.2.1.length=L1
 l2:p.2.2.length=L2
 s0:cG p.1
 s1:cG p.2.1
 s2:cG p.2.2
theorem cL{k:Nat}{M:Mem}:∀ns:List Int,aQ (rb k M) (ns.map D.int)=Z (ns.map PyData.int)
 |[]=>rfl
 |x::r=>by
  have e:rb k M (.int x)=Z (.int x):=by cases k<;>rfl
  simp[aQ,e,cL r]
theorem EU{k:Nat}(p:Pr):rb (k+2) M (prD p)=Z (ub p):=by simp[rb,prD,ub,aQ,cL]
theorem pZ{k:Nat}{M:Mem}:∀ps:List Pr,aQ (rb (k+2) M) (ps.map prD)=Z (ps.map ub)
 |[]=>rfl
 |p::r=>by simp[aQ,EU,pZ r]
theorem ci{k:Nat}(h:M a=Z (.lst ds)):rb (k+1) M (.ref a)=(aQ (rb k M) ds).map UC:=by simp only[rb,h]
theorem bv{s:MS}{r:MSs}(I:ar->Mem->Prop)(h1:∀R:ar->Mem->Prop,(∀ρ M,I ρ M->R ρ M)->wS Φ s {E with nx:=R} ρ M)(h2:∀ρ M,I ρ M->wSs Φ r E ρ M):wSs Φ (.cons s r) E ρ M:=by rw[aX];exact h1 _ h2
theorem Bx.upd{q:VH}(h:Bx b M M')(B:M q=Y)(j:q≠b):Bx b M (af M' q o):=
 ⟨by obtain⟨x,y,z,e⟩:=h.box;exact⟨x,y,z,by rw[al j.symm];exact e⟩,fun u o' nu eu=>by rw[al (λz=>by rw[z,B]at eu;cases eu)];exact h.keep u o' nu eu⟩
theorem Bx.none{q:VH}(h:Bx b M M')(z:M' q=Y)(j:q≠b):M q=Y:=by
 cases e:M q with
 |none=>rfl
 |some o=>rw[h.keep q o j e]at z;cases z
noncomputable def prL(p:Pr):List D:=[.tup (p.1.map .int),.tup (p.2.1.map .int),.tup (p.2.2.map .int)]
theorem gF{k:Nat}:cG (Kf k 0):=λx h=>by rw[(List.mem_replicate.mp h).2];decide
theorem gG{k:Nat}:(Kf k [D.int 0]).flatten=(Kf k (0:Int)).map D.int:=by
 induction k with
 |zero=>rfl
 |succ k ih=>rw[Mh,LS,ih];rfl
def wz(T:List FD)(n f:Nat):Prop:=∀{b:VH} {L:Nat} {M:Mem} {Q:QD},L<=1000->Box b M->(∀(ns:List Int) M',ns.length=L->cG ns->Bx b M M'->Q (.tup (ns.map .int)) M')->phi T n f [.ref b,.int L] M Q
noncomputable def jc(s:Stmt)(ft fp:Nat):FD:=⟨"_law_scheme",s,["_law_box_here","_law_lengths","_law_count","_law_products","_law_k","_law_product","_law_way","_law_side"],3,
 (.cons (.asg (.name 3) (.lst .nil))
 (.cons (.for (.name 4) (.rng1 (.var 2)) (.cons (.asg (.name 5) (.comp [Y,(Z 0)] ["_law_length","_law_box_here"] (.last (.seq (.var 1)) (.name 0) .nil (.call fp (.cons (.var 1) (.cons (.var 0) .nil))))))
 (.cons (.asg (.name 6) (.call ft (.cons (.var 0) (.cons (.int 8) .nil))))
 (.cons (.ite (.and (.cons (.cmp .lt (.var 6) (.int 3)) (.cons (.cmp .ne (.var 3) (.lst .nil)) .nil))) (.cons (.put (.var 5) (.var 6) (.ix (.ix (.var 3) (.call ft (.cons (.var 0) (.cons (.blt .len (.cons (.var 3) .nil)) .nil)))) (.var 6)))
 .nil) .nil)
 (.cons (.ite (.cmp .eq (.var 6) (.int 3)) (.cons (.asg (.name 7) (.call ft (.cons (.var 0) (.cons (.int 3) .nil))))
 (.cons (.put (.var 5) (.var 7) (.bin .mul (.tup (.cons (.int 0) .nil)) (.ix (.var 1) (.var 7))))
 .nil)) .nil)
 (.cons (.drop (.meth .append (.var 3) (.blt .tuple (.cons (.var 5) .nil))))
 .nil))))))
 (.cons (.ret (.bin .add (.blt .tuple (.cons (.var 1) .nil)) (.tup (.cons (.var 3) .nil))))
 .nil)))⟩
theorem wB{fp:Nat}(hf:T[f]?=Z (jc s ft fp))(Ig:kh T (n-1) ft)(Ih:wz T (n-1) fp)(hn:1<=n){c:Nat}(h0:L0<=1000)(h1:L1<=1000)(h2:L2<=1000)(hc:c<=1000)(hb:Box b M)(HZ:a≠b)(ha:M a=Z (.lst [.int L0,.int L1,.int L2]))(q:∀(ps:List Pr) pr M',ps.length=c->(∀p∈ps,cu L0 L1 L2 p)->Bx b M M'->M pr=Y->M' pr=Z (.lst (ps.map prD))->Q (.tup [.int L0,.int L1,.int L2,.ref pr]) M'):phi T n f [.ref b,.ref a,.int c] M Q:=by
 refine am ∅ hf rfl (ρ:=[Z _,Z _,Z _,Y,Y,Y,Y,Y]) rfl ?_
 unfold jc;nofun;refine⟨∅,λpr I8=>?_⟩
 have U:pr≠b:=λz=>by obtain⟨x,y,w,e⟩:=hb;rw[<-z,I8]at e;cases e
 have IA:pr≠a:=λz=>by rw[<-z,I8]at ha;cases ha
 nofun;refine⟨∅,∅,?_⟩
 refine yZ (I:=λl ρ M'=>∃(ps:List Pr) (o4 o5 o6 o7:Option D),ρ=[Z (.ref b),Z (.ref a),Z (.int c),Z (.ref pr),o4,o5,o6,o7]/\ps.length=l.length/\(∀p∈ps,cu L0 L1 L2 p)/\Bx b M M'/\M' pr=Z (.lst (ps.map prD)))
  ⟨[],Y,Y,Y,Y,rfl,rfl,λ_ h=>by simp at h,Bx.of hb (Ge.new I8),aa⟩ (λ_ _ _ _=>trivial) ?_ ?_
 ·rintro l x r ρ M1 e ⟨ps,o4,o5,o6,o7,rfl,hl,hp,x1,Ii⟩;have Ir:=ak e;rw[cb]at Ir;refine⟨_,rfl,λF hF=>?_⟩;ac_nf;have I9:=x1.keep a _ HZ ha;rw[aX];ac_nf;refine⟨_,ad I9,?_⟩;simp only[bx];refine⟨ad I9,_,rfl,?_⟩;ac_nf;refine Ih h0 x1.box λn0 M2 l0 s0 x2=>?_;have Ij:=x2.keep a _ HZ I9;refine⟨by simp[z4],ad Ij,?_⟩
  refine Ih h1 x2.box λn1 M3 l1 s1 x3=>?_;have Ik:=x3.keep a _ HZ Ij;refine⟨by simp[z4],ad Ik,?_⟩
  refine Ih h2 x3.box λn2 M4 l2 s2 x4=>?_;have Ic:=x4.keep a _ HZ Ik;refine⟨by simp[z4],ad Ic,λpq I0=>?_⟩
  have HY:=x4.keep pr _ U (x3.keep pr _ U (x2.keep pr _ U Ii));have x5:=((x1.trans x2).trans (x3.trans x4)).ge (Ge.new (o:=.lst ([]++[D.tup (OR D.int n0)]++[D.tup (OR D.int n1)]++[D.tup (OR D.int n2)])) I0);have J:pq≠b:=λz=>by obtain⟨x,y,w,e⟩:=x4.box;rw[<-z,I0]at e;cases e
  have L:M pq=Y:=((x1.trans x2).trans (x3.trans x4)).none I0 J;have pv:pr≠pq:=λz=>by rw[z,I0]at HY;cases HY
  have IB:a≠pq:=λz=>by rw[z,I0]at Ic;cases Ic
  have Id:af M4 pq (.lst ([]++[D.tup (OR D.int n0)]++[D.tup (OR D.int n1)]++[D.tup (OR D.int n2)])) pr=Z (.lst (ps.map prD)):=by rw[al pv];exact HY
  have Il:af M4 pq (.lst ([]++[D.tup (OR D.int n0)]++[D.tup (OR D.int n1)]++[D.tup (OR D.int n2)])) pq=Z (.lst (prL (n0,n1,n2))):=aa;have hok:cu L0 L1 L2 (n0,n1,n2):=⟨l0,l1,l2,s0,s1,s2⟩;generalize af M4 pq (.lst ([]++[D.tup (OR D.int n0)]++[D.tup (OR D.int n1)]++[D.tup (OR D.int n2)]))=M5 at x5 Id Il;generalize hP:(n0,n1,n2)=p0 at hok Il;clear I0 HY x4 Ic x3 Ik x2 Ij hP;nofun;refine Ig x5.box (by decide) (by decide) λway M6 w0 w1 x6=>?_
  have Ia:=x6.keep pr _ U Id;have Io:=x6.keep pq _ J Il;have Ip:=x5.trans x6;refine bv (I:=λρ' M'=>ρ'=[Z (.ref b),Z (.ref a),Z (.int c),Z (.ref pr),Z x,Z (.ref pq),Z (.int way),o7]/\∃p:Pr,cu L0 L1 L2 p/\Bx b M M'/\M' pr=Z (.lst (ps.map prD))/\M' pq=Z (.lst (prL p))) (λR hR=>?_) ?_
  ·ac_nf
   split
   ·next hw=>
    refine⟨∅,λIC Iq=>?_⟩
    have g:=Ge.new (o:=.lst []) Iq;refine⟨_,_,ci (g _ _ Ia) |>.trans (by rw[pZ];rfl),ci aa,?_⟩
    ac_nf;have x7:=Ip.ge g;have O:=g _ _ Ia;have Ib:=g _ _ Io
    split
    ·next Iu=>
     have Iz:0<ps.length:=by
      cases ps with
      |nil=>simp[Lw,Lx]at Iu
      |cons p r=>simp
     nofun;refine im O ?_;refine Ig x7.box (by rw[tv];lia) (by rw[tv];lia) λr M8 r0 r1 x8=>?_
     have G:=x8.keep pr _ U O;have fv:=x8.keep pq _ J Ib;obtain⟨d,e1,e2⟩:=pU r0 r1;refine aA G e1 ?_;rw[KH]at e2
     cases e3:ps[r.toNat]? with
     |none=>rw[e3]at e2;cases e2
     |some pp=>
      rw[e3]at e2;cases e2;have ho:=hp pp (KU e3);have Iv:way=0∨way=1∨way=2:=∅
      have x9:=x7.trans x8
      rcases Iv with rfl|rfl|rfl
      ·refine⟨_,_,rfl,rfl,aN fv (j:=0) rfl ?_⟩;exact hR _ _ ⟨rfl,(pp.1,p0.2.1,p0.2.2),⟨ho.l0,hok.l1,hok.l2,ho.s0,hok.s1,hok.s2⟩,x9.upd L J,by rw[al pv];exact G,aa⟩
      ·refine⟨_,_,rfl,rfl,aN fv (j:=1) rfl ?_⟩;exact hR _ _ ⟨rfl,(p0.1,pp.2.1,p0.2.2),⟨hok.l0,ho.l1,hok.l2,hok.s0,ho.s1,hok.s2⟩,x9.upd L J,by rw[al pv];exact G,aa⟩
      ·refine⟨_,_,rfl,rfl,aN fv (j:=2) rfl ?_⟩;exact hR _ _ ⟨rfl,(p0.1,p0.2.1,pp.2.2),⟨hok.l0,hok.l1,ho.l2,hok.s0,hok.s1,ho.s2⟩,x9.upd L J,by rw[al pv];exact G,aa⟩
    ·exact hR _ _ ⟨rfl,p0,hok,x7,O,Ib⟩
   ·exact hR _ _ ⟨rfl,p0,hok,Ip,Ia,Io⟩
  ·rintro ρ M7 ⟨rfl,p,B,x7,O,Ib⟩;refine bv (I:=λρ' M'=>∃(o7:Option D),ρ'=[Z (.ref b),Z (.ref a),Z (.int c),Z (.ref pr),Z x,Z (.ref pq),Z (.int way),o7]/\∃p:Pr,cu L0 L1 L2 p/\Bx b M M'/\M' pr=Z (.lst (ps.map prD))/\M' pq=Z (.lst (prL p))) (λR hR=>?_) ?_
   ·ac_nf
    split
    ·nofun;refine Ig x7.box (by decide) (by decide) λside M8 d0 d1 x8=>?_
     have G:=x8.keep pr _ U O;have fv:=x8.keep pq _ J Ib;have x9:=x7.trans x8;have Im:=x9.keep a _ HZ ha;nofun;refine⟨by rw[z4];lia,?_⟩
     have Iw:side=0∨side=1∨side=2:=∅
     rcases Iw with rfl|rfl|rfl
     ·refine aA Im (d:=.int L0) rfl ?_;ac_nf;refine⟨∅,∅,by rw[z4];lia,aN fv (j:=0) rfl ?_⟩
      rw[gG];exact hR _ _ ⟨_,rfl,(Kf (L0:Int).toNat 0,p.2.1,p.2.2),⟨by simp,B.l1,B.l2,gF,B.s1,B.s2⟩,x9.upd L J,by rw[al pv];exact G,aa⟩
     ·refine aA Im (d:=.int L1) rfl ?_;ac_nf;refine⟨∅,∅,by rw[z4];lia,aN fv (j:=1) rfl ?_⟩
      rw[gG];exact hR _ _ ⟨_,rfl,(p.1,Kf (L1:Int).toNat 0,p.2.2),⟨B.l0,by simp,B.l2,B.s0,gF,B.s2⟩,x9.upd L J,by rw[al pv];exact G,aa⟩
     ·refine aA Im (d:=.int L2) rfl ?_;ac_nf;refine⟨∅,∅,by rw[z4];lia,aN fv (j:=2) rfl ?_⟩
      rw[gG];exact hR _ _ ⟨_,rfl,(p.1,p.2.1,Kf (L2:Int).toNat 0),⟨B.l0,B.l1,by simp,B.s0,B.s1,gF⟩,x9.upd L J,by rw[al pv];exact G,aa⟩
    ·exact hR _ _ ⟨_,rfl,p,B,x7,O,Ib⟩
   ·rintro ρ M9 ⟨ID,rfl,p,B,x9,Ie,Ix⟩;nofun;refine⟨⟨_,Ie⟩,_,_,rfl,ad Ix,_,_,_,rfl,rfl,Ie,by rw[tv,z4];lia,?_⟩
    ac_nf;exact hF _ _ ⟨ps++[p],_,_,_,_,rfl,by simp[hl],λp' Iy=>(Kz.mp Iy).elim (hp p') λz=>by simp at z;subst z;exact B,x9.upd I8 U,by rw[aa];simp[prD,prL]⟩
 ·rintro ρ M1 ⟨ps,o4,o5,o6,o7,rfl,hl,hp,x1,Ii⟩;have I9:=x1.keep a _ HZ ha;dsimp only;nofun;refine⟨_,_,rfl,ad I9,by rw[z4];lia,?_⟩
  ac_nf;rw[cb]at hl;exact⟨by simp,by rw[z4];lia,q ps pr M1 ∅ hp x1 I8 Ii⟩
end
section
theorem au{α:Type}{f:α->D}{b:BT}{chk:Mem->Prop}{N:NC}(I:List α->ar->Mem->List D->Prop){ys:List α}(hx:xs=ys.map f){acc:List D}(h0:I [] ρ M acc)(hc:∀l ρ M acc,I l ρ M acc->chk M)(hs:∀l x r ρ M acc,ys=l++x::r->I l ρ M acc->∃ρ',b (f x) ρ=Z ρ'/\∀N':NC,(∀ρ2 M2 j,I (l++[x]) ρ2 M2 j->N' ρ2 M2 j)->tb ρ' M acc N')(q:∀ρ M acc,I ys ρ M acc->N ρ M acc):bx b tb chk N xs ρ M acc:=by
 subst hx;have g:∀(r l:List α) (ρ:ar) (M:Mem) (acc:List D),ys=l++r->I l ρ M acc->bx b tb chk N (r.map f) ρ M acc:=by
  intro r
  induction r with
  |nil=>intro l ρ M acc e i;rw[Mg]at e;subst e;exact⟨hc _ _ _ _ i,q _ _ _ i⟩
  |cons x r ih=>intro l ρ M acc e i;obtain⟨ρ',e1,h⟩:=hs l x r ρ M acc e i;exact⟨hc _ _ _ _ i,ρ',e1,h _ λρ2 M2 j z=>ih (l++[x]) ρ2 M2 j (by rw[e];simp) z⟩
 exact g ys [] ρ M acc rfl h0
theorem aO{α:Type}{f:α->D}{b:BT}{tb:TSd}{chk:Mem->Prop}(I:List α->ar->Mem->Prop){ys:List α}(hx:xs=ys.map f)(h0:I [] ρ M)(hc:∀l ρ M,I l ρ M->chk M)(hs:∀l x r ρ M,ys=l++x::r->I l ρ M->∃ρ',b (f x) ρ=Z ρ'/\∀F:ar->Mem->Prop,(∀ρ2 M2,I (l++[x]) ρ2 M2->F ρ2 M2)->tb {E with nx:=F,ct:=F,bk:=E.nx} ρ' M)(j:∀ρ M,I ys ρ M->E.nx ρ M):bA b tb chk E xs ρ M:=by
 subst hx;have g:∀(r l:List α) (ρ:ar) (M:Mem),ys=l++r->I l ρ M->bA b tb chk E (r.map f) ρ M:=by
  intro r
  induction r with
  |nil=>intro l ρ M e i;rw[Mg]at e;subst e;exact⟨hc _ _ _ i,j _ _ i⟩
  |cons x r ih=>intro l ρ M e i;obtain⟨ρ',e1,h⟩:=hs l x r ρ M e i;exact⟨hc _ _ _ i,ρ',e1,h _ λρ2 M2 q=>ih (l++[x]) ρ2 M2 (by rw[e];simp) q⟩
 exact g ys [] ρ M rfl h0
theorem cv{x:D}(h:ax M x=Z ds)(g:Ge M M'):ax M' x=Z ds:=by
 cases x with
 |ref a=>
  simp only[ax]at h⊢
  split at h
  ·next e=>rw[g _ _ e];exact h
  ·cases h
 |_=>exact h
theorem Bm{x:D}(h:ax M x=Z (ns.map .int))(q:Q (.int ns.sum) M):oQ [x] M Q:=⟨_,_,rfl,h,q⟩
theorem dJ{α:Type}{xs:List α}{k:Nat}{x:α}(h:xs[k]?=Z x):atI xs (k:Int)=Z x:=by
 have j:k<xs.length:=(KO.mp h).1;unfold atI ixN;rw[if_pos ∅,if_pos ∅]
 exact h
theorem ay:bV 0 n=(D1 n).map λi=>D.int (i:Nat):=by simp[bV]
end
section
variable{T:List FD}
def Big(ns:List Int):Prop:=∀x∈ns,-1000000000000<=x/\x<=1000000000000
noncomputable def uc(s:Stmt)(ft:Nat):FD:=⟨"_law_row",s,["_law_box_here","_law_length","_law_most"],2,
 (.cons (.asg (.name 2) (.ix (.lst (.cons (.int 9) (.cons (.int 9) (.cons (.int 9) (.cons (.bin .pow (.int 10) (.int 12)) .nil))))) (.call ft (.cons (.var 0) (.cons (.int 4) .nil)))))
 (.cons (.ret (.comp [Y,(Z 0),(Z 2)] ["_law_k","_law_box_here","_law_most"] (.last (.rng1 (.var 1)) (.name 0) .nil (.bin .sub (.call ft (.cons (.var 1) (.cons (.bin .add (.bin .mul (.int 2) (.var 2)) (.int 1)) .nil))) (.var 2)))))
 .nil))⟩
def zZ(T:List FD)(n f:Nat):Prop:=∀{b:VH} {L:Nat} {M:Mem} {Q:QD},L<=1000->Box b M->
 (∀(ns:List Int) p M',ns.length=L->Big ns->Bx b M M'->M p=Y->M' p=Z (.lst (ns.map .int))->Q (.ref p) M')->phi T n f [.ref b,.int L] M Q
theorem DA(hf:T[f]?=Z (uc s ft))(F:kh T (n-1) ft)(hn:1<=n):zZ T n f:=by
 intro b L M Q hL hb q;refine am ∅ hf rfl (ρ:=[Z _,Z _,Y]) rfl ?_
 unfold uc;nofun;refine⟨by decide,by decide,by decide,by rw[z4];lia,λp pv=>?_⟩
 have g0:=Ge.new (o:=.lst [.int 9,.int 9,.int 9,.int (10^(12:Int).toNat)]) pv;have J:p≠b:=λz=>by obtain⟨x,y,w,e⟩:=hb;rw[<-z,pv]at e;cases e
 have x0:=Bx.of hb g0;refine F x0.box (by decide) (by decide) λw fv w0 w1 j=>?_
 have O:=j.keep p _ J aa;have hw:∃m:Int,0<=m/\m<=1000000000000/\atI [D.int 9,.int 9,.int 9,.int (10^(12:Int).toNat)] w=Z (.int m):=by
  have:w=0∨w=1∨w=2∨w=3:=∅
  rcases this with rfl|rfl|rfl|rfl
  ·exact⟨9,by decide,by decide,rfl⟩
  ·exact⟨9,by decide,by decide,rfl⟩
  ·exact⟨9,by decide,by decide,rfl⟩
  ·exact⟨_,by decide,by decide,rfl⟩
 obtain⟨m,m0,m1,em⟩:=hw;refine aA O em ?_;have U:=x0.trans j;nofun;refine⟨∅,∅,?_⟩
 refine mQ (I:=λl ρ M' acc=>∃(ns:List Int) (x:Option D),acc=ns.map .int/\ns.length=l.length/\Big ns/\Bx b M M'/\ρ=[x,Z (.ref b),Z (.int m)]) ⟨[],Y,rfl,rfl,λ_ h=>by simp at h,U,rfl⟩ (λ_ _ _ _ _=>trivial) ?_ ?_
 ·rintro l x r ρ fv acc e ⟨ns,o,rfl,hl,hs,j,rfl⟩;refine⟨_,rfl,λN' hN=>?_⟩;ac_nf;refine⟨bS (by decide),?_⟩
  refine F j.box ∅ ∅ λv M2 h1 h2 x2=>?_
  ac_nf;have:=ak e;rw[cb]at this;refine⟨by rw[tv,hl,z4];lia,hN _ _ _ ⟨ns++[v-m],_,by simp,by simp[hl],?_,j.trans x2,rfl⟩⟩
  intro y hy
  rcases Kz.mp hy with h|h
  ·exact hs y h
  ·simp at h;subst h;lia
 ·rintro ρ fv acc ⟨ns,o,rfl,hl,hs,j,rfl⟩ p2 B;rw[cb]at hl;have G:p2≠b:=λz=>by obtain⟨x,y,w,e⟩:=j.box;rw[<-z,B]at e;cases e
  exact q ns p2 _ ∅ hs (j.ge (Ge.new B)) (j.none B G) aa
noncomputable def dot(a b:List Int):Int:=(Nc (· * ·) a b).sum
theorem q8(a b:List Int):Nc fF (a.map .int) (b.map .int)=(a.zip b).map λxy=>.tup [.int xy.1,.int xy.2]:=by rw[Uv,T2,Q4];rfl
theorem iI{α β γ:Type}(f:α->β->γ)(a:List α)(b:List β):Nc f a b=(a.zip b).map λxy=>f xy.1 xy.2:=by rw[T2,Q4]
theorem wD{a b:List Int}(j:a.length=L)(hb:b.length=L):((D1 L).map λi=>a.getD i 0*b.getD i 0).sum=dot a b:=by
 unfold dot;congr 1;apply Q5
 ·simp[j,hb]
 ·intro i h1 h2;have:i<L:=by simpa using h1
  simp[Kv,I7 (show i<a.length by lia),I7 (show i<b.length by lia)]
end
section
variable{T:List FD}
noncomputable def q9(x:Str)(s:Stmt):FD:=⟨"_law_mixed",s,[x,"_law_k","_law_once","_law_twice"],2,(kU s).body⟩
theorem wF(hf:T[f]?=Z (q9 x s))(j:1<=n):ua T n f:=by
 intro x k M Q q;refine am j hf rfl (ρ:=[Z _,Z _,Y,Y]) rfl ?_;unfold q9 kU;nofun;refine⟨by decide,bS (by decide),pV (by decide),by decide,?_⟩
 nofun;refine⟨by decide,bS ?_,by decide,?_⟩
 ·have h1:=Qr ((x%1000000007+7*k+1)*48271) (b:=2147483647) (by decide)
  have h2:=Pm ((x%1000000007+7*k+1)*48271) (b:=2147483647) (by decide)
  lia
 nofun;refine⟨pV (by decide),by decide,by decide,by decide,?_⟩
 exact q _
end
section
open L2.Srt
variable{T:List FD}
noncomputable abbrev K3:=Int×Int×Int
noncomputable abbrev Tm:=K3×Int
noncomputable def k3D(k:K3):D:=.tup [.int k.1,.int k.2.1,.int k.2.2]
noncomputable def tmD(t:Tm):D:=.tup [.int t.1.1,.int t.1.2.1,.int t.1.2.2,.int t.2]
noncomputable def kcD(t:Tm):D×D:=(k3D t.1,.int t.2)
noncomputable def k3K(k:K3):Ky:=.tup [.int k.1,.int k.2.1,.int k.2.2]
def klt(a b:K3):Prop:=ltK (k3K a) (k3K b)=F2
theorem kW{a b:K3}(h:k3D a=k3D b):a=b:=by obtain⟨a1,a2,j⟩:=a;obtain⟨b1,b2,b3⟩:=b;simp[k3D]at h;simp[h]
theorem Bn{a b:K3}(h:k3K a=k3K b):a=b:=by obtain⟨a1,a2,j⟩:=a;obtain⟨b1,b2,b3⟩:=b;simp[k3K]at h;simp[h]
noncomputable def cf(ts:List Tm)(k:K3):Int:=((ts.filter λt=>decide (t.1=k)).map (·.2)).sum
theorem bO{k:K3}:cf [] k=0:=rfl
theorem az{t:Tm}{ts:List Tm}{k:K3}:cf (t::ts) k=(if t.1=k then t.2 else 0)+cf ts k:=by
 unfold cf
 by_cases h:t.1=k
 ·rw[Md (by simpa using h),if_pos h];simp
 ·rw[LL (by simpa using h),if_neg h];simp
theorem bj{a b:List Tm}{k:K3}:cf (a++b) k=cf a k+cf b k:=by
 induction a with
 |nil=>simp[bO]
 |cons t a ih=>rw[OX,az,az,ih];lia
theorem Bo{a b:List Tm}(h:a.Perm b){k:K3}:cf a k=cf b k:=by
 induction h with
 |nil=>rfl
 |cons x h ih=>rw[az,az,ih]
 |swap x y l=>simp only[az];lia
 |trans _ _ j q=>rw[j,q]
theorem kX{ts:List Tm}{k:K3}(h:∀t∈ts,t.1≠k):cf ts k=0:=by
 induction ts with
 |nil=>rfl
 |cons t ts ih=>rw[az,if_neg (h t (by simp)),ih λu j=>h u (by simp[j])];rfl
theorem ki{ts:List Tm}(j:(ts.map (·.1)).Nodup){t:Tm}(q:t∈ts):cf ts t.1=t.2:=by
 induction ts with
 |nil=>simp at q
 |cons u ts ih=>
  simp only[Ks,Ma]at j;rw[az]
  rcases Km.mp q with z|z
  ·subst z;rw[if_pos rfl,kX λv B e=>j.1 (by rw[<-e];exact KY B)]
   lia
  ·rw[if_neg λe=>j.1 (by rw[e];exact KY z),ih j.2 z];lia
theorem qa{ts:List Tm}(q:0<=B)(h:∀t∈ts,-B<=t.2/\t.2<=B){k:K3}:-(ts.length*B)<=cf ts k/\cf ts k<=ts.length*B:=by
 induction ts with
 |nil=>simp[bO]
 |cons t ts ih=>
  obtain⟨h1,h2⟩:=ih λu j=>h u (by simp[j])
  obtain⟨z,F⟩:=h t (by simp)
  rw[az,L4,Sk,ND]
  split<;>lia
noncomputable def db(L:List Tm)(k:K3)(c:Int):List Tm:=if(L.any λp=>decide (p.1=k))=F2 then L.map λp=>if p.1=k then(p.1,p.2+c)else p else L++[(k,c)]
theorem Bp{L:List Tm}{k:K3}:dget (L.map kcD) (k3D k)=(L.find? λp=>decide (p.1=k)).map λp=>.int p.2:=by
 unfold dget
 induction L with
 |nil=>rfl
 |cons t L ih=>
  by_cases h:t.1=k
  ·rw[Ks,PN (by simp[kcD,h]),PN (by simpa using h)];rfl
  ·rw[Ks,Ou (by simp only[decide_eq_true_eq];exactλe=>h (kW e)),Ou (by simpa using h),ih]
theorem DB{L:List Tm}{k:K3}:((L.map kcD).any λp=>decide (p.1=k3D k))=L.any λp=>decide (p.1=k):=by
 induction L with
 |nil=>rfl
 |cons t L ih=>
  rw[Ks,MU,MU,ih];congr 1
  by_cases h:t.1=k
  ·simp[kcD,h]
  ·rw[decide_eq_false h];exact decide_eq_false (λe=>h (kW e))
theorem Bq{L:List Tm}(j:(L.map (·.1)).Nodup){k:K3}:eR (L.map kcD) (k3D k) (.int ((((L.find? λp=>decide (p.1=k)).map (·.2)).getD 0)+c))=(db L k c).map kcD:=by
 unfold eR db;rw[DB]
 split
 ·next h=>
  rw[Ms,Ms];apply Lm;intro t q;simp only[Rr]
  by_cases e:t.1=k
  ·rw[if_pos (by rw[<-e];rfl),if_pos e]
   have:L.find? (λp=>decide (p.1=k))=Z t:=by
    clear h
    induction L with
    |nil=>simp at q
    |cons u L ih=>
     simp only[Ks,Ma]at j
     rcases Km.mp q with z|z
     ·subst z;rw[PN (by simpa using e)]
     ·rw[Ou (by simp;intro e2;exact j.1 (by rw[e2,<-e];exact KY z))]
      exact ih j.2 z
   rw[this];rfl
  ·rw[if_neg (c:=(kcD t).1=k3D k) (λz=>e (kW z)),if_neg e]
 ·next h=>
  have:L.find? (λp=>decide (p.1=k))=Y:=by rw[QU];intro x hx;simp only[decide_eq_true_eq];intro e;exact h (N9.mpr ⟨x,hx,by simpa using e⟩)
  rw[this];simp[kcD]
theorem mR{L:List Tm}{k:K3}:(db L k c).map (·.1)=if(L.any λp=>decide (p.1=k))=F2 then L.map (·.1)else L.map (·.1)++[k]:=by
 unfold db
 split
 ·rw[Ms];apply Lm;intro t _;simp only[Rr]
  split<;>rfl
 ·simp
theorem ud{L:List Tm}(j:(L.map (·.1)).Nodup){k:K3}:((db L k c).map (·.1)).Nodup:=by
 rw[mR]
 split
 ·exact j
 ·next h=>
  refine OK.mpr ⟨j,by simp,λa q b hb e=>?_⟩
  simp at hb;subst hb;subst e;obtain⟨t,z,e⟩:=Ki.mp q;exact h (N9.mpr ⟨t,z,by simpa using e⟩)
theorem z9{L:List Tm}{k a:K3}(h:a∈(db L k c).map (·.1)):a∈L.map (·.1)∨a=k:=by
 rw[mR]at h
 split at h
 ·exact .inl h
 ·rcases Kz.mp h with z|z
  ·exact .inl z
  ·exact .inr (by simpa using z)
theorem zb{L:List Tm}{k:K3}:(db L k c).length<=L.length+1:=by unfold db;split<;>simp
theorem Br{L:List Tm}(j:(L.map (·.1)).Nodup){k a:K3}:cf (db L k c) a=cf L a+if k=a then c else 0:=by
 unfold db
 split
 ·next h=>
  obtain⟨t,q,e⟩:=N9.mp h;have e:t.1=k:=by simpa using e
  clear h
  induction L with
  |nil=>simp at q
  |cons u L ih=>
   simp only[Ks,Ma]at j;rw[Ks,az,az]
   by_cases eu:u.1=k
   ·have rest:(L.map fun p=>if p.1=k then(p.1,p.2+c)else p)=L:=by
     conv=>rhs;rw[<-UD L]
     apply Lm;intro p B;rw[if_neg λz=>j.1 (by rw[eu,<-z];exact KY B)];rfl
    rw[rest,if_pos eu];dsimp only
    by_cases ea:u.1=a
    ·rw[if_pos ea,if_pos ea,if_pos (by rw[<-eu];exact ea)];lia
    ·rw[if_neg ea,if_neg ea,if_neg (by rw[<-eu];exact ea)];lia
   ·rcases Km.mp q with z|z
    ·exact absurd (by rw[<-z];exact e) eu
    ·rw[ih j.2 z,if_neg eu];lia
 ·rw[bj,az,bO];simp
noncomputable def tset(ts:List Tm):List Tm:=ts.foldl (λL t=>db L t.1 t.2) []
theorem cW{ts:List Tm}{t:Tm}:tset (ts++[t])=db (tset ts) t.1 t.2:=by simp[tset]
theorem dZ{α:Type}{P:List α->Prop}(h0:P [])(h1:∀l x,P l->P (l++[x]))(l:List α):P l:=by
 have:∀r:List α,P r.reverse:=by
  intro r
  induction r with
  |nil=>exact h0
  |cons x r ih=>rw[List.reverse_cons];exact h1 _ _ ih
 have:=this l.reverse;rw[SG]at this;exact this
theorem fQ(ts:List Tm):((tset ts).map (·.1)).Nodup:=dZ (P:=λts=>((tset ts).map (·.1)).Nodup) (by simp[tset]) (λl x ih=>by rw[cW];exact ud ih) ts
theorem Bs(ts:List Tm)(k:K3):cf (tset ts) k=cf ts k:=dZ (P:=λts=>cf (tset ts) k=cf ts k) rfl (λl x ih=>by rw[cW,Br (fQ l),ih,bj,az,bO];lia) ts
theorem qb(ts:List Tm):(tset ts).length<=ts.length:=dZ (P:=λts=>(tset ts).length<=ts.length) (by simp[tset]) (λl x ih=>by rw[cW];have:=zb (L:=tset l) (k:=x.1) (c:=x.2);simp;lia) ts
theorem zc(ts:List Tm):∀a∈(tset ts).map (·.1),a∈ts.map (·.1):=dZ (P:=λts=>∀a∈(tset ts).map (·.1),a∈ts.map (·.1)) (by simp[tset]) (λl x ih a j=>by
 rw[cW]at j;rw[Ld]
 rcases z9 j with z|z
 ·exact Lz _ (ih a z)
 ·exact KR _ (by simp[z])) ts
structure IsTask(ts rs:List Tm):Prop where
 srt:rs.Pairwise λa b=>klt a.1 b.1
 nz:∀r∈rs,r.2≠0
 cf:∀k,cf rs k=cf ts k
 mem:∀r∈rs,r.1∈ts.map (·.1)
 len:rs.length<=ts.length
theorem Bu{a:K3}(h:klt a a):False:=by have:=iV _ _ h;unfold klt at h;rw[h]at this;cases this
theorem IsTask.nodup{ts rs:List Tm}(h:IsTask ts rs):(rs.map (·.1)).Nodup:=by rw[LH,LF];refine h.srt.imp ?_;intro a b j e;rw[e]at j;exact Bu j
theorem IsTask.val{ts rs:List Tm}(h:IsTask ts rs){r:Tm}(j:r∈rs):r.2=Mi.cf ts r.1:=by rw[<-h.cf,ki h.nodup j]
theorem EV{ts:List Tm}{k:K3}:Mi.cf (ts.filter λt=>!(t.2==0)) k=Mi.cf ts k:=by
 induction ts with
 |nil=>rfl
 |cons t ts ih=>
  rw[az]
  by_cases h:t.2=0
  ·rw[LL (by simp[h]),ih,h];split<;>lia
  ·rw[Md (by simp[h]),az,ih]
theorem Ge.upd{j:Mem}(g:Ge M j)(hd:M d=Y):Ge M (af j d o):=λa o' e=>by rw[al (λz=>by rw[z,hd]at e;cases e)];exact g _ _ e
noncomputable def cX(s:Stmt):FD:=⟨"task_of",s,["left","right","many","terms","sums","k","i","j","c"],4,
 (.cons (.asg (.name 4) (.dnew F2))
 (.cons (.for (.tup (.cons (.name 5) (.cons (.name 6) (.cons (.name 7) (.cons (.name 8) .nil))))) (.seq (.var 3)) (.cons (.put (.var 4) (.tup (.cons (.var 5) (.cons (.var 6) (.cons (.var 7) .nil)))) (.bin .add (.dget (.var 4) (.tup (.cons (.var 5) (.cons (.var 6) (.cons (.var 7) .nil)))) (.int 0)) (.var 8)))
 .nil))
 (.cons (.ret (.tup (.cons (.var 0) (.cons (.var 1) (.cons (.var 2) (.cons (.comp [Y,Y,Y,Y] ["k","i","j","c"] (.last (.seq (.sortI (.var 4))) (.tup (.cons (.tup (.cons (.name 0) (.cons (.name 1) (.cons (.name 2) .nil)))) (.cons (.name 3) .nil))) (.cons (.cmp .ne (.var 3) (.int 0)) .nil) (.tup (.cons (.var 0) (.cons (.var 1) (.cons (.var 2) (.cons (.var 3) .nil))))))) .nil))))))
 .nil)))⟩
theorem fg(hf:T[f]?=Z (cX s))(hn:1<=n){L R N x:D}{ts:List Tm}(hx:ax M x=Z (ts.map tmD))(hl:ts.length<=100000)(q:∀(rs:List Tm) p M',IsTask ts rs->Ge M M'->M p=Y->M' p=Z (.lst (rs.map tmD))->Q (.tup [L,R,N,.ref p]) M'):phi T n f [L,R,N,x] M Q:=by
 refine am ∅ hf rfl (ρ:=[Z _,Z _,Z _,Z _,Y,Y,Y,Y,Y]) rfl ?_
 unfold cX;nofun;intro d hd;nofun;have g0:=Ge.new (o:=.dct F2 []) hd;refine⟨_,cv hx g0,?_⟩;refine aO (I:=λl ρ M'=>∃pv fv o7 o8,ρ=[Z L,Z R,Z N,Z x,Z (.ref d),pv,fv,o7,o8]/\Ge M M'/\M' d=Z (.dct F2 ((tset l).map kcD))) rfl ⟨_,_,_,_,rfl,g0,aa⟩ (λl ρ M' g9=>(by obtain⟨_,_,_,_,_,g,_⟩:=g9;exact cv hx g)) ?_ ?_
 ·rintro l t r ρ M1 e ⟨pv,fv,o7,o8,rfl,g1,B⟩;refine⟨_,rfl,λF hF=>?_⟩;have HY:=ak e;have I8:=qb l;rw[aX];ac_nf;refine⟨⟨_,_,B⟩,by rw[z4];lia,_,_,B,rfl,?_⟩
  have ek:D.tup [D.int t.1.1,D.int t.1.2.1,D.int t.1.2.2]=k3D t.1:=rfl;rw[ek,Bp];have eg:((Option.map (λp:Tm=>D.int p.2) ((tset l).find? λp=>decide (p.1=t.1))).getD (.int 0))=.int (((((tset l).find? λp=>decide (p.1=t.1)).map (·.2)).getD 0)):=by cases(tset l).find? λp=>decide (p.1=t.1)<;>rfl
  rw[eg];ac_nf;refine⟨by rw[z4];lia,ja B rfl (by rw[tv,z4];lia) ?_⟩
  rw[Bq (fQ l)];refine hF _ _ ⟨_,_,_,_,rfl,g1.upd hd,?_⟩;rw[aa,cW]
 ·rintro ρ M1 ⟨pv,fv,o7,o8,rfl,g1,B⟩;dsimp only;nofun;refine⟨_,_,B,.tup [.tup [.int,.int,.int],.int],rfl,λkv HZ=>?_,λp ys hp z j=>?_⟩
  ·obtain⟨t,_,rfl⟩:=Ki.mp HZ;rfl
  rw[Ms]at z;obtain⟨L',O,p2⟩:=eG (λt:Tm=>kvD (kcD t)) z rfl;have G:(L'.map (·.1)).Nodup:=(O.map (·.1)).nodup_iff.mpr (fQ ts);have I0:L'.Pairwise λa b=>klt a.1 b.1:=by
   rw[<-p2]at j;unfold fK at j;rw[LF]at j;rw[LH,LF]at G;refine(j.and G).imp ?_;rintro a b ⟨h1,h2⟩;unfold klt
   cases e1:ltK (k3K a.1) (k3K b.1)with
   |true=>rfl
   |false=>
    exfalso
    cases e2:ltK (k3K b.1) (k3K a.1)with
    |false=>exact h2 (Bn (mz _ _ e1 e2))
    |true=>
     have:ltK (kyD (kvD (kcD b))) (kyD (kvD (kcD a)))=F2:=by
      show ltK (.tup [k3K b.1,.int b.2]) (.tup [k3K a.1,.int a.2])=F2;unfold ltK at e2⊢;have e2:av (k3K b.1) (k3K a.1)=.lt:=by simpa using e2
      simp only[av,cmpKs];rw[e2];rfl
     rw[this]at h1;cases h1
  have g2:=g1.trans (Ge.new (o:=.lst ys) hp);subst p2;refine⟨_,ad aa,?_⟩;have I9:L'.length<=ts.length:=by rw[O.length_eq];exact qb ts
  refine au (f:=λt:Tm=>kvD (kcD t)) (I:=λl ρ M' acc=>(∃o0 o1 o2 o3,ρ=[o0,o1,o2,o3])/\M'=af M1 p (.lst (L'.map λt=>kvD (kcD t)))/\acc=(l.filter λt=>!(t.2==0)).map tmD) rfl ⟨⟨_,_,_,_,rfl⟩,rfl,rfl⟩ (λ_ _ _ _ hI=>by rw[hI.2.1];exact ad aa) ?_ ?_
  ·rintro l t r ρ M2 acc e ⟨⟨o0,o1,o2,o3,rfl⟩,rfl,rfl⟩;refine⟨_,rfl,λN' hN=>?_⟩;have HY:=ak e;have Ia:(l.filter λt=>!(t.2==0)).length<=l.length:=N5 _ _;ac_nf;simp only[show(kcD t).2=D.int t.2 from rfl];ac_nf
   by_cases U:t.2=0
   ·rw[if_neg (by simp[U])]
    exact hN _ _ _ ⟨⟨_,_,_,_,rfl⟩,rfl,by simp[Ov,U]⟩
   ·rw[if_pos (by simp[U])]
    refine⟨by rw[z4];lia,by rw[tv,z4];lia,hN _ _ _ ⟨⟨_,_,_,_,rfl⟩,rfl,?_⟩⟩
    simp[Ov,U,tmD]
  ·rintro ρ M2 acc ⟨_,rfl,rfl⟩ p2 hp2;refine⟨by rw[z4];lia,?_⟩
   have J:M p2=Y:=by
    cases hq:M p2 with
    |none=>rfl
    |some o=>rw[g2 _ _ hq]at hp2;cases hp2
   refine q (L'.filter λt=>!(t.2==0)) p2 _ ⟨I0.sublist List.filter_sublist,λr hr=>by simpa using(LZ.mp hr).2,λk=>?_,λr hr=>?_,?_⟩ (g2.trans (Ge.new hp2)) J aa
   ·rw[EV,Bo O,Bs]
   ·have:=(LZ.mp hr).1;exact zc ts _ (KY (O.mem_iff.mp this))
   ·have:=N5 (λt:Tm=>!(t.2==0)) L';lia
end
section
open L2.Srt
variable{T:List FD}
noncomputable def gi(l:List Int)(i:Int):Int:=l.getD i.toNat 0
noncomputable def vk(rs:List Tm)(a b:List Int)(k:Int):Int:=((rs.filter λr=>decide (r.1.1=k)).map λr=>r.2*gi a r.1.2.1*gi b r.1.2.2).sum
noncomputable def val(rs:List Tm)(a b:List Int)(N:Nat):List Int:=(D1 N).map λk=>vk rs a b (k:Nat)
theorem Bv{rs:List Tm}{r:Tm}{a b:List Int}{k:Int}:vk (rs++[r]) a b k=vk rs a b k+if r.1.1=k then r.2*gi a r.1.2.1*gi b r.1.2.2 else 0:=by
 unfold vk;rw[Ov,Ld,Sl]
 by_cases h:r.1.1=k<;>simp[h]
theorem fh{rs:List Tm}{a b:List Int}:(val rs a b N).length=N:=by simp[val]
theorem rP{a b:List Int}:val [] a b N=Kf N 0:=by
 unfold val;apply Q5
 ·simp
 ·intro i h1 h2;simp[vk]
theorem dL{rs:List Tm}{a b:List Int}{k:Nat}(j:k<N):(val rs a b N)[k]?=Z (vk rs a b k):=by unfold val;rw[KH,LY j];rfl
theorem qc{rs:List Tm}{r:Tm}{a b:List Int}{k:Nat}(q:r.1.1=k)(B:k<N):(val rs a b N).set k (vk rs a b k+r.2*gi a r.1.2.1*gi b r.1.2.2)=val (rs++[r]) a b N:=by
 apply MX;intro j
 by_cases z:j<N
 ·rw[dL z,Bv]
  by_cases hjk:k=j
  ·subst hjk;rw[MV (by rw[fh];exact B),if_pos q]
  ·rw[NS hjk,dL z,if_neg (by rw[q];lia)];simp
 ·rw[LX (by rw[Ox,fh];lia),LX (by rw[fh];lia)]
theorem wG{x d:D}(h:ax M x=Z ds)(e:atI ds i=Z d)(q:Q d M):wIx x (.int i) M Q:=by
 cases x with
 |ref a=>
  simp only[ax]at h
  split at h
  ·next e0=>cases h;exact aA e0 e q
  ·cases h
 |tup es=>cases h;exact⟨i,d,rfl,e,q⟩
 |con es=>cases h;exact⟨i,d,rfl,e,q⟩
 |_=>cases h
theorem fR(h0:0<=i)(h1:i<l.length):atI (l.map D.int) i=Z (.int (gi l i)):=by
 obtain⟨k,rfl⟩:∃k:Nat,i=k:=⟨i.toNat,∅⟩
 refine dJ ?_;unfold gi;rw[KH,KL,Kv,I7 (show k<l.length by lia)];rfl
noncomputable def kY(s:Stmt):FD:=⟨"value_of",s,["task","one","other","left","right","many","terms","row","k","i","j","c"],3,
 (.cons (.asg (.tup (.cons (.name 3) (.cons (.name 4) (.cons (.name 5) (.cons (.name 6) .nil))))) (.var 0))
 (.cons (.asg (.name 7) (.bin .mul (.lst (.cons (.int 0) .nil)) (.var 5)))
 (.cons (.for (.tup (.cons (.name 8) (.cons (.name 9) (.cons (.name 10) (.cons (.name 11) .nil))))) (.seq (.var 6)) (.cons (.augI (.var 7) (.var 8) .add (.bin .mul (.bin .mul (.var 11) (.ix (.var 1) (.var 9))) (.ix (.var 2) (.var 10))))
 .nil))
 (.cons (.ret (.var 7))
 .nil))))⟩
structure InB(rs:List Tm)(la lb N:Nat):Prop where
 k:∀r∈rs,0<=r.1.1/\r.1.1<N
 i:∀r∈rs,0<=r.1.2.1/\r.1.2.1<la
 j:∀r∈rs,0<=r.1.2.2/\r.1.2.2<lb
 c:∀r∈rs,-(2^64)<r.2/\r.2<2^64
end
section
open L2.Srt
noncomputable def bB(f:K3->Int)(ts:List Tm):Int:=(ts.map λt=>t.2*f t.1).sum
theorem fS{f:K3->Int}:bB f []=0:=rfl
theorem bE{f:K3->Int}{t:Tm}{ts:List Tm}:bB f (t::ts)=t.2*f t.1+bB f ts:=by simp[bB]
theorem cj{f:K3->Int}{a b:List Tm}:bB f (a++b)=bB f a+bB f b:=by simp[bB]
noncomputable def ce(ts:List Tm):List Tm:=ts.map λt=>(t.1,-t.2)
theorem qd{f:K3->Int}{ts:List Tm}:bB f (ce ts) = -bB f ts:=by
 unfold ce
 induction ts with
 |nil=>rfl
 |cons t ts ih=>rw[Ks,bE,bE,ih];dsimp only;rw[Int.neg_mul];lia
theorem qe{ts:List Tm}{k:K3}:cf (ce ts) k = -cf ts k:=by
 unfold ce
 induction ts with
 |nil=>rfl
 |cons t ts ih=>rw[Ks,az,az,ih];dsimp only;split<;>lia
theorem kj{f:K3->Int}{k:K3}:∀ts:List Tm,bB f ts=cf ts k*f k+bB f (ts.filter λt=>decide (t.1≠k))
 |[]=>by simp[fS,bO]
 |t::ts=>by
  rw[bE,az,kj (k:=k) ts]
  by_cases h:t.1=k
  ·rw[if_pos h,LL (by simp[h]),ND,h];lia
  ·rw[if_neg h,Md (by simp[h]),bE,Int.zero_add];lia
theorem gH{k j:K3}:∀ts:List Tm,cf (ts.filter λt=>decide (t.1≠k)) j=if j=k then 0 else cf ts j
 |[]=>by simp[bO]
 |t::ts=>by
  by_cases h:t.1=k
  ·rw[LL (by simp[h]),gH ts,az]
   split
   ·rfl
   ·next e=>rw[if_neg (by rw[h];exactλz=>e z.symm)];lia
  ·rw[Md (by simp[h]),az,az,gH ts]
   by_cases e:j=k
   ·rw[if_pos e,if_pos e,if_neg (by rw[e];exact h)];lia
   ·rw[if_neg e,if_neg e]
theorem mU{f:K3->Int}:∀(n:Nat) (ts:List Tm),ts.length<=n->(∀k,cf ts k=0)->bB f ts=0
 |_,[],_,_=>rfl
 |0,_::_,h,_=>by simp at h
 |n+1,t::ts,h,z=>by
  rw[kj (k:=t.1),z,mU n]
  ·lia
  ·rw[LL (by simp)]
   have:=N5 (λu:Tm=>decide (u.1≠t.1)) ts;simp at h;lia
  ·intro k;rw[gH,z];split<;>rfl
theorem rQ{f:K3->Int}{a b:List Tm}(h:∀k,cf a k=cf b k):bB f a=bB f b:=by
 have:=mU (f:=f) _ (a++ce b) (Ku _) λk=>by rw[bj,qe,h];lia
 rw[cj,qd]at this;lia
noncomputable def fkk(a b:List Int)(k:Int):K3->Int:=λq=>if q.1=k then gi a q.2.1*gi b q.2.2 else 0
theorem bC{a b:List Int}{k:Int}:∀rs:List Tm,vk rs a b k=bB (fkk a b k) rs
 |[]=>rfl
 |r::rs=>by
  rw[bE,<-bC rs];unfold vk fkk
  by_cases h:r.1.1=k
  ·rw[Md (by simpa using h),if_pos h,Ks,O8,Rp]
  ·rw[LL (by simpa using h),if_neg h];lia
theorem A0{rs ts:List Tm}(h:∀k,cf rs k=cf ts k){a b:List Int}{k:Int}:vk rs a b k=vk ts a b k:=by rw[bC,bC,rQ h]
theorem kZ{α:Type}{lt:α->α->Prop}(as:∀a b,lt a b->lt b a->False):∀{l m:List α},l.Pairwise lt->m.Pairwise lt->(∀x,x∈l↔x∈m)->l=m
 |[],[],_,_,_=>rfl
 |[],y::m,_,_,h=>by have:=(h y).mpr (by simp);simp at this
 |x::l,[],_,_,h=>by have:=(h x).mp (by simp);simp at this
 |x::l,y::m,hl,hm,h=>by
  rw[Ph]at hl hm;have e:x=y:=by
   rcases Km.mp ((h x).mp (by simp))with z|z
   ·exact z
   ·rcases Km.mp ((h y).mpr (by simp))with w|w
    ·exact w.symm
    ·exact(as _ _ (hm.1 _ z) (hl.1 _ w)).elim
  subst e;rw[kZ as hl.2 hm.2 λz=>?_];constructor
  ·intro j
   rcases Km.mp ((h z).mp (by simp[j]))with w|w
   ·subst w;exact(as _ _ (hl.1 _ j) (hl.1 _ j)).elim
   ·exact w
  ·intro j
   rcases Km.mp ((h z).mpr (by simp[j]))with w|w
   ·subst w;exact(as _ _ (hm.1 _ j) (hm.1 _ j)).elim
   ·exact w
theorem IsTask.iff{ts rs:List Tm}(h:IsTask ts rs){r:Tm}:r∈rs↔r.2≠0/\r.2=Mi.cf ts r.1:=by
 constructor
 ·exactλj=>⟨h.nz r j,h.val j⟩
 ·rintro⟨h1,h2⟩;apply R0;intro z;apply h1;rw[h2,<-h.cf];refine kX λt q e=>z ?_;have:=h.val q;rw[e,<-h2]at this;have e2:t=r:=QJ e this;rw[<-e2];exact q
theorem IsTask.uniq{ts ts' rs rs':List Tm}(h:IsTask ts rs)(h':IsTask ts' rs')(e:∀k,Mi.cf ts k=Mi.cf ts' k):rs=rs':=by
 refine kZ (λa b h1 h2=>?_) h.srt h'.srt λr=>by rw[h.iff,h'.iff,e]
 have j:=iV _ _ h1;unfold klt at h2;rw[h2]at j;cases j
end
section
open L2.Srt
variable{T:List FD}
noncomputable def fT(n m:Nat)(g:Nat->Nat->Tm):List Tm:=(D1 n).flatMap λi=>(D1 m).map (g i)
noncomputable def eK(i j:Nat):Tm:=(((i+j:Nat),(i:Int),(j:Int)),1)
noncomputable def eM(n:Nat)(t:Int)(i j:Nat):Tm:=if i+j<n then(((i+j:Nat),(i:Int),(j:Int)),1)else(((i+j-n:Nat),(i:Int),(j:Int)),t)
noncomputable def cm(n m:Nat):List Tm:=fT n m eK
noncomputable def eN(n:Nat)(t:Int):List Tm:=fT n n (eM n t)
theorem ze{t:Int}{i j:Nat}(h:i+j<n):eM n t i j=((((i+j:Nat):Int),(i:Int),(j:Int)),1):=if_pos h
theorem zf{t:Int}{i j:Nat}(h:¬i+j<n):eM n t i j=((((i+j-n:Nat):Int),(i:Int),(j:Int)),t):=if_neg h
end
section
open L2.Srt
variable{T:List FD}
noncomputable def qf(s:Stmt)(ft:Nat):FD:=⟨"line_task",s,["n","m","terms"],2,
 (.cons (.asg (.name 2) (.comp [Y,Y,(Z 1)] ["i","j","m"] (.more (.rng1 (.var 0)) (.name 0) .nil (.last (.rng1 (.var 2)) (.name 1) .nil (.tup (.cons (.bin .add (.var 0) (.var 1)) (.cons (.var 0) (.cons (.var 1) (.cons (.int 1) .nil)))))))))
 (.cons (.ret (.call ft (.cons (.var 0) (.cons (.var 1) (.cons (.bin .sub (.bin .add (.var 0) (.var 1)) (.int 1)) (.cons (.var 2) .nil))))))
 .nil))⟩
noncomputable def qg(s:Stmt)(ft:Nat):FD:=⟨"ring_task",s,["n","turn","terms"],2,
 (.cons (.asg (.name 2) (.comp [Y,Y,(Z 0),(Z 1)] ["i","j","n","turn"] (.more (.rng1 (.var 0)) (.name 0) .nil (.last (.rng1 (.var 2)) (.name 1) .nil (.tup (.cons (.bin .mod (.bin .add (.var 0) (.var 1)) (.var 2)) (.cons (.var 0) (.cons (.var 1) (.cons (.ite (.cmp .lt (.bin .add (.var 0) (.var 1)) (.var 2)) (.int 1) (.var 3)) .nil)))))))))
 (.cons (.ret (.call ft (.cons (.var 0) (.cons (.var 0) (.cons (.var 0) (.cons (.var 2) .nil))))))
 .nil))⟩
theorem ee{g:Nat->Nat->Tm}:(fT n m g).length=n*m:=by
 unfold fT;rw[List.length_flatMap]
 induction n with
 |zero=>simp
 |succ n ih=>rw[NR,Ld,Sl,ih,Mr];simp
theorem eO{l:List Nat}{i:Nat}{G:Nat->List Tm}:(l++[i]).flatMap G=l.flatMap G++G i:=by simp
theorem ef{l:List Nat}{g:Nat->Nat->Tm}:(l.flatMap λi=>(D1 m).map (g i)).length=l.length*m:=by
 induction l with
 |nil=>simp
 |cons i l ih=>rw[LG,D2,ih,L4,Mr];simp;lia
theorem rR(hf:T[f]?=Z (qf s ft))(L:T[ft]?=Z (cX s')){k:Nat}(pv:2<=k)(O:n<=100)(hm:m<=100)(q:∀(rs:List Tm) p M',IsTask (cm n m) rs->Ge M M'->M p=Y->M' p=Z (.lst (rs.map tmD))->Q (.tup [.int n,.int m,.int (n+m-1),.ref p]) M'):phi T k f [.int n,.int m] M Q:=by
 refine am ∅ hf rfl (ρ:=[Z _,Z _,Y]) rfl ?_
 unfold qf;nofun;refine⟨∅,∅,?_⟩
 refine au (f:=λi=>D.int (i:Nat)) (I:=λl ρ M' acc=>(∃o0 z,ρ=[o0,z,Z (.int m)])/\M'=M/\acc=(l.flatMap λi=>(D1 m).map (eK i)).map tmD) ay ⟨⟨_,_,rfl⟩,rfl,rfl⟩ (λ_ _ _ _ _=>trivial) ?_ ?_
 ·rintro l i r ρ M1 acc e ⟨⟨o0,z,rfl⟩,rfl,rfl⟩;refine⟨_,rfl,λN' U=>?_⟩;have G:=ak e;rw[Kx]at G;ac_nf;refine⟨∅,∅,?_⟩
  refine au (f:=λi=>D.int (i:Nat)) (I:=λl' ρ M' acc=>(∃z,ρ=[Z (.int i),z,Z (.int m)])/\M'=M1/\acc=((l.flatMap λi=>(D1 m).map (eK i))++l'.map (eK i)).map tmD) ay ⟨⟨_,rfl⟩,rfl,by simp⟩ (λ_ _ _ _ _=>trivial) ?_ ?_
  ·rintro l' j r' ρ M2 acc e' ⟨⟨z,rfl⟩,rfl,rfl⟩;refine⟨_,rfl,λfv J=>?_⟩;have B:=ak e';rw[Kx]at B;have hmul:l.length*m<=100*100:=L5 ∅ ∅
   ac_nf;refine⟨by rw[z4];lia,by rw[tv,D2,ef,tv,z4];lia,J _ _ _ ⟨⟨_,rfl⟩,rfl,?_⟩⟩
   simp[tmD,eK]
  ·rintro ρ M2 acc ⟨⟨z,rfl⟩,rfl,rfl⟩;refine U _ _ _ ⟨⟨_,_,rfl⟩,rfl,?_⟩;rw[eO];simp
 ·rintro ρ M1 acc ⟨_,rfl,rfl⟩ p hp;have eL:((D1 (n:Int).toNat).flatMap λi=>(D1 m).map (eK i))=cm n m:=by rw[KL];rfl
  rw[eL];have hl:(cm n m).length<=100*100:=by unfold cm;rw[ee];exact L5 O hm
  nofun;refine fg L ∅ (ad aa) ∅ λrs p2 M2 h1 g F e2=>?_
  have g1:=Ge.new (o:=.lst ((cm n m).map tmD)) hp;refine q rs p2 M2 h1 (g1.trans g) ?_ e2
  cases hq:M1 p2 with
  |none=>rfl
  |some o=>rw[g1 _ _ hq]at F;cases F
theorem Bw(hf:T[f]?=Z (qg s ft))(U:T[ft]?=Z (cX s')){k:Nat}(fv:2<=k){t:Int}(O:n<=100)(q:∀(rs:List Tm) p M',IsTask (eN n t) rs->Ge M M'->M p=Y->M' p=Z (.lst (rs.map tmD))->Q (.tup [.int n,.int n,.int n,.ref p]) M'):phi T k f [.int n,.int t] M Q:=by
 refine am ∅ hf rfl (ρ:=[Z _,Z _,Y]) rfl ?_
 unfold qg;nofun;refine⟨∅,∅,?_⟩
 refine au (f:=λi=>D.int (i:Nat)) (I:=λl ρ M' acc=>(∃o0 z,ρ=[o0,z,Z (.int n),Z (.int t)])/\M'=M/\acc=(l.flatMap λi=>(D1 n).map (eM n t i)).map tmD) ay ⟨⟨_,_,rfl⟩,rfl,rfl⟩ (λ_ _ _ _ _=>trivial) ?_ ?_
 ·rintro l i r ρ M1 acc e ⟨⟨o0,z,rfl⟩,rfl,rfl⟩;refine⟨_,rfl,λN' pv=>?_⟩;have J:=ak e;rw[Kx]at J;have hi:i<n:=by have L:i∈D1 (n:Int).toNat:=(by rw[e];simp);have:=L7.mp L;lia
  ac_nf;refine⟨∅,∅,?_⟩
  refine au (f:=λi=>D.int (i:Nat)) (I:=λl' ρ M' acc=>(∃z,ρ=[Z (.int i),z,Z (.int n),Z (.int t)])/\M'=M1/\acc=((l.flatMap λi=>(D1 n).map (eM n t i))++l'.map (eM n t i)).map tmD) ay ⟨⟨_,rfl⟩,rfl,by simp⟩ (λ_ _ _ _ _=>trivial) ?_ ?_
  ·rintro l' j r' ρ M2 acc e' ⟨⟨z,rfl⟩,rfl,rfl⟩;refine⟨_,rfl,λN2 B=>?_⟩;have F:=ak e';rw[Kx]at F;have hmul:l.length*n<=100*100:=L5 ∅ ∅
   have hj:j<n:=by have L:j∈D1 (n:Int).toNat:=(by rw[e'];simp);have:=L7.mp L;lia
   ac_nf;refine⟨∅,?_⟩
   by_cases h1:i+j<n
   ·rw[if_pos ∅]
    refine⟨by rw[z4];lia,by rw[tv,D2,ef,tv,z4];lia,B _ _ _ ⟨⟨_,rfl⟩,rfl,?_⟩⟩
    have ep:((i:Int)+j)%n=((i+j:Nat):Int):=by rw[U3 ∅ ∅];lia
    simp[tmD,ze h1,ep]
   ·rw[if_neg ∅]
    refine⟨by rw[z4];lia,by rw[tv,D2,ef,tv,z4];lia,B _ _ _ ⟨⟨_,rfl⟩,rfl,?_⟩⟩
    have ep:((i:Int)+j)%n=((i+j-n:Nat):Int):=by rw[show((i:Int)+j)=((i+j-n:Nat):Int)+n by lia,Int.add_emod_right,U3 ∅ ∅]
    simp[tmD,zf h1,ep]
  ·rintro ρ M2 acc ⟨⟨z,rfl⟩,rfl,rfl⟩;refine pv _ _ _ ⟨⟨_,_,rfl⟩,rfl,?_⟩;rw[eO];simp
 ·rintro ρ M1 acc ⟨_,rfl,rfl⟩ p hp;have eL:((D1 (n:Int).toNat).flatMap λi=>(D1 n).map (eM n t i))=eN n t:=by rw[KL];rfl
  rw[eL];have hl:(eN n t).length<=100*100:=by unfold eN;rw[ee];exact L5 O O
  nofun;refine fg U ∅ (ad aa) ∅ λrs p2 M2 h1 g G e2=>?_
  have g1:=Ge.new (o:=.lst ((eN n t).map tmD)) hp;refine q rs p2 M2 h1 (g1.trans g) ?_ e2
  cases hq:M1 p2 with
  |none=>rfl
  |some o=>rw[g1 _ _ hq]at G;cases G
end
section
open L2.Srt
theorem aP{p:VH}(hb:Box b M)(j:M p=Y):p≠b:=λz=>by obtain⟨x,y,w,e⟩:=hb;rw[<-z,j]at e;cases e
noncomputable def de(t:Tm):Me:=.tuple [.int t.1.1,.int t.1.2.1,.int t.1.2.2,.int t.2]
theorem EW{k:Nat}(t:Tm):rb (k+2) M (tmD t)=Z (de t):=by simp[tmD,rb,aQ,de]
theorem wH{k:Nat}{M:Mem}:∀ts:List Tm,aQ (rb (k+2) M) (ts.map tmD)=Z (ts.map de)
 |[]=>rfl
 |t::r=>by simp[aQ,EW,wH r]
theorem io{p:VH}{ts:List Tm}{a b:Int}(h:M p=Z (.lst (ts.map tmD))):rb 16 M (.tup [.int a,.int b,.int c,.ref p])=Z (.tuple [.int a,.int b,.int c,.list (ts.map de)]):=by
 have e:rb 15 M (.ref p)=Z (.list (ts.map de)):=by rw[ci h,wH];rfl
 have ei:∀x:Int,rb 15 M (.int x)=Z (.int x):=λ_=>rfl;show(aQ (rb 15 M) [.int a,.int b,.int c,.ref p]).map TN=_;simp[aQ,e,ei]
theorem ue{g:Nat->Nat->Tm}(z:∀i j,(g i j).1.2=((i:Int),(j:Int))):((fT n m g).map (·.1)).Nodup:=by
 unfold fT;rw[Uw,LH,OI];refine⟨λi _=>?_,?_⟩
 ·rw[Ms,LF];refine(LH.mp Ux).imp ?_;intro a b q e;have h:=congrArg (λk:K3=>k.2.2) e;simp only[Rr,z]at h;lia
 ·refine(LH.mp Ux).imp ?_;intro a b q x hx y B e;rw[Ms]at hx B;obtain⟨u,_,rfl⟩:=Ki.mp hx;obtain⟨v,_,rfl⟩:=Ki.mp B;have h:=congrArg (λk:K3=>k.2.1) e;simp only[Rr,z]at h;lia
theorem jd{g:Nat->Nat->Tm}{t:Tm}(h:t∈fT n m g):∃i j,i<n/\j<m/\t=g i j:=by obtain⟨i,hi,h⟩:=Mt.mp h;obtain⟨j,q,rfl⟩:=Ki.mp h;exact⟨i,j,L7.mp hi,L7.mp q,rfl⟩
theorem IsTask.sub{ts rs:List Tm}(h:IsTask ts rs)(z:(ts.map (·.1)).Nodup){r:Tm}(j:r∈rs):r∈ts:=by obtain⟨u,q,e⟩:=Ki.mp (h.mem r j);have:=h.val j;rw[<-e,ki z q]at this;have e2:u=r:=QJ e this.symm;rw[<-e2];exact q
theorem uf:((cm n m).map (·.1)).Nodup:=ue λ_ _=>rfl
theorem By{rs:List Tm}(h:IsTask (cm n m) rs)(z:1<=n):InB rs n m (n+m-1):=by
 have key:∀r∈rs,(0<=r.1.1/\r.1.1<(n+m-1:Nat))/\(0<=r.1.2.1/\r.1.2.1<n)/\(0<=r.1.2.2/\r.1.2.2<m)/\(-(2^64)<r.2/\r.2<2^64):=λr q=>by obtain⟨i,j,hi,B,rfl⟩:=jd (h.sub uf q);unfold eK;dsimp only;exact⟨∅,∅,∅,by decide⟩
 exact⟨λr q=>(key r q).1,λr q=>(key r q).2.1,λr q=>(key r q).2.2.1,λr q=>(key r q).2.2.2⟩
end
section
open L2.Srt
variable{T:List FD}
theorem rS{ts rs:List Tm}(h:IsTask ts rs)(hb:∀t∈ts,(0<=t.1.1/\t.1.1<L2)/\(0<=t.1.2.1/\t.1.2.1<L0)/\(0<=t.1.2.2/\t.1.2.2<L1) /\ -1000000000<=t.2/\t.2<=1000000000)(hl:ts.length<=1000000):InB rs L0 L1 L2:=by
 have key:∀r∈rs,∃t∈ts,t.1=r.1:=λr j=>by obtain⟨t,h1,h2⟩:=Ki.mp (h.mem r j);exact⟨t,h1,h2⟩
 refine⟨λr j=>?_,λr j=>?_,λr j=>?_,λr j=>?_⟩
 ·obtain⟨t,h1,h2⟩:=key r j;rw[<-h2];exact(hb t h1).1
 ·obtain⟨t,h1,h2⟩:=key r j;rw[<-h2];exact(hb t h1).2.1
 ·obtain⟨t,h1,h2⟩:=key r j;rw[<-h2];exact(hb t h1).2.2.1
 ·rw[h.val j];obtain⟨h1,h2⟩:=qa (ts:=ts) (B:=1000000000) ∅ (λt q=>(hb t q).2.2.2) (k:=r.1)
  have:(ts.length:Int)*1000000000<=1000000*1000000000:=Int.mul_le_mul_of_nonneg_right ∅ ∅
  lia
noncomputable def je(m p a b c:Nat):Tm:=(((a*p+c:Nat),((a*m+b:Nat):Int),((b*p+c:Nat):Int)),1)
noncomputable def fU(m p a:Nat):List Tm:=(D1 m).flatMap λb=>(D1 p).map (je m p a b)
noncomputable def df(n m p:Nat):List Tm:=(D1 n).flatMap (fU m p)
theorem zg{p a:Nat}:(fU m p a).length=m*p:=by unfold fU;rw[ef,Kx]
theorem lc{p:Nat}{l:List Nat}:(l.flatMap (fU m p)).length=l.length*(m*p):=by
 induction l with
 |nil=>simp
 |cons i l ih=>rw[LG,D2,ih,L4,zg,Mr];lia
theorem Bz{p:Nat}{t:Tm}(h:t∈df n m p):∃a b c,a<n/\b<m/\c<p/\t=je m p a b c:=by obtain⟨a,j,h⟩:=Mt.mp h;obtain⟨b,hb,h⟩:=Mt.mp h;obtain⟨c,hc,rfl⟩:=Ki.mp h;exact⟨a,b,c,L7.mp j,L7.mp hb,L7.mp hc,rfl⟩
theorem qh{a b:Nat}(j:a<n)(hb:b<m):a*m+b<n*m:=by have:(a+1)*m<=n*m:=NX m j;rw[Mr]at this;lia
noncomputable def lf(s:Stmt)(ft:Nat):FD:=⟨"table_task",s,["n","m","p","terms"],3,
 (.cons (.asg (.name 3) (.comp [Y,Y,Y,(Z 2),(Z 1)] ["a","b","c","p","m"] (.more (.rng1 (.var 0)) (.name 0) .nil (.more (.rng1 (.var 4)) (.name 1) .nil (.last (.rng1 (.var 3)) (.name 2) .nil (.tup (.cons (.bin .add (.bin .mul (.var 0) (.var 3)) (.var 2)) (.cons (.bin .add (.bin .mul (.var 0) (.var 4)) (.var 1)) (.cons (.bin .add (.bin .mul (.var 1) (.var 3)) (.var 2)) (.cons (.int 1) .nil))))))))))
 (.cons (.ret (.call ft (.cons (.bin .mul (.var 0) (.var 1)) (.cons (.bin .mul (.var 1) (.var 2)) (.cons (.bin .mul (.var 0) (.var 2)) (.cons (.var 3) .nil))))))
 .nil))⟩
theorem qi(hf:T[f]?=Z (lf s ft))(fv:T[ft]?=Z (cX s')){k:Nat}(hk:2<=k){p:Nat}(hn:n<=40)(hm:m<=40)(pv:p<=40)(q:∀(rs:List Tm) a M',IsTask (df n m p) rs->Ge M M'->M a=Y->M' a=Z (.lst (rs.map tmD))->Q (.tup [.int ((n*m:Nat):Int),.int ((m*p:Nat):Int),.int ((n*p:Nat):Int),.ref a]) M'):phi T k f [.int n,.int m,.int p] M Q:=by
 refine am ∅ hf rfl (ρ:=[Z _,Z _,Z _,Y]) rfl ?_
 unfold lf;have B:m*p<=40*40:=L5 hm pv;nofun;refine⟨∅,∅,?_⟩
 refine au (f:=λi=>D.int (i:Nat)) (I:=λl ρ M' acc=>(∃o0 z j,ρ=[o0,z,j,Z (.int p),Z (.int m)])/\M'=M/\acc=(l.flatMap (fU m p)).map tmD) ay ⟨⟨_,_,_,rfl⟩,rfl,rfl⟩ (λ_ _ _ _ _=>trivial) ?_ ?_
 ·rintro l a r ρ M1 acc e ⟨⟨o0,z,j,rfl⟩,rfl,rfl⟩;refine⟨_,rfl,fun N' hN=>?_⟩;have L:=ak e;rw[Kx]at L;have ha:a<n:=by
   have:a∈D1 (n:Int).toNat:=by rw[e];simp
   have:=L7.mp this;lia
  ac_nf;refine⟨∅,∅,?_⟩
  refine au (f:=λi=>D.int (i:Nat)) (I:=λl' ρ M' acc=>(∃z j,ρ=[Z (.int a),z,j,Z (.int p),Z (.int m)])/\M'=M1/\acc=((l.flatMap (fU m p))++l'.flatMap λb=>(D1 p).map (je m p a b)).map tmD) ay ⟨⟨_,_,rfl⟩,rfl,by simp⟩ (λ_ _ _ _ _=>trivial) ?_ ?_
  ·rintro l' b r' ρ M2 acc e' ⟨⟨z,j,rfl⟩,rfl,rfl⟩;refine⟨_,rfl,fun N2 O=>?_⟩;have F:=ak e';rw[Kx]at F;have hb:b<m:=by
    have:b∈D1 (m:Int).toNat:=by rw[e'];simp
    have:=L7.mp this;lia
   ac_nf;refine⟨∅,∅,?_⟩
   refine au (f:=λi=>D.int (i:Nat)) (I:=λl3 ρ M' acc=>(∃j,ρ=[Z (.int a),Z (.int b),j,Z (.int p),Z (.int m)])/\M'=M2/\acc=(((l.flatMap (fU m p))++l'.flatMap λb=>(D1 p).map (je m p a b))++l3.map (je m p a b)).map tmD) ay ⟨⟨_,rfl⟩,rfl,by simp⟩ (λ_ _ _ _ _=>trivial) ?_ ?_
   ·rintro l3 c r3 ρ M3 acc e3 ⟨⟨j,rfl⟩,rfl,rfl⟩;refine⟨_,rfl,λN3 U=>?_⟩;have G:=ak e3;rw[Kx]at G;have h1:l.length*(m*p)<=40*(40*40):=L5 ∅ B
    have h2:l'.length*p<=40*40:=L5 ∅ pv
    ac_nf;refine⟨bS ∅,bS ∅,bS ∅,by rw[z4];lia,?_,U _ _ _ ⟨⟨_,rfl⟩,rfl,?_⟩⟩
    ·rw[tv,D2,D2,lc,ef,tv,z4];lia
    ·simp[tmD,je]
   ·rintro ρ M3 acc ⟨⟨j,rfl⟩,rfl,rfl⟩;refine O _ _ _ ⟨⟨_,_,rfl⟩,rfl,?_⟩;rw[eO];simp
  ·rintro ρ M2 acc ⟨⟨z,j,rfl⟩,rfl,rfl⟩;refine hN _ _ _ ⟨⟨_,_,_,rfl⟩,rfl,?_⟩;rw[eO];simp[fU]
 ·rintro ρ M1 acc ⟨_,rfl,rfl⟩ pa hpa;have eL:((D1 (n:Int).toNat).flatMap (fU m p))=df n m p:=by rw[KL];rfl
  rw[eL];have hl:(df n m p).length<=40*(40*40):=by unfold df;rw[lc,Kx];exact L5 hn B
  nofun;refine⟨bS ∅,bS ∅,bS ∅,?_⟩
  refine fg fv ∅ (ad aa) ∅ λrs p2 M2 h1 g J e2=>?_
  have g1:=Ge.new (o:=.lst ((df n m p).map tmD)) hpa;rw[<-Qo,<-Qo,<-Qo];refine q rs p2 M2 h1 (g1.trans g) ?_ e2
  cases hq:M1 p2 with
  |none=>rfl
  |some o=>rw[g1 _ _ hq]at J;cases J
end
section
open L2.Srt
variable{T:List FD}
noncomputable def idx(l:List Int):List (Int×Int):=l.mapIdx λi x=>((i:Nat),x)
noncomputable def nz(l:List Int):List (Int×Int):=(idx l).filter λq=>!(q.2==0)
noncomputable def pD(q:Int×Int):D:=.tup [.int q.1,.int q.2]
theorem rT:(idx l).length=l.length:=by simp[idx]
theorem qj:(nz l).length<=l.length:=by unfold nz;exact LA (N5 _ _) (by rw[rT];exact Ku _)
theorem zh:fG (l.map .int)=(idx l).map pD:=by
 unfold fG idx;apply MX;intro j;simp only[Qf,KH]
 cases l[j]?<;>rfl
noncomputable def cM(i a j b:Int)(zs:List (Int×Int)):List Tm:=zs.map λz=>((z.1,i,j),a*b*z.2)
noncomputable def cN(i a:Int)(ys zs:List (Int×Int)):List Tm:=ys.flatMap λy=>cM i a y.1 y.2 zs
noncomputable def eh(xs ys zs:List (Int×Int)):List Tm:=xs.flatMap λx=>cN x.1 x.2 ys zs
noncomputable def qk(p:Pr):List Tm:=eh (nz p.1) (nz p.2.1) (nz p.2.2)
noncomputable def jf(ps:List Pr):List Tm:=ps.flatMap qk
noncomputable abbrev bd(x:Int):Prop:=-1000000000000<=x/\x<=1000000000000
theorem wJ(h:Big l):∀z∈nz l,bd z.2:=λz j=>by unfold nz at j;have j:=(LZ.mp j).1;unfold idx at j;obtain⟨i,hi,e⟩:=UQ.mp j;rw[<-e];exact h _ (RF hi)
end
section
open L2.Srt
noncomputable def S1(zs:List (Int×Int))(k:Int):Int:=(zs.map λz=>if z.1=k then z.2 else 0).sum
theorem bQ{z:Int×Int}{k:Int}:S1 (z::zs) k=(if z.1=k then z.2 else 0)+S1 zs k:=by simp[S1]
theorem rV{α:Type}{F:α->List Tm}{k:K3}:∀l:List α,cf (l.flatMap F) k=(l.map λx=>cf (F x) k).sum
 |[]=>rfl
 |x::l=>by rw[LG,bj,rV l];simp
theorem lg{i a j b k i' j':Int}:∀{zs:List (Int×Int)},cf (cM i a j b zs) (k,i',j')=if i=i'/\j=j' then a*b*S1 zs k else 0
 |[]=>by simp[cM,bO,S1]
 |z::zs=>by
  rw[show cM i a j b (z::zs)=((z.1,i,j),a*b*z.2)::cM i a j b zs from rfl,az,lg,bQ]
  by_cases h:i=i'/\j=j'
  ·obtain⟨rfl,rfl⟩:=h
   by_cases q:z.1=k
   ·subst q;simp[Px]
   ·have:¬((z.1,i,j)=(k,i,j)):=λe=>q (congrArg (·.1) e);rw[if_neg this,if_pos ⟨rfl,rfl⟩,if_pos ⟨rfl,rfl⟩,if_neg q];simp
  ·have:¬((z.1,i,j)=(k,i',j')):=λe=>h ⟨congrArg (·.2.1) e,congrArg (·.2.2) e⟩;rw[if_neg this,if_neg h,if_neg h];rfl
theorem rW{i a k i' j':Int}{zs:List (Int×Int)}:∀{ys:List (Int×Int)},cf (cN i a ys zs) (k,i',j')=if i=i' then a*S1 ys j'*S1 zs k else 0
 |[]=>by simp[cN,bO,S1]
 |y::ys=>by
  rw[show cN i a (y::ys) zs=cM i a y.1 y.2 zs++cN i a ys zs from by simp[cN],bj,rW,lg,bQ]
  by_cases h:i=i'
  ·subst h
   by_cases j:y.1=j'
   ·subst j;simp[Px,ND]
   ·rw[if_neg (λe=>j e.2),if_pos rfl,if_pos rfl,if_neg j];simp
  ·rw[if_neg (λe=>h e.1),if_neg h,if_neg h];rfl
theorem rX{k i' j':Int}{ys zs:List (Int×Int)}:∀{xs:List (Int×Int)},cf (eh xs ys zs) (k,i',j')=S1 xs i'*S1 ys j'*S1 zs k
 |[]=>by simp[eh,bO,S1]
 |x::xs=>by
  rw[show eh (x::xs) ys zs=cN x.1 x.2 ys zs++eh xs ys zs from by simp[eh],bj,rX,rW,bQ]
  by_cases h:x.1=i'
  ·subst h;simp[ND]
  ·rw[if_neg h,if_neg h];simp
noncomputable def gz(l:List Int)(i:Int):Int:=if i<0 then 0 else l.getD i.toNat 0
theorem wK(h:i<0):gz l i=0:=if_pos h
theorem wL:gz [] i=0:=by unfold gz;split<;>simp
theorem lh{x:Int}:gz (x::l) i=if i=0 then x else gz l (i-1):=by
 unfold gz
 by_cases h:i<0
 ·rw[if_pos h,if_neg ∅,if_pos ∅]
 ·rw[if_neg h]
  by_cases h0:i=0
  ·subst h0;simp
  ·rw[if_neg h0,if_neg ∅]
   obtain⟨n,rfl⟩:∃n:Nat,i=((n+1:Nat):Int):=⟨(i-1).toNat,∅⟩
   rw[show(((n+1:Nat):Int)-1).toNat=n by lia,KL]
   simp
theorem wM{a b:List Int}:∀{i:Int},gz (a++b) i=if i<a.length then gz a i else gz b (i-a.length):=by
 induction a with
 |nil=>
  intro i
  by_cases h:i<0
  ·rw[if_pos (by simpa using h),Qj,wK h,wK h]
  ·rw[if_neg (by simpa using h)];simp
 |cons x a ih=>
  intro i;rw[OX,lh,lh,ih,L4]
  by_cases h0:i=0
  ·subst h0;rw[if_pos rfl,if_pos rfl,if_pos ∅]
  ·rw[if_neg h0,if_neg h0]
   by_cases h:i<((a.length+1:Nat):Int)
   ·rw[if_pos ∅,if_pos h]
   ·rw[if_neg ∅,if_neg h]
    congr 1;lia
theorem kl(h:gz l i≠0):0<=i/\i<l.length:=by
 unfold gz at h
 by_cases hi:i<0
 ·rw[if_pos hi]at h;exact absurd rfl h
 ·rw[if_neg hi]at h;refine⟨∅,?_⟩
  by_cases hl:i.toNat<l.length
  ·lia
  ·rw[Kv,LX ∅]at h;exact absurd rfl h
theorem eP{a b:List (Int×Int)}{k:Int}:S1 (a++b) k=S1 a k+S1 b k:=by simp[S1]
theorem fV{k:Int}:∀zs:List (Int×Int),S1 (zs.filter λq=>!(q.2==0)) k=S1 zs k
 |[]=>rfl
 |z::zs=>by
  rw[bQ]
  by_cases h:z.2=0
  ·rw[LL (by simp[h]),fV zs,h];simp
  ·rw[Md (by simp[h]),bQ,fV zs]
theorem gI(l:List Int)(k:Int):S1 (idx l) k=gz l k:=dZ (P:=λl=>S1 (idx l) k=gz l k) (by rw[wL];rfl) (λl x ih=>by
 have e:idx (l++[x])=idx l++[(((l.length:Nat):Int),x)]:=by simp[idx,List.mapIdx_append]
 rw[e,eP,ih,wM,bQ];simp only[S1,Om,List.sum_nil]
 by_cases h:k<l.length
 ·rw[if_pos h,if_neg ∅];lia
 ·rw[if_neg h,lh,wL];have z:gz l k=0:=by
   cases Decidable.em (gz l k=0)with
   |inl h=>exact h
   |inr h'=>exact absurd (kl h').2 h
  rw[z]
  by_cases e:(l.length:Int)=k
  ·rw[if_pos e,if_pos ∅];lia
  ·rw[if_neg e,if_neg ∅];rfl) l
theorem BA{p:Pr}{k:Int}:cf (qk p) (k,i,j)=gz p.1 i*gz p.2.1 j*gz p.2.2 k:=by unfold qk;rw[rX];unfold nz;rw[fV,fV,fV,gI,gI,gI]
noncomputable def Tn(ps:List Pr)(k i j:Int):Int:=(ps.map λp=>gz p.1 i*gz p.2.1 j*gz p.2.2 k).sum
theorem rY{ps:List Pr}{k:Int}:cf (jf ps) (k,i,j)=Tn ps k i j:=by unfold jf Tn;rw[rV];congr 1;exact Lm λp _=>BA
theorem wN{a b:List Pr}{k:Int}:Tn (a++b) k i j=Tn a k i j+Tn b k i j:=by simp[Tn]
theorem li{p:Pr}{a:List Pr}{k:Int}:Tn (p::a) k i j=gz p.1 i*gz p.2.1 j*gz p.2.2 k+Tn a k i j:=by simp[Tn]
theorem gJ{L0 L1 L2:Nat}{k i j:Int}:∀{us:List Pr},(∀u∈us,u.1.length=L0/\u.2.1.length=L1/\u.2.2.length=L2)->Tn us k i j≠0->(0<=k/\k<L2)/\(0<=i/\i<L0)/\(0<=j/\j<L1)
 |[],_,h=>absurd (by simp[Tn]) h
 |u::us,hl,h=>by
  obtain⟨e0,e1,e2⟩:=hl u (by simp)
  rw[li]at h
  by_cases z:gz u.1 i*gz u.2.1 j*gz u.2.2 k=0
  ·rw[z,Int.zero_add]at h;exact gJ (λv q=>hl v (by simp[q])) h
  ·have a1:gz u.1 i≠0:=λe=>z (by rw[e];simp)
   have a2:gz u.2.1 j≠0:=λe=>z (by rw[e];simp)
   have B:gz u.2.2 k≠0:=λe=>z (by rw[e];simp)
   have:=kl a1;have:=kl a2;have:=kl B;lia
end
section
noncomputable abbrev K2:=Int×Int
noncomputable def k2D(k:K2):D:=.tup [.int k.1,.int k.2]
noncomputable def raD(r:K2×VH):D×D:=(k2D r.1,.ref r.2)
theorem rZ{a b:K2}(h:k2D a=k2D b):a=b:=by obtain⟨a1,a2⟩:=a;obtain⟨b1,b2⟩:=b;simp only[k2D,D.tup.injEq,Qq,D.int.injEq,and_true]at h;rw[h.1,h.2]
theorem eA{α β:Type}{f:α->β}:∀{l:List α},(l.map f).Nodup->∀{x y:α},x∈l->y∈l->f x=f y->x=y
 |[],_,x,_,hx,_,_=>by cases hx
 |z::l,h,x,y,hx,B,e=>by
  rw[Ks,Ma]at h
  rcases Km.mp hx with rfl|j<;>rcases Km.mp B with rfl|q
  ·rfl
  ·exact absurd (Ki.mpr ⟨y,q,e.symm⟩) h.1
  ·exact absurd (Ki.mpr ⟨x,j,e⟩) h.1
  ·exact eA h.2 j q e
structure RI(d:VH)(N:Nat)(M:Mem)(R:List (K2×VH))(g:K2->List Int):Prop where
 dct:M d=Z (.dct F2 (R.map raD))
 keys:(R.map (·.1)).Nodup
 ads:(R.map (·.2)).Nodup
 nd:∀r∈R,r.2≠d
 row:∀r∈R,M r.2=Z (.lst ((g r.1).map .int))
 ln:∀k,(g k).length=N
 out:∀k,k∉R.map (·.1)->g k=Kf N 0
structure Run(d:VH)(R:List (K2×VH))(M:Mem)(R':List (K2×VH))(M':Mem):Prop where
 ex:∀r∈R',r∈R∨M r.2=Y
 kp:∀b o,b≠d->b∉R.map (·.2)->M b=Z o->M' b=Z o
theorem Run.refl{R:List (K2×VH)}:Run d R M R M:=⟨λr h=>.inl h,λ_ _ _ _ e=>e⟩
theorem lj{k:K2}:∀R:List (K2×VH),dget (R.map raD) (k2D k)=(R.find? λr=>decide (r.1=k)).map λr=>.ref r.2
 |[]=>rfl
 |r::R=>by
  have ih:=lj (k:=k) R;unfold dget at ih⊢;rw[Ks,Mn,Mn]
  by_cases h:r.1=k
  ·have e:decide ((raD r).1=k2D k)=F2:=decide_eq_true (by rw[<-h];rfl)
   rw[e,decide_eq_true h];rfl
  ·have e:decide ((raD r).1=k2D k)=N3:=decide_eq_false (λz=>h (rZ z));rw[e,decide_eq_false h];exact ih
theorem s9{k:K2}{R:List (K2×VH)}(h:k∉R.map (·.1)):dget (R.map raD) (k2D k)=Y:=by
 rw[lj,QU.mpr λr j=>by intro z;exact h (Ki.mpr ⟨r,j,of_decide_eq_true z⟩)]
 rfl
theorem fj{k:K2}{R:List (K2×VH)}(h:k∈R.map (·.1)):∃a,(k,a)∈R/\dget (R.map raD) (k2D k)=Z (.ref a):=by
 cases e:R.find? λr=>decide (r.1=k)with
 |none=>obtain⟨r,j,q⟩:=Ki.mp h;exact absurd (decide_eq_true q) (QU.mp e r j)
 |some r=>
  have h1:=UP e;have h2:=QZ e;have z:r.1=k:=of_decide_eq_true h1;obtain⟨rk,ra⟩:=r
  cases z
  exact⟨ra,h2,by rw[lj,e];rfl⟩
theorem sd{k:K2}{R:List (K2×VH)}(h:k∉R.map (·.1)):eR (R.map raD) (k2D k) (.ref a)=(R++[(k,a)]).map raD:=by
 unfold eR;rw[if_neg,Ld]
 ·rfl
 ·intro z;obtain⟨x,hx,j⟩:=N9.mp z;obtain⟨r,q,rfl⟩:=Ki.mp hx;exact h (Ki.mpr ⟨r,q,rZ (of_decide_eq_true j)⟩)
theorem RI.ge{R:List (K2×VH)}{g:K2->List Int}(h:RI d N M R g)(x:Ge M M'):RI d N M' R g:=⟨x _ _ h.dct,h.keys,h.ads,h.nd,λr j=>x _ _ (h.row r j),h.ln,h.out⟩
theorem Run.trans{R R' R'':List (K2×VH)}{g g':K2->List Int}(h:Run d R M R' M')(h2:Run d R' M' R'' M'')(i:RI d N M' R' g')(sub:∀r∈R,r∈R'):Run d R M R'' M'':=by
 refine⟨λr B=>?_,λb o n m e=>?_⟩
 ·rcases h2.ex r B with j|j
  ·exact h.ex r j
  ·by_cases z:r.2∈R.map (·.2)
   ·obtain⟨r',q,e⟩:=Ki.mp z;rw[<-e,i.row r' (sub r' q)]at j;cases j
   ·refine .inr ?_
    cases e:M r.2 with
    |none=>rfl
    |some o=>
     by_cases zd:r.2=d
     ·rw[zd,i.dct]at j;cases j
     ·rw[h.kp _ _ zd z e]at j;cases j
 ·refine h2.kp b o n (λz=>?_) (h.kp b o n m e);obtain⟨r',q,e'⟩:=Ki.mp z
  rcases h.ex r' q with j|j
  ·exact m (Ki.mpr ⟨r',j,e'⟩)
  ·rw[e',e]at j;cases j
theorem RI.new{R:List (K2×VH)}{g:K2->List Int}(h:RI d N M R g){k:K2}(L:k∉R.map (·.1)){G:Mem}(ga:Ge M G)(q:M a=Y)(h1:G a=Z (.lst ((Kf N (0:Int)).map .int))):
 RI d N (af G d (.dct F2 ((R++[(k,a)]).map raD))) (R++[(k,a)]) g/\Run d R M (R++[(k,a)]) (af G d (.dct F2 ((R++[(k,a)]).map raD))):=by
 have B:a≠d:=λz=>by rw[z,h.dct]at q;cases q
 refine⟨⟨aa,?_,?_,?_,?_,h.ln,?_⟩,⟨?_,?_⟩⟩
 ·rw[Ld,OK];exact⟨h.keys,by simp,λx hx y F=>by simp at F;subst F;exactλz=>L (z▸hx)⟩
 ·rw[Ld,OK];refine⟨h.ads,by simp,λx hx y F=>?_⟩
  simp at F;subst F;intro z;obtain⟨r,j,rfl⟩:=Ki.mp hx;rw[<-z,h.row r j]at q;cases q
 ·intro r j
  rcases Kz.mp j with j|j
  ·exact h.nd r j
  ·simp at j;subst j;exact B
 ·intro r j
  rcases Kz.mp j with j|j
  ·rw[al (h.nd r j)];exact ga _ _ (h.row r j)
  ·simp at j;subst j;rw[al B,h1,h.out k L]
 ·intro k' J;exact h.out k' λz=>J (by rw[Ld];exact Lz _ z)
 ·intro r j
  rcases Kz.mp j with j|j
  ·exact .inl j
  ·simp at j;subst j;exact .inr q
 ·intro b o n m e;rw[al n];exact ga _ _ e
theorem RI.put{R:List (K2×VH)}{g:K2->List Int}(h:RI d N M R g){k:K2}(q:(k,a)∈R){row:List Int}(hl:row.length=N):
 RI d N (af M a (.lst (row.map .int))) R (λk'=>if k'=k then row else g k')/\Run d R M R (af M a (.lst (row.map .int))):=by
 refine⟨⟨?_,h.keys,h.ads,h.nd,?_,?_,?_⟩,⟨λr h=>.inl h,?_⟩⟩
 ·rw[al (λz=>h.nd _ q z.symm)];exact h.dct
 ·intro r j
  by_cases e:r=(k,a)
  ·subst e;rw[aa,if_pos rfl]
  ·have na:r.2≠a:=λz=>e (eA h.ads j q z);have nk:r.1≠k:=λz=>e (eA h.keys j q z);rw[al na,if_neg nk];exact h.row r j
 ·intro k'
  split
  ·exact hl
  ·exact h.ln k'
 ·intro k' B;rw[if_neg (λz=>B (Ki.mpr ⟨_,q,z.symm⟩))];exact h.out k' B
 ·intro b o n m e;rw[al (λz=>m (Ki.mpr ⟨_,q,z.symm⟩))];exact e
end
section
open L2.Srt
variable{T:List FD}
noncomputable def cO(s:Stmt):FD:=⟨"filled",s,["part"],1,
 (.cons (.ret (.comp [Y,Y] ["at","x"] (.last (.enum (.var 0)) (.tup (.cons (.name 0) (.cons (.name 1) .nil))) (.cons (.cmp .ne (.var 1) (.int 0)) .nil) (.tup (.cons (.var 0) (.cons (.var 1) .nil))))))
 .nil)⟩
theorem eQ(hf:T[f]?=Z (cO s))(G:1<=n){x:D}(hl:l.length<=1000000)(hx:ax M x=Z (l.map .int))(q:∀p,M p=Y->Q (.ref p) (af M p (.lst ((nz l).map pD)))):phi T n f [x] M Q:=by
 refine am ∅ hf rfl (ρ:=[Z _]) rfl ?_
 unfold cO;nofun;refine⟨_,hx,?_⟩;rw[zh];refine au (f:=pD) (ys:=idx l) (I:=λr ρ M' acc=>(∃o0 z,ρ=[o0,z])/\M'=M/\acc=(r.filter λq=>!(q.2==0)).map pD) rfl ⟨⟨_,_,rfl⟩,rfl,rfl⟩ (λ_ _ _ _ h=>by rw[h.2.1];exact hx) ?_ ?_
 ·rintro l' y r ρ M1 acc e ⟨⟨o0,z,rfl⟩,rfl,rfl⟩;refine⟨_,rfl,λN' j=>?_⟩;have B:=ak e;rw[rT]at B;have F:(l'.filter λq=>!(q.2==0)).length<=l'.length:=N5 _ _;ac_nf
  by_cases hz:y.2=0
  ·rw[if_neg (by simp[hz])]
   refine j _ _ _ ⟨⟨_,_,rfl⟩,rfl,?_⟩;rw[Ov,LL (by simp[hz])];simp
  ·rw[if_pos (by simp[hz])]
   refine⟨by rw[z4];lia,by rw[tv,z4];lia,j _ _ _ ⟨⟨_,_,rfl⟩,rfl,?_⟩⟩
   rw[Ov,Md (by simp[hz])];simp[pD]
 ·rintro ρ M1 acc ⟨⟨o0,z,rfl⟩,rfl,rfl⟩ p hp;exact q p hp
theorem wP{v:Int}{k:Nat}(j:k<l.length):gz (l.set k v) i=if i=k then v else gz l i:=by
 unfold gz
 by_cases h:i<0
 ·rw[if_pos h,if_pos h,if_neg ∅]
 ·rw[if_neg h,if_neg h,Kv,Kv]
  by_cases e:i=k
  ·subst e;rw[KL,MV j,if_pos rfl];rfl
  ·rw[NS ∅,if_neg e]
theorem wQ{k:Nat}(j:k<l.length):l[k]?=Z (gz l k):=by unfold gz;rw[if_neg ∅,KL,Kv,I7 j];rfl
theorem ql:gz (Kf n 0) i=0:=by
 unfold gz
 split
 ·rfl
 ·rw[Kv]
  cases e:(Kf n (0:Int))[i.toNat]? with
  |none=>rfl
  |some x=>exact List.eq_of_mem_replicate (KU e)
noncomputable def ug:MSs:=.cons (.augI (.var 15) (.var 17) .add (.bin .mul (.var 18) (.var 16))) .nil
theorem EX{v3 v5 v10 v11 L O B:Option D}{pr:Int}{row:List Int}(pv:M po=Z (.lst (zs.map pD)))(HY:po≠a)(ha:M a=Z (.lst (row.map .int)))(hl:row.length=N)(hz:∀z∈zs,0<=z.1/\z.1<N/\bd z.2)(q:∀row' B G,row'.length=N->(∀k,gz row' k=gz row k+pr*S1 zs k)->E.nx [v0,v1,v2,v3,v4,v5,v6,v7,v8,Z (.ref po),v10,v11,J,L,O,Z (.ref a),Z (.int pr),B,G] (af M a (.lst (row'.map .int)))):
 wSs Φ (.cons (.for (.tup (.cons (.name 17) (.cons (.name 18) .nil))) (.seq (.var 9)) ug) .nil) E [v0,v1,v2,v3,v4,v5,v6,v7,v8,Z (.ref po),v10,v11,J,L,O,Z (.ref a),Z (.int pr),B,G] M:=by
 nofun;refine⟨_,ad pv,?_⟩;refine aO (f:=pD) (ys:=zs) (I:=λl ρ M'=>∃B G row',ρ=[v0,v1,v2,v3,v4,v5,v6,v7,v8,Z (.ref po),v10,v11,J,L,O,Z (.ref a),Z (.int pr),B,G]/\M'=af M a (.lst (row'.map .int))/\row'.length=N/\∀k,gz row' k=gz row k+pr*S1 l k) rfl ⟨_,_,row,rfl,(ww ha).symm,hl,λk=>by simp[S1]⟩ (λl ρ M' ⟨_,_,_,_,e,_⟩=>by rw[e];exact ad (by rw[al HY];exact pv)) ?_ ?_
 ·rintro l z r ρ M1 e ⟨B,G,row',rfl,rfl,U,hg⟩;refine⟨_,rfl,λF hF=>?_⟩;obtain⟨z0,z1,z2⟩:=hz z (by rw[e];simp)
  obtain⟨kn,ek⟩:∃k:Nat,z.1=k:=⟨z.1.toNat,∅⟩
  have fv:kn<row'.length:=∅
  unfold ug;rw[aX];ac_nf;refine⟨a,_,_,.int (gz row' kn),rfl,rfl,aa,?_,?_⟩
  ·rw[ek];refine dJ ?_;rw[KH,wQ fv];rfl
  ac_nf;refine⟨bS (by unfold bd at z2;lia),?_⟩
  rw[ek];refine aN aa (j:=kn) ?_ ?_
  ·unfold ixN;rw[tv,if_pos ∅,if_pos ∅];simp
  rw[wv];refine hF _ _ ⟨_,_,row'.set kn (gz row' kn+z.2*pr),rfl,by rw[Ow],by rw[Ox];exact U,λk=>?_⟩
  rw[wP fv,eP,bQ,show S1 [] k=0 from rfl,QC,ek,Px,<-Tc,<-hg]
  by_cases ekk:k=kn
  ·rw[if_pos ekk,if_pos ekk.symm,ekk,S9]
  ·rw[if_neg ekk,if_neg (λh=>ekk h.symm)];lia
 ·rintro ρ M1 ⟨B,G,row',rfl,rfl,U,hg⟩;dsimp only;ac_nf;exact q row' _ _ U hg
theorem Run.keep{R R':List (K2×VH)}{g:K2->List Int}(h:Run d R M R' M')(i:RI d N M R g)(e:M a=Z (.lst ds))(j:a∉R.map (·.2)):M' a=Z (.lst ds):=h.kp a _ (λz=>by rw[z,i.dct]at e;cases e) j e
noncomputable def uh:MSs:=(.cons (.ite (.cmp .ninD (.tup (.cons (.var 11) (.cons (.var 13) .nil))) (.var 5)) (.cons (.put (.var 5) (.tup (.cons (.var 11) (.cons (.var 13) .nil))) (.bin .mul (.lst (.cons (.int 0) .nil)) (.var 3)))
 .nil) .nil)
 (.cons (.par 15 16 (.ix (.var 5) (.tup (.cons (.var 11) (.cons (.var 13) .nil)))) (.bin .mul (.var 12) (.var 14)))
 (.cons (.for (.tup (.cons (.name 17) (.cons (.name 18) .nil))) (.seq (.var 9)) ug)
 .nil)))
theorem iq{R R':List (K2×VH)}{g:K2->List Int}(h:Run d R M R' M')(i:RI d N M R g)(e:M a=Z o)(j:a∉R.map (·.2)):a∉R'.map (·.2):=λz=>by
 obtain⟨r,q,rfl⟩:=Ki.mp z
 rcases h.ex r q with h1|h1
 ·exact j (Ki.mpr ⟨r,h1,rfl⟩)
 ·rw[h1]at e;cases e
theorem G2{v10 B F:Option D}{x y:Int}{R:List (K2×VH)}{g:K2->List Int}(hN:N<=1000)(I:RI d N M R g)(U:M po=Z (.lst (zs.map pD)))(pv:po∉R.map (·.2))(hl:R.length<=1000000)(hx:bd x)(hz:∀z∈zs,0<=z.1/\z.1<N/\bd z.2)(q:∀M' R' g' G J B F,RI d N M' R' g'->Run d R M R' M'->(∀r∈R,r∈R')->R'.length<=R.length+1->(∀k i' j',gz (g' (i',j')) k=gz (g (i',j')) k+if i'=i/\j'=j then x*y*S1 zs k else 0)->E.nx [v0,v1,v2,Z (.int N),v4,Z (.ref d),v6,v7,v8,Z (.ref po),v10,Z (.int i),Z (.int x),Z (.int j),Z (.int y),G,J,B,F] M'):
 wSs Φ uh E [v0,v1,v2,Z (.int N),v4,Z (.ref d),v6,v7,v8,Z (.ref po),v10,Z (.int i),Z (.int x),Z (.int j),Z (.int y),G,J,B,F] M:=by
 unfold uh;have ek:D.tup [D.int i,D.int j]=k2D (i,j):=rfl;refine bv (I:=λρ M'=>ρ=[v0,v1,v2,Z (.int N),v4,Z (.ref d),v6,v7,v8,Z (.ref po),v10,Z (.int i),Z (.int x),Z (.int j),Z (.int y),G,J,B,F]/\∃R',RI d N M' R' g/\Run d R M R' M'/\(∀r∈R,r∈R')/\R'.length<=R.length+1/\(i,j)∈R'.map (·.1)) (λRR hR=>?_) (λρ M1 h=>?_)
 ·ac_nf;refine⟨by rw[z4];lia,d,F2,_,rfl,.inl I.dct,rfl,?_⟩
  ac_nf;rw[ek]
  by_cases L:(i,j)∈R.map (·.1)
  ·obtain⟨a,ha,e⟩:=fj L;rw[e];ac_nf;exact hR _ _ ⟨rfl,R,I,Run.refl,λr h=>h,∅,L⟩
  ·rw[s9 L];ac_nf;rw[aX];ac_nf;refine⟨by rw[z4];lia,λp1 I0=>?_⟩
   have g1:=Ge.new (o:=.lst [.int 0]) I0;refine⟨_,aa,∅,∅,by rw[z4];simp;lia,λp2 O=>?_⟩
   have g2:=g1.trans (Ge.new (o:=.lst (Kf (N:Int).toNat [D.int 0]).flatten) O);have fv:M p2=Y:=by
    cases hq:M p2 with
    |none=>rfl
    |some o=>rw[g1 _ _ hq]at O;cases O
   have e2:af (af M p1 (.lst [.int 0])) p2 (.lst (Kf (N:Int).toNat [D.int 0]).flatten) p2=Z (.lst ((Kf N (0:Int)).map .int)):=by rw[aa,gG];simp
   generalize af (af M p1 (.lst [.int 0])) p2 (.lst (Kf (N:Int).toNat [D.int 0]).flatten)=M2 at g2 e2;refine⟨by rw[z4];lia,ja (g2 _ _ I.dct) rfl (by rw[tv,z4];lia) ?_⟩
   rw[ek,sd L];obtain⟨I2,r2⟩:=I.new L g2 fv e2;exact hR _ _ ⟨rfl,_,I2,r2,λr h=>Lz _ h,by simp,by simp⟩
 ·obtain⟨rfl,R',I1,r1,sub,I8,L⟩:=h;obtain⟨a,ha,e⟩:=fj L;nofun;refine⟨by rw[z4];lia,?_⟩
  rw[ek];refine pT I1.dct rfl e ?_;ac_nf;refine⟨bS (by unfold bd at hx;lia),?_⟩
  have HY:=r1.keep I U pv;have HZ:=iq r1 I U pv;refine EX (pr:=x*y) HY (λz=>HZ (Ki.mpr ⟨_,ha,z.symm⟩)) (I1.row _ ha) (I1.ln _) hz λrow' B F I9 hg=>?_;obtain⟨I2,r2⟩:=I1.put ha I9;refine q _ _ _ _ _ _ _ I2 (r1.trans (g:=g) r2 I1 sub) sub I8 λk i' j'=>?_
  by_cases h:i'=i/\j'=j
  ·obtain⟨rfl,rfl⟩:=h;rw[if_pos rfl,if_pos ⟨rfl,rfl⟩];exact hg k
  ·rw[if_neg (λz=>h ⟨congrArg (·.1) z,congrArg (·.2) z⟩),if_neg h,QC]
noncomputable def ui:MSs:=.cons (.for (.tup (.cons (.name 13) (.cons (.name 14) .nil))) (.seq (.var 10)) uh) .nil
theorem G3{O U B L:Option D}{pr:VH}{x:Int}{R:List (K2×VH)}{g:K2->List Int}{ys:List (Int×Int)}(hN:N<=1000)(I:RI d N M R g)(fv:M po=Z (.lst (zs.map pD)))(HY:po∉R.map (·.2))(HZ:M pr=Z (.lst (ys.map pD)))(I9:pr∉R.map (·.2))(hl:R.length+ys.length<=1000000)(hx:bd x)(hz:∀z∈zs,0<=z.1/\z.1<N/\bd z.2)(q:∀M' R' g' O U B G J L,RI d N M' R' g'->Run d R M R' M'->(∀r∈R,r∈R')->R'.length<=R.length+ys.length->(∀k i' j',gz (g' (i',j')) k=gz (g (i',j')) k+if i=i' then x*S1 ys j'*S1 zs k else 0)->E.nx [v0,v1,v2,Z (.int N),v4,Z (.ref d),v6,v7,v8,Z (.ref po),Z (.ref pr),Z (.int i),Z (.int x),O,U,B,G,J,L] M'):
 wSs Φ ui E [v0,v1,v2,Z (.int N),v4,Z (.ref d),v6,v7,v8,Z (.ref po),Z (.ref pr),Z (.int i),Z (.int x),O,U,B,G,J,L] M:=by
 unfold ui;nofun;refine⟨_,ad HZ,?_⟩;refine aO (f:=pD) (ys:=ys) (I:=λl ρ M'=>∃R' g' O U B G J L,ρ=[v0,v1,v2,Z (.int N),v4,Z (.ref d),v6,v7,v8,Z (.ref po),Z (.ref pr),Z (.int i),Z (.int x),O,U,B,G,J,L]/\RI d N M' R' g'/\Run d R M R' M'/\(∀r∈R,r∈R')/\R'.length<=R.length+l.length/\∀k i' j',gz (g' (i',j')) k=gz (g (i',j')) k+if i=i' then x*S1 l j'*S1 zs k else 0) rfl ⟨R,g,_,_,_,_,_,_,rfl,I,Run.refl,λr h=>h,by simp,λk i' j'=>by simp[S1]⟩ (λl ρ M' ⟨_,_,_,_,_,_,_,_,_,_,pv,_⟩=>ad (pv.keep I HZ I9)) ?_ ?_
 ·rintro l y r ρ M1 e ⟨R1,g1,O,U,B,G,J,L,rfl,I1,pv,sub,I0,hg⟩;refine⟨_,rfl,λF hF=>?_⟩;have Ib:=ak e;refine G2 (j:=y.1) (y:=y.2) hN I1 (pv.keep I fv HY) (iq pv I fv HY) ∅ hx hz λM2 R2 g2 B G J L I2 r2 I8 Ic Ia=>hF _ _ ⟨R2,g2,_,_,_,_,_,_,rfl,I2,pv.trans (g:=g) r2 I1 sub,λr h=>I8 r (sub r h),by simp;lia,λk i' j'=>?_⟩
  rw[Ia,hg,eP,bQ,show S1 [] j'=0 from rfl,QC,Tc];congr 1
  by_cases hi:i=i'
  ·subst hi
   by_cases hj:y.1=j'
   ·subst hj;simp[Px,ND]
   ·rw[if_pos rfl,if_neg (λz=>hj z.2.symm),if_pos rfl,if_neg hj];simp
  ·rw[if_neg hi,if_neg (λz=>hi z.1.symm),if_neg hi];rfl
 ·rintro ρ M1 ⟨R1,g1,O,U,B,G,J,L,rfl,I1,pv,sub,I0,hg⟩;dsimp only;ac_nf;exact q _ _ _ _ _ _ _ _ _ I1 pv sub I0 hg
theorem G4{U pv j B L O:Option D}{pr pl:VH}{R:List (K2×VH)}{g:K2->List Int}{xs ys:List (Int×Int)}(hN:N<=1000)(I:RI d N M R g)(HY:M po=Z (.lst (zs.map pD)))(HZ:po∉R.map (·.2))(I0:M pr=Z (.lst (ys.map pD)))(I8:pr∉R.map (·.2))(Ib:M pl=Z (.lst (xs.map pD)))(Ic:pl∉R.map (·.2))(hl:R.length+xs.length*ys.length<=1000000)(hx:∀z∈xs,bd z.2)(hz:∀z∈zs,0<=z.1/\z.1<N/\bd z.2)(q:∀M' R' g' U pv j B G J L O,RI d N M' R' g'->Run d R M R' M'->(∀r∈R,r∈R')->R'.length<=R.length+xs.length*ys.length->(∀k i' j',gz (g' (i',j')) k=gz (g (i',j')) k+S1 xs i'*S1 ys j'*S1 zs k)->E.nx [v0,v1,v2,Z (.int N),v4,Z (.ref d),v6,v7,v8,Z (.ref po),Z (.ref pr),U,pv,j,B,G,J,L,O] M'):
 bA (oU (bw (br 11) (bw (br 12) fE))) (wSs Φ ui) (λM=>ax M (.ref pl)=Z (xs.map pD)) E (xs.map pD) [v0,v1,v2,Z (.int N),v4,Z (.ref d),v6,v7,v8,Z (.ref po),Z (.ref pr),U,pv,j,B,G,J,L,O] M:=by
 refine aO (f:=pD) (ys:=xs) (I:=λl ρ M'=>∃R' g' U pv j B G J L O,ρ=[v0,v1,v2,Z (.int N),v4,Z (.ref d),v6,v7,v8,Z (.ref po),Z (.ref pr),U,pv,j,B,G,J,L,O]/\RI d N M' R' g'/\Run d R M R' M'/\(∀r∈R,r∈R')/\R'.length<=R.length+l.length*ys.length/\∀k i' j',gz (g' (i',j')) k=gz (g (i',j')) k+S1 l i'*S1 ys j'*S1 zs k) rfl ⟨R,g,_,_,_,_,_,_,_,_,rfl,I,Run.refl,λr h=>h,by simp,λk i' j'=>by simp[S1]⟩ (λl ρ M' ⟨_,_,_,_,_,_,_,_,_,_,_,_,fv,_⟩=>ad (fv.keep I Ib Ic)) ?_ ?_
 ·rintro l x r ρ M1 e ⟨R1,g1,U,pv,j,B,G,J,L,O,rfl,I1,fv,sub,I9,hg⟩;refine⟨_,rfl,λF hF=>?_⟩;have Id:=ak e;have hm:(l.length+1)*ys.length<=xs.length*ys.length:=NX _ Id;rw[Mr]at hm;refine G3 (i:=x.1) (x:=x.2) hN I1 (fv.keep I HY HZ) (iq fv I HY HZ) (fv.keep I I0 I8) (iq fv I I0 I8) ∅ (hx x (by rw[e];simp)) hz λM2 R2 g2 j B G J L O I2 r2 Ia Ig Ie=>hF _ _ ⟨R2,g2,_,_,_,_,_,_,_,_,rfl,I2,fv.trans (g:=g) r2 I1 sub,λr h=>Ia r (sub r h),by rw[D2,LJ,Mr];lia,λk i' j'=>?_⟩
  rw[Ie,hg,eP,bQ,show S1 [] i'=0 from rfl,QC,Tc,ND,ND];congr 2
  by_cases hi:x.1=i'
  ·rw[if_pos hi,if_pos hi]
  ·rw[if_neg hi,if_neg hi];simp
 ·rintro ρ M1 ⟨R1,g1,U,pv,j,B,G,J,L,O,rfl,I1,fv,sub,I9,hg⟩;exact q _ _ _ _ _ _ _ _ _ _ _ I1 fv sub I9 hg
noncomputable def gK(s:Stmt)(ff:Nat):FD:=⟨"rows_by_pairs",s,["scheme","left","right","many","products","rows","l","r","o","outs","rights","i","x","j","y","row","product","k","c"],1,
 (.cons (.asg (.tup (.cons (.name 1) (.cons (.name 2) (.cons (.name 3) (.cons (.name 4) .nil))))) (.var 0))
 (.cons (.asg (.name 5) (.dnew F2))
 (.cons (.for (.tup (.cons (.name 6) (.cons (.name 7) (.cons (.name 8) .nil)))) (.seq (.var 4)) (.cons (.par 9 10 (.call ff (.cons (.var 8) .nil)) (.call ff (.cons (.var 7) .nil)))
 (.cons (.for (.tup (.cons (.name 11) (.cons (.name 12) .nil))) (.seq (.call ff (.cons (.var 6) .nil))) (.cons (.for (.tup (.cons (.name 13) (.cons (.name 14) .nil))) (.seq (.var 10)) (.cons (.ite (.cmp .ninD (.tup (.cons (.var 11) (.cons (.var 13) .nil))) (.var 5)) (.cons (.put (.var 5) (.tup (.cons (.var 11) (.cons (.var 13) .nil))) (.bin .mul (.lst (.cons (.int 0) .nil)) (.var 3)))
 .nil) .nil)
 (.cons (.par 15 16 (.ix (.var 5) (.tup (.cons (.var 11) (.cons (.var 13) .nil)))) (.bin .mul (.var 12) (.var 14)))
 (.cons (.for (.tup (.cons (.name 17) (.cons (.name 18) .nil))) (.seq (.var 9)) (.cons (.augI (.var 15) (.var 17) .add (.bin .mul (.var 18) (.var 16)))
 .nil))
 .nil))))
 .nil))
 .nil)))
 (.cons (.ret (.var 5))
 .nil))))⟩
theorem EY(h:Big l)(hl:l.length=N):∀z∈nz l,0<=z.1/\z.1<N/\bd z.2:=λz j=>by have hb:=wJ h z j;unfold nz at j;have j:=(LZ.mp j).1;unfold idx at j;obtain⟨i,hi,e⟩:=UQ.mp j;refine⟨?_,?_,hb⟩<;>rw[<-e]<;>dsimp only<;>lia
theorem km{k:Int}:S1 (nz l) k=gz l k:=by unfold nz;rw[fV,gI]
structure Pf(L0 L1 L2:Nat)(p:Pr):Prop where
 b1:Big p.1
 b2:Big p.2.1
 b3:Big p.2.2
 l1:p.1.length=L0
 l2:p.2.1.length=L1
 l3:p.2.2.length=L2
theorem zi(hf:T[f]?=Z (gK s ff))(HZ:T[ff]?=Z (cO sf))(hn:2<=n){x1:D}{B:Nat}{p:VH}{ps:List Pr}(hp:M p=Z (.lst (ps.map prD)))(hN:N<=1000)(h0:L0<=1000)(h1:L1<=1000)(hB:ps.length*B<=1000000)(hF:∀p∈ps,Pf L0 L1 N p)(hZ:∀p∈ps,(nz p.1).length*(nz p.2.1).length<=B)(q:∀d M' R g,RI d N M' R g->Ge M M'->M d=Y->(∀r∈R,M r.2=Y)->R.length<=ps.length*B->(∀k i j,gz (g (i,j)) k=Tn ps k i j)->Q (.ref d) M'):phi T n f [.tup [x0,x1,.int N,.ref p]] M Q:=by
 refine am ∅ hf rfl (ρ:=[Z _,Y,Y,Y,Y,Y,Y,Y,Y,Y,Y,Y,Y,Y,Y,Y,Y,Y,Y]) rfl ?_
 unfold gK;nofun;nofun;intro d hd;have g0:=Ge.new (o:=.dct F2 []) hd;have d0:=aa (M:=M) (a:=d) (o:=.dct F2 []);generalize af M d (.dct F2 [])=M0 at g0 d0⊢;nofun;refine⟨_,ad (g0 _ _ hp),?_⟩;have Ik:p≠d:=λz=>by rw[z,hd]at hp;cases hp
 refine aO (f:=prD) (ys:=ps) (I:=λl ρ M'=>∃R g o6 o7 o8 o9 I0 G J L O U pv fv HY,ρ=[Z (.tup [x0,x1,.int N,.ref p]),Z x0,Z x1,Z (.int N),Z (.ref p),Z (.ref d),o6,o7,o8,o9,I0,G,J,L,O,U,pv,fv,HY]/\Ge M M'/\RI d N M' R g/\(∀r∈R,M r.2=Y)/\R.length<=l.length*B/\∀k i j,gz (g (i,j)) k=Tn l k i j) rfl ⟨[],λ_=>Kf N 0,_,_,_,_,_,_,_,_,_,_,_,_,_,rfl,g0,⟨d0,by simp,by simp,by simp,by simp,by simp,λ_ _=>rfl⟩,by simp,by simp,λk i j=>by rw[ql];simp[Tn]⟩ (λl ρ M' ⟨_,_,_,_,_,_,_,_,_,_,_,_,_,_,_,_,g,_⟩=>ad (g _ _ hp)) ?_ ?_
 ·rintro l x r ρ M1 e ⟨R,g,o6,o7,o8,o9,I0,G,J,L,O,U,pv,fv,HY,rfl,g1,I1,fr,Ib,hg⟩;refine⟨_,rfl,λF Ic=>?_⟩;have hx:=hF x (by rw[e];simp)
  have Id:=ak e;have hm:(l.length+1)*B<=ps.length*B:=NX _ Id;rw[Mr]at hm;have Il:=hZ x (by rw[e];simp)
  have nr:∀{M2:Mem} {a:VH},Ge M1 M2->M2 a=Y->a∉R.map (·.2):=λ{M2 a} g2 ha z=>by obtain⟨r,hr,rfl⟩:=Ki.mp z;rw[g2 _ _ (I1.row r hr)]at ha;cases ha
  nofun;refine eQ HZ ∅ (l:=x.2.2) (by have:=hx.l3;lia) rfl λpo I8=>?_
  have Ie:=nr Ge.refl I8;have g2:Ge M1 _:=Ge.new (o:=.lst ((nz x.2.2).map pD)) I8;have eo:=aa (M:=M1) (a:=po) (o:=.lst ((nz x.2.2).map pD));generalize af M1 po (.lst ((nz x.2.2).map pD))=M2 at eo g2⊢;ac_nf;refine eQ HZ ∅ (l:=x.2.1) (by have:=hx.l2;lia) rfl λpr I9=>?_
  have Ig:=nr g2 I9;have gr:=Ge.new (o:=.lst ((nz x.2.1).map pD)) I9;have er:=aa (M:=M2) (a:=pr) (o:=.lst ((nz x.2.1).map pD));have eo:=gr _ _ eo;have g3:=g2.trans gr;generalize af M2 pr (.lst ((nz x.2.1).map pD))=M3 at eo er g3⊢;clear g2 gr I8 I9;ac_nf;nofun;refine eQ HZ ∅ (l:=x.1) (by have:=hx.l1;lia) rfl λpl Ia=>?_
  have Ih:=nr g3 Ia;have gl:=Ge.new (o:=.lst ((nz x.1).map pD)) Ia;have el:=aa (M:=M3) (a:=pl) (o:=.lst ((nz x.1).map pD));have eo:=gl _ _ eo;have er:=gl _ _ er;have g4:=g3.trans gl;generalize af M3 pl (.lst ((nz x.1).map pD))=M4 at eo er el g4⊢;clear g3 gl Ia;refine⟨_,ad el,?_⟩;refine G4 hN (I1.ge g4) eo Ie er Ig el Ih ∅ (wJ hx.b1) (EY hx.b3 hx.l3) λM5 R5 g5 G J L O U pv fv HY I5 r5 sub Im Ii=>?_
  ac_nf;refine Ic _ _ ⟨R5,g5,_,_,_,_,_,_,_,_,_,_,_,_,_,rfl,λa o ea=>?_,I5,λr hr=>?_,?_,λk i j=>?_⟩
  ·refine r5.kp a o (λz=>by rw[z,hd]at ea;cases ea) (λz=>?_) (g4 _ _ (g1 _ _ ea))
   obtain⟨r',Ij,rfl⟩:=Ki.mp z;rw[fr r' Ij]at ea;cases ea
  ·rcases r5.ex r hr with h|h
   ·exact fr r h
   ·cases ea:M r.2 with
    |none=>rfl
    |some o=>rw[g4 _ _ (g1 _ _ ea)]at h;cases h
  ·rw[D2,LJ,Mr];lia
  ·rw[Ii,hg,km,km,km,wN];simp[Tn]
 ·rintro ρ M1 ⟨R,g,o6,o7,o8,o9,I0,G,J,L,O,U,pv,fv,HY,rfl,g1,I1,fr,Ib,hg⟩;dsimp only;nofun;exact q d M1 R g I1 g1 hd fr Ib hg
theorem DC{p:Pr}(h:Pf L0 L1 N p):(nz p.1).length*(nz p.2.1).length<=L0*L1:=by have a1:=qj (l:=p.1);have a2:=qj (l:=p.2.1);rw[h.l1]at a1;rw[h.l2]at a2;exact L5 a1 a2
end
section
open L2.Srt
variable{T:List FD}
noncomputable def tr1(k:K2)(zs:List (Int×Int)):List Tm:=zs.map λz=>((z.1,k.1,k.2),z.2)
noncomputable def trk(g:K2->List Int)(r:K2×VH):List Tm:=tr1 r.1 (nz (g r.1))
theorem BC{k:K2}:tr1 k zs=cM k.1 1 k.2 1 zs:=by unfold tr1 cM;exact Lm λz _=>by rw[Int.one_mul,Int.one_mul]
theorem wR{g:K2->List Int}{k i j:Int}:∀{R:List (K2×VH)},(R.map (·.1)).Nodup->cf (R.flatMap (trk g)) (k,i,j)=if(i,j)∈R.map (·.1)then gz (g (i,j)) k else 0
 |[],_=>by simp[bO]
 |r::R,h=>by
  rw[Ks,Ma]at h;rw[LG,bj,wR h.2];unfold trk;rw[BC,lg,km,Ks]
  by_cases e:r.1=(i,j)
  ·have e1:r.1.1=i:=by rw[e]
   have e2:r.1.2=j:=by rw[e]
   rw[if_pos ⟨e1,e2⟩,if_neg (by rw[<-e];exact h.1),if_pos (by rw[e];simp),e];simp
  ·rw[if_neg (λz=>e (QJ z.1 z.2))]
   by_cases m:(i,j)∈R.map (·.1)
   ·rw[if_pos m,if_pos (KQ _ m)];simp
   ·rw[if_neg m,if_neg (fun z=>by
     rcases Km.mp z with z|z
     ·exact e z.symm
     ·exact m z)];rfl
theorem ll{g:K2->List Int}{N:Nat}(h:∀k,(g k).length=N):∀{R:List (K2×VH)},(R.flatMap (trk g)).length<=R.length*N
 |[]=>by simp
 |r::R=>by
  rw[LG,D2,L4,Mr];have h1:=ll h (R:=R);have h2:=qj (l:=g r.1);rw[h]at h2;have j:(trk g r).length=(nz (g r.1)).length:=by simp[trk,tr1]
  lia
noncomputable def fW(s:Stmt)(ft ff fr:Nat):FD:=⟨"task_by",s,["scheme","left","right","many","products","rows"],1,
 (.cons (.asg (.tup (.cons (.name 1) (.cons (.name 2) (.cons (.name 3) (.cons (.name 4) .nil))))) (.var 0))
 (.cons (.asg (.name 5) (.call fr (.cons (.var 0) .nil)))
 (.cons (.frz 5 (.ret (.call ft (.cons (.var 1) (.cons (.var 2) (.cons (.var 3) (.cons (.comp [Y,Y,Y,Y,Y] ["i","j","row","k","c"] (.more (.items (.var 5)) (.tup (.cons (.tup (.cons (.name 0) (.cons (.name 1) .nil))) (.cons (.name 2) .nil))) .nil (.last (.seq (.call ff (.cons (.var 2) .nil))) (.tup (.cons (.name 3) (.cons (.name 4) .nil))) .nil (.tup (.cons (.var 3) (.cons (.var 0) (.cons (.var 1) (.cons (.var 4) .nil)))))))) .nil)))))))
 .nil)))⟩
theorem qU{fr:Nat}{sk sr:Stmt}(hf:T[f]?=Z (fW s ft ff fr))(HY:T[ft]?=Z (cX sk))(L:T[ff]?=Z (cO sf))(HZ:T[fr]?=Z (gK sr ff))(hn:3<=n){x1:D}{B:Nat}{p:VH}{ps:List Pr}(hp:M p=Z (.lst (ps.map prD)))(hN:N<=1000)(h0:L0<=1000)(h1:L1<=1000)(hB:ps.length*B*N<=100000)(Ia:ps.length*B<=100000)(hF:∀p∈ps,Pf L0 L1 N p)(hZ:∀p∈ps,(nz p.1).length*(nz p.2.1).length<=B)(q:∀(ts rs:List Tm) p' M',IsTask ts rs->(∀k i j,cf ts (k,i,j)=Tn ps k i j)->Ge M M'->M p'=Y->M' p'=Z (.lst (rs.map tmD))->Q (.tup [x0,x1,.int N,.ref p']) M'):phi T n f [.tup [x0,x1,.int N,.ref p]] M Q:=by
 refine am ∅ hf rfl (ρ:=[Z _,Y,Y,Y,Y,Y]) rfl ?_
 unfold fW;nofun;nofun;refine zi HZ L ∅ hp hN h0 h1 ∅ hF hZ λd fv R g I g1 hd fr hl hg=>?_
 nofun;refine Bi rfl I.dct ?_;have fd:=aa (M:=fv) (a:=d) (o:=.fdc (R.map raD));have g2:Ge M (af fv d (.fdc (R.map raD))):=g1.upd hd;have F:∀r∈R,af fv d (.fdc (R.map raD)) r.2=Z (.lst ((g r.1).map .int)):=λr hr=>by rw[al (I.nd r hr)];exact I.row r hr
 generalize af fv d (.fdc (R.map raD))=M2 at fd g2 F⊢;have hlen:=ll I.ln (R:=R);have Ib:R.length*N<=ps.length*B*N:=NX _ hl;ac_nf;refine⟨_,fd,?_⟩;refine au (f:=λr:K2×VH=>kvD (raD r)) (ys:=R) (I:=λl ρ M' acc=>(∃o0 o1 o2 G J,ρ=[o0,o1,o2,G,J])/\Ge M2 M'/\acc=(l.flatMap (trk g)).map tmD) (by rw[Ms];rfl) ⟨⟨_,_,_,_,_,rfl⟩,Ge.refl,rfl⟩ (λ_ _ _ _ _=>trivial) ?_ ?_
 ·rintro l r rr ρ O acc e ⟨⟨o0,o1,o2,G,J,rfl⟩,g3,rfl⟩;refine⟨_,rfl,λN' I0=>?_⟩;have hr:r∈R:=by rw[e];simp
  have Ic:=ll I.ln (R:=l);have Id:(l.flatMap (trk g)).length+(nz (g r.1)).length<=(R.flatMap (trk g)).length:=by
   rw[e,Nv,LG,D2,D2];have:(trk g r).length=(nz (g r.1)).length:=by simp[trk,tr1]
   lia
  ac_nf;refine eQ L ∅ (l:=g r.1) (by rw[I.ln];lia) (ad (g3 _ _ (F r hr))) λpz I8=>?_
  have U:=g3.trans (Ge.new (o:=.lst ((nz (g r.1)).map pD)) I8);have ez:=aa (M:=O) (a:=pz) (o:=.lst ((nz (g r.1)).map pD));generalize af O pz (.lst ((nz (g r.1)).map pD))=M4 at U ez⊢;ac_nf;refine⟨_,ad ez,?_⟩;refine au (f:=pD) (ys:=nz (g r.1)) (I:=λzs ρ M' acc=>(∃G J,ρ=[Z (.int r.1.1),Z (.int r.1.2),Z (.ref r.2),G,J])/\M'=M4/\acc=(l.flatMap (trk g)).map tmD++(tr1 r.1 zs).map tmD) rfl ⟨⟨_,_,rfl⟩,rfl,by simp[tr1]⟩ (λ_ _ _ _ h=>by rw[h.2.1];exact ad ez) ?_ ?_
  ·rintro zs z r' ρ M5 acc e' ⟨⟨G,J,rfl⟩,rfl,rfl⟩;refine⟨_,rfl,λN2 I9=>?_⟩;have Ie:=ak e';have Ig:(tr1 r.1 zs).length=zs.length:=by simp[tr1]
   ac_nf;refine⟨by rw[z4];lia,by rw[D2,tv,tv,z4];lia,I9 _ _ _ ⟨⟨_,_,rfl⟩,rfl,?_⟩⟩
   simp[tr1,tmD]
  ·rintro ρ M5 acc ⟨⟨G,J,rfl⟩,rfl,rfl⟩;exact I0 _ _ _ ⟨⟨_,_,_,_,_,rfl⟩,U,by rw[Nv];simp[trk]⟩
 ·rintro ρ O acc ⟨⟨o0,o1,o2,G,J,rfl⟩,g3,rfl⟩ pt hpt;have U:=g3.trans (Ge.new (o:=.lst ((R.flatMap (trk g)).map tmD)) hpt);have et:=aa (M:=O) (a:=pt) (o:=.lst ((R.flatMap (trk g)).map tmD));generalize af O pt (.lst ((R.flatMap (trk g)).map tmD))=M4 at U et⊢;ac_nf;refine fg HY ∅ (ad et) ∅ λrs p' M' hT gT pv eT=>?_
  have gM:=g2.trans U;refine q _ rs p' M' hT (λk i j=>?_) (gM.trans gT) ?_ eT
  ·rw[wR I.keys]
   by_cases m:(i,j)∈R.map (·.1)
   ·rw[if_pos m];exact hg k i j
   ·rw[if_neg m,<-hg,I.out _ m,ql]
  ·cases hq:M p' with
   |none=>rfl
   |some o=>rw[gM _ _ hq]at pv;cases pv
theorem uj{fr:Nat}{sk sr:Stmt}(hf:T[f]?=Z (fW s ft ff fr))(z:T[ft]?=Z (cX sk))(B:T[ff]?=Z (cO sf))(F:T[fr]?=Z (gK sr ff))(L:3<=n){J:D}{p:VH}{ps:List Pr}(O:M p=Z (.lst (ps.map prD)))(U:N<=1000)(h0:L0<=1000)(h1:L1<=1000)(pv:ps.length*(L0*L1)*N<=100000)(G:ps.length*(L0*L1)<=100000)(hF:∀p∈ps,Pf L0 L1 N p)(q:∀(ts rs:List Tm) p' M',IsTask ts rs->(∀k i j,cf ts (k,i,j)=Tn ps k i j)->Ge M M'->M p'=Y->M' p'=Z (.lst (rs.map tmD))->Q (.tup [x0,J,.int N,.ref p']) M'):phi T n f [.tup [x0,J,.int N,.ref p]] M Q:=qU hf z B F L O U h0 h1 pv G hF (λp h=>DC (hF p h)) q
end
section
open L2.Srt
variable{T:List FD}
noncomputable def one(L:Nat)(k:Int):List Int:=(D1 L).map λh=>if((h:Nat):Int)=k then 1 else 0
theorem bR{k:Int}:(one L k).length=L:=by simp[one]
end
section
open L2.Srt
theorem EZ{ps:List Pr}(h:M a=Z (.lst (ps.map prD))):rb 16 M (.ref a)=Z (.list (ps.map ub)):=by rw[ci h,pZ];rfl
end
section
open L2.Srt
noncomputable def bK(a b:List Int):List Int:=Nc (· - ·) a b
noncomputable def seven:List Pr:=[([1,0,0,1],[1,0,0,1],[1,0,0,1]),([0,0,1,1],[1,0,0,0],[0,0,1,-1]),([1,0,0,0],[0,1,0,-1],[0,1,0,1]),([0,0,0,1],[-1,0,1,0],[1,0,1,0]),([1,1,0,0],[0,0,0,1],[-1,1,0,0]),([-1,0,1,0],[1,1,0,0],[0,0,0,1]),([0,1,0,-1],[0,0,1,1],[1,0,0,0])]
end
section
open L2.Srt
variable{T:List FD}
def Within(B:Int)(l:List Int):Prop:=∀x∈l,-B<=x/\x<=B
structure Dr(B:Int)(L0 L1 L2:Nat)(p:Pr):Prop where
 l0:p.1.length=L0
 l1:p.2.1.length=L1
 l2:p.2.2.length=L2
 e0:Within B p.1
 e1:Within B p.2.1
 e2:Within B p.2.2
theorem Within.mono{B':Int}(hb:B<=B')(h:Within B l):Within B' l:=λx hx=>by have:=h x hx;lia
theorem Dr.mono{B':Int}(hb:B<=B'){p:Pr}(h:Dr B L0 L1 L2 p):Dr B' L0 L1 L2 p:=⟨h.l0,h.l1,h.l2,h.e0.mono hb,h.e1.mono hb,h.e2.mono hb⟩
theorem zj{a b:List Int}(h:a.length=b.length):(bK a b).length=a.length:=by simp[bK,h]
noncomputable def pAt(p:Pr):Nat->List Int|0=>p.1|1=>p.2.1|_=>p.2.2
noncomputable def jg(p:Pr)(m:List Int):Nat->Pr|0=>(m,p.2.1,p.2.2)|1=>(p.1,m,p.2.2)|_=>(p.1,p.2.1,m)
theorem Dr.set{p:Pr}(h:Dr B L0 L1 L2 p){m:List Int}{s:Nat}(hl:m.length=(pAt p s).length)(hw:Within B m):Dr B L0 L1 L2 (jg p m s):=by
 match s with
 |0=>exact⟨hl.trans h.l0,h.l1,h.l2,hw,h.e1,h.e2⟩
 |1=>exact⟨h.l0,hl.trans h.l1,h.l2,h.e0,hw,h.e2⟩
 |_+2=>exact⟨h.l0,h.l1,hl.trans h.l2,h.e0,h.e1,hw⟩
theorem Dr.at{p:Pr}(h:Dr B L0 L1 L2 p){s:Nat}:Within B (pAt p s):=by
 match s with
 |0=>exact h.e0
 |1=>exact h.e1
 |_+2=>exact h.e2
theorem BD{N:NC}{a b:List Int}(hl:a.length<=1000){chk:Mem->Prop}(hc:chk M)(q:∀ρ,N ρ M ((bK a b).map .int)):
 bx (oU (bw (br 0) (bw (br 1) fE))) (cC (wOp iP (dQ 0) (dQ 1))) chk N (Nc fF (a.map .int) (b.map .int)) [Y,Y] M []:=by
 have ez:Nc fF (a.map D.int) (b.map D.int)=(a.zip b).map λz=>D.tup [.int z.1,.int z.2]:=by rw[Uv,List.zip,Q4];rfl
 refine au (f:=λz:Int×Int=>D.tup [.int z.1,.int z.2]) (ys:=a.zip b) (I:=λl ρ M' acc=>(∃o0 j,ρ=[o0,j])/\M'=M/\acc=(l.map λz=>z.1-z.2).map .int) ez ⟨⟨_,_,rfl⟩,rfl,rfl⟩ (λ_ _ _ _ h=>by rw[h.2.1];exact hc) ?_ ?_
 ·rintro l z r ρ M1 acc e ⟨⟨o0,j,rfl⟩,rfl,rfl⟩;refine⟨_,rfl,λN' B=>?_⟩;have F:=ak e;rw[Sm]at F;ac_nf;exact⟨by rw[tv,tv,z4];lia,B _ _ _ ⟨⟨_,_,rfl⟩,rfl,by simp⟩⟩
 ·rintro ρ M1 acc ⟨⟨o0,j,rfl⟩,rfl,rfl⟩;have:(a.zip b).map (λz=>z.1-z.2)=bK a b:=by rw[List.zip,Q4];rfl
  rw[this];exact q _
theorem DD{p:Pr}{s:Nat}(h:s<3):atI [D.tup (p.1.map .int),.tup (p.2.1.map .int),.tup (p.2.2.map .int)] (s:Nat)=Z (.tup ((pAt p s).map .int)):=by
 match s,h with
 |0,_=>rfl
 |1,_=>rfl
 |2,_=>rfl
noncomputable def pts(p:Pr):List D:=[.tup (p.1.map .int),.tup (p.2.1.map .int),.tup (p.2.2.map .int)]
theorem BE{p:Pr}{s:Nat}(h:s<3)(q:Q (.tup ((pts p).take s)) M):cB (prD p) Y (Z ((s:Nat):Int)) M Q:=by
 match s,h with
 |0,_=>exact q
 |1,_=>exact q
 |2,_=>exact q
theorem BG{p:Pr}{s:Nat}(h:s<3)(q:Q (.tup ((pts p).drop (s+1))) M):cB (prD p) (Z (((s:Nat):Int)+1)) Y M Q:=by
 match s,h with
 |0,_=>exact q
 |1,_=>exact q
 |2,_=>exact q
theorem BH{p:Pr}{m:List Int}{s:Nat}(h:s<3):D.tup ((pts p).take s++[.tup (m.map .int)]++(pts p).drop (s+1))=prD (jg p m s):=by
 match s,h with
 |0,_=>rfl
 |1,_=>rfl
 |2,_=>rfl
theorem se{p:Pr}:(pts p).length=3:=rfl
end
section
open L2.Srt
variable{T:List FD}
theorem qm{k:Int}:Within 1 (one L k):=λx hx=>by
 unfold one at hx;obtain⟨h,_,rfl⟩:=Ki.mp hx
 split<;>lia
end
section
open L2.Srt
variable{T:List FD}
noncomputable def qo(n i:Nat):List Int:=(D1 (2*n-1)).map λk=>if k=2*i then 1 else if i<=k/\k<i+n then -1 else 0
noncomputable def cH(n i j:Nat):List Int:=(D1 n).map λh=>if h=i∨h=j then 1 else 0
noncomputable def ppI(n i:Nat):List Pr:=(one n (i:Nat),one n (i:Nat),qo n i)::(D1 i).map λj=>(cH n i j,cH n i j,one (2*n-1) ((i+j:Nat):Int))
noncomputable def pp(n:Nat):List Pr:=(D1 n).flatMap (ppI n)
theorem BI:∀p∈pp n,Dr 1 n n (2*n-1) p:=by
 intro p q;unfold pp at q;obtain⟨i,hi,q⟩:=Mt.mp q;unfold ppI at q
 rcases Km.mp q with rfl|q
 ·refine⟨bR,bR,by simp[qo],qm,qm,λx hx=>?_⟩
  unfold qo at hx;obtain⟨k,_,rfl⟩:=Ki.mp hx
  split
  ·lia
  ·split<;>lia
 ·obtain⟨j,_,rfl⟩:=Ki.mp q;have hb:Within 1 (cH n i j):=fun x hx=>by
   unfold cH at hx;obtain⟨k,_,rfl⟩:=Ki.mp hx
   split<;>lia
  exact⟨by simp[cH],by simp[cH],bR,hb,hb,qm⟩
end
section
open L2.Srt
variable{T:List FD}
theorem qp{F:Nat->Int}{i:Nat}{v:Int}:((D1 L).map F).set i v=(D1 L).map λk=>if k=i then v else F k:=by
 apply MX;intro k;rw[List.getElem?_set]
 by_cases h:i=k
 ·subst h;rw[if_pos rfl]
  by_cases hl:i<L
  ·rw[if_pos (by simpa using hl),KH,LY hl];simp
  ·rw[if_neg (by simpa using hl),LX (by simp;lia)]
 ·rw[if_neg h,KH,KH]
  by_cases hl:k<L
  ·rw[LY hl];simp[Ne.symm h]
  ·rw[LX (by simp;lia)];rfl
theorem A1:(Kf L [D.int 0]).flatten=((D1 L).map λ_=>(0:Int)).map D.int:=by
 rw[Ms];have:(D1 L).map (D.int∘λ_=>(0:Int))=Kf L (D.int 0):=by rw[show(D.int∘λ_:Nat=>(0:Int))=λ_=>D.int 0 from rfl,List.map_const',Kx]
 rw[this,List.flatten_replicate_singleton]
theorem uk{i:Nat}(h:i<L):ixN L (i:Nat)=Z i:=by unfold ixN;rw[if_pos ∅,if_pos ∅,KL]
end
section
open L2.Srt
variable{T:List FD}
noncomputable def ow(n i:Nat):Pr:=(one n (i:Nat),one n (i:Nat),qo n i)
noncomputable def pa(n i j:Nat):Pr:=(cH n i j,cH n i j,one (2*n-1) ((i+j:Nat):Int))
noncomputable def ows(n:Nat):List Pr:=(D1 n).map (ow n)
noncomputable def tri{α:Type}(F:Nat->Nat->α)(n:Nat):List α:=(D1 n).flatMap λi=>(D1 i).map (F i)
noncomputable def trj{α:Type}(F:Nat->Nat->α)(n:Nat):List α:=(D1 n).flatMap λj=>(D1 (n-(j+1))).map λt=>F j (j+1+t)
noncomputable def bp(n:Nat):List Pr:=ows n++trj (pa n) n
theorem wU{i j:Nat}:cH n i j=cH n j i:=by unfold cH;exact Lm λh _=>by simp only[or_comm]
theorem BJ{i j:Nat}:pa n i j=pa n j i:=by unfold pa;rw[wU,Nat.add_comm]
theorem mV{α:Type}{f:Nat->α}{g:Nat->List α}:∀l:List Nat,(l.flatMap λi=>f i::g i).Perm (l.map f++l.flatMap g)
 |[]=>by simp
 |i::l=>by rw[LG,Ks,LG,OX,OX];refine List.Perm.cons _ ?_;refine((mV l).append_left _).trans ?_;rw[<-KD,<-KD];exact List.perm_append_comm.append_right _
theorem ko{α:Type}{f:Nat->α}{g:Nat->List α}:∀l:List Nat,(l.flatMap λi=>g i++[f i]).Perm (l.flatMap g++l.map f)
 |[]=>by simp
 |i::l=>by rw[LG,Ks,LG,KD,KD];refine Lv _ ?_;rw[List.singleton_append];exact((ko l).cons _).trans Uk.symm
theorem lm{α:Type}{F:Nat->Nat->α}:∀n,(trj F n).Perm (tri (λi j=>F j i) n)
 |0=>by simp[tri,trj]
 |n+1=>by
  have e1:tri (λi j=>F j i) (n+1)=tri (λi j=>F j i) n++(D1 n).map λj=>F j n:=by unfold tri;rw[NR,Nv];simp
  have e2:trj F (n+1)=(D1 n).flatMap λj=>((D1 (n-(j+1))).map λt=>F j (j+1+t))++[F j n]:=by
   unfold trj;rw[NR,Nv];have:(List.flatMap (λj=>(D1 (n+1-(j+1))).map λt=>F j (j+1+t)) [n])=[]:=by simp
   rw[this,Mg];unfold List.flatMap;congr 1;refine Lm λj q=>?_;have q:=L7.mp q;rw[show n+1-(j+1)=(n-(j+1))+1 by lia,NR,Ld]
   simp only[Ks,Om];rw[show j+1+(n-(j+1))=n by lia]
  rw[e1,e2];exact(ko _).trans ((lm n).append_right _)
theorem pp_perm:(pp n).Perm (ows n++tri (pa n) n):=by unfold pp ppI;exact mV _
theorem zk:tri (λi j=>pa n j i) n=tri (pa n) n:=by unfold tri;simp only[BJ]
theorem bp_perm:(bp n).Perm (ows n++tri (pa n) n):=by unfold bp;refine Lv _ ?_;have:=lm (F:=pa n) n;rw[zk (n:=n)]at this;exact this
theorem bp_pp:(bp n).Perm (pp n):=bp_perm.trans pp_perm.symm
theorem sg{α:Type}{F:Nat->Nat->α}:∀n,2*(tri F n).length+n=n*n
 |0=>by simp[tri]
 |n+1=>by
  have e1:tri F (n+1)=tri F n++(D1 n).map (F n):=by unfold tri;rw[NR,Nv];simp
  have:=sg (F:=F) n;rw[e1,D2,tv,Kx,Nat.add_mul,UK];lia
theorem BK{α:Type}{F:Nat->Nat->α}(n:Nat):2*(trj F n).length+n=n*n:=by rw[(lm n).length_eq];exact sg n
theorem DE:2*(bp n).length=n*(n+1):=by have:=BK (F:=pa n) n;unfold bp ows;rw[D2,tv,Kx,UK];lia
theorem F1(h:n<=50):(bp n).length<=2000:=by
 have:=DE (n:=n);have:n*(n+1)<=50*51:=L5 h ∅
 lia
noncomputable def iu(s:Stmt):FD:=⟨"single_one",s,["length","at","row"],2,
 (.cons (.asg (.name 2) (.bin .mul (.lst (.cons (.int 0) .nil)) (.var 0)))
 (.cons (.put (.var 2) (.var 1) (.int 1))
 (.cons (.ret (.var 2))
 .nil)))⟩
theorem lq(hf:T[f]?=Z (iu s))(U:1<=n){i:Nat}(hL:L<=1000)(hi:i<L)(q:∀p M',Ge M M'->M p=Y->M' p=Z (.lst ((one L (i:Nat)).map .int))->Q (.ref p) M'):phi T n f [.int L,.int i] M Q:=by
 refine am ∅ hf rfl (ρ:=[Z _,Z _,Y]) rfl ?_
 unfold iu;nofun;refine⟨by rw[z4];lia,λG F=>?_⟩
 refine⟨_,aa,∅,∅,by rw[z4];simp;lia,λB z=>?_⟩
 rw[KL,A1];have J:=Ge.new (o:=.lst [.int 0]) F;have g1:=J.trans (Ge.new (o:=.lst (((D1 L).map λ_=>(0:Int)).map D.int)) z);have e1:=aa (M:=af M G (.lst [.int 0])) (a:=B) (o:=.lst (((D1 L).map λ_=>(0:Int)).map D.int));have O:M B=Y:=by
  cases hz:M B with
  |none=>rfl
  |some o=>rw[J _ _ hz]at z;cases z
 generalize af (af M G (.lst [.int 0])) B _=M1 at g1 e1⊢;nofun;refine aN e1 (j:=i) (by rw[tv,tv,Kx];exact uk hi) ?_
 nofun;refine q B _ (g1.upd O) O ?_;rw[aa,<-Ow (f:=D.int),qp];unfold one;congr 3;exact Lm λh _=>by simp only[Int.natCast_inj]
noncomputable def nQ(s:Stmt)(fo:Nat):FD:=⟨"own_product",s,["n","i","o","j","part"],2,
 (.cons (.asg (.name 2) (.bin .mul (.lst (.cons (.int 0) .nil)) (.bin .sub (.bin .mul (.int 2) (.var 0)) (.int 1))))
 (.cons (.for (.name 3) (.rng1 (.var 0)) (.cons (.put (.var 2) (.bin .add (.var 1) (.var 3)) (.ite (.cmp .eq (.var 3) (.var 1)) (.int 1) (.neg (.int 1))))
 .nil))
 (.cons (.asg (.name 4) (.blt .tuple (.cons (.call fo (.cons (.var 0) (.cons (.var 1) .nil))) .nil)))
 (.cons (.ret (.tup (.cons (.var 4) (.cons (.var 4) (.cons (.blt .tuple (.cons (.var 2) .nil)) .nil)))))
 .nil))))⟩
theorem DG(hf:T[f]?=Z (nQ s fo))(L:T[fo]?=Z (iu so)){k:Nat}(hk:2<=k){i:Nat}(hn:n<=50)(hi:i<n)(q:∀M',Ge M M'->Q (prD (ow n i)) M'):phi T k f [.int n,.int i] M Q:=by
 refine am ∅ hf rfl (ρ:=[Z _,Z _,Y,Y,Y]) rfl ?_
 unfold nQ;nofun;refine⟨by rw[z4];lia,λfv O=>⟨bS ∅,?_⟩⟩
 refine⟨_,aa,∅,∅,by rw[z4];simp;lia,λpo B=>?_⟩
 rw[show(2*(n:Int)-1).toNat=2*n-1 by lia,A1]
 have F:=Ge.new (o:=.lst [.int 0]) O;have G:M po=Y:=by
  cases hz:M po with
  |none=>rfl
  |some o=>rw[F _ _ hz]at B;cases B
 have g2:=F.trans (Ge.new (o:=.lst (((D1 (2*n-1)).map λ_=>(0:Int)).map D.int)) B);have e2:=aa (M:=af M fv (.lst [.int 0])) (a:=po) (o:=.lst (((D1 (2*n-1)).map λ_=>(0:Int)).map D.int));generalize af (af M fv (.lst [.int 0])) po (.lst (((D1 (2*n-1)).map λ_=>(0:Int)).map D.int))=M2 at g2 e2⊢;nofun;refine⟨∅,∅,?_⟩
 rw[KL];refine aO (f:=λi=>D.int (i:Nat)) (ys:=D1 n) (I:=λl' ρ M'=>∃U,ρ=[Z (.int n),Z (.int (i:Nat)),Z (.ref po),U,Y]/\Ge M M'/\M' po=Z (.lst (((D1 (2*n-1)).map λk=>if i<=k/\k<i+l'.length then(if k=2*i then(1:Int)else -1)else 0).map D.int))) ay ⟨_,rfl,g2,by rw[e2];congr 3;exact Lm λk _=>by rw[if_neg (by simp)]⟩ (λ_ _ _ _=>trivial) ?_ ?_
 ·rintro l' j r' ρ M3 e' ⟨U,rfl,g3,J⟩;refine⟨_,rfl,fun F' pv=>?_⟩;have z:=ak e';rw[Kx]at z;have hj:j=l'.length:=by
   have:=wy e';rw[LY z]at this;exact(MN.inj this).symm
  subst hj;have fin:∀v:Int,v=(if l'.length=i then 1 else -1)->F' [Z (.int n),Z (.int (i:Nat)),Z (.ref po),Z (.int (l'.length:Nat)),Y] (af M3 po (.lst ((((D1 (2*n-1)).map λk=>if i<=k/\k<i+l'.length then(if k=2*i then(1:Int)else -1)else 0).map D.int).set (i+l'.length) (.int v)))):=λv hv=>by
   refine pv _ _ ⟨_,rfl,g3.upd G,?_⟩;rw[aa,<-Ow (f:=D.int),qp];congr 3;refine Lm λk _=>?_;rw[D2,LJ]
   by_cases h1:k=i+l'.length
   ·rw[if_pos h1,if_pos (show i<=k/\k<i+(l'.length+1) by lia),hv]
    by_cases h2:l'.length=i
    ·rw[if_pos h2,if_pos ∅]
    ·rw[if_neg h2,if_neg ∅]
   ·rw[if_neg h1]
    by_cases h2:i<=k/\k<i+l'.length
    ·rw[if_pos h2,if_pos (show i<=k/\k<i+(l'.length+1) by lia)]
    ·rw[if_neg h2,if_neg (show ¬(i<=k/\k<i+(l'.length+1)) by lia)]
  nofun;rw[<-Sk]
  by_cases hz:l'.length=i
  ·rw[if_pos (by simp;lia)]
   refine aN J (j:=i+l'.length) (by rw[tv,tv,Kx];exact uk ∅) ?_
   exact fin 1 (by rw[if_pos hz])
  ·rw[if_neg (by simp;lia)]
   refine aN J (j:=i+l'.length) (by rw[tv,tv,Kx];exact uk ∅) ?_
   exact fin (-1) (by rw[if_neg hz])
 ·rintro ρ M3 ⟨U,rfl,g3,J⟩;rw[Kx]at J;dsimp only;nofun;refine lq L ∅ ∅ hi λp1 M4 g4 _ e4=>?_
  refine⟨_,_,rfl,ad e4,?_⟩;nofun;refine⟨_,_,rfl,ad (g4 _ _ J),by rw[z4];lia,?_⟩
  have:=q M4 (g3.trans g4);unfold ow prD qo at this;rw[show((D1 (2*n-1)).map λk=>if i<=k/\k<i+n then(if k=2*i then(1:Int)else -1)else 0)=((D1 (2*n-1)).map λk=>if k=2*i then(1:Int)else if i<=k/\k<i+n then -1 else 0)from Lm λk _=>by
   by_cases h1:k=2*i
   ·rw[if_pos h1,if_pos h1,if_pos ∅]
   ·rw[if_neg h1,if_neg h1]]
  exact this
noncomputable def nR(s:Stmt)(fo:Nat):FD:=⟨"pair_product",s,["n","i","j","part"],3,
 (.cons (.asg (.name 3) (.blt .tuple (.cons (.comp [Y,(Z 1),(Z 2)] ["at","i","j"] (.last (.rng1 (.var 0)) (.name 0) .nil (.ite (.cmp .inS (.var 0) (.tup (.cons (.var 1) (.cons (.var 2) .nil)))) (.int 1) (.int 0)))) .nil)))
 (.cons (.ret (.tup (.cons (.var 3) (.cons (.var 3) (.cons (.blt .tuple (.cons (.call fo (.cons (.bin .sub (.bin .mul (.int 2) (.var 0)) (.int 1)) (.cons (.bin .add (.var 1) (.var 2)) .nil))) .nil)) .nil)))))
 .nil))⟩
theorem DH(hf:T[f]?=Z (nR s fo))(L:T[fo]?=Z (iu so)){k:Nat}(fv:2<=k){i j:Nat}(hn:n<=50)(hi:i<n)(hj:j<n)(q:∀M',Ge M M'->Q (prD (pa n i j)) M'):phi T k f [.int n,.int i,.int j] M Q:=by
 refine am ∅ hf rfl (ρ:=[Z _,Z _,Z _,Y]) rfl ?_
 unfold nR;nofun;refine⟨∅,∅,?_⟩
 rw[KL];refine au (f:=λi=>D.int (i:Nat)) (ys:=D1 n) (I:=λr ρ M' acc=>(∃o0,ρ=[o0,Z (.int (i:Nat)),Z (.int (j:Nat))])/\M'=M/\acc=(r.map λh=>if h=i∨h=j then(1:Int)else 0).map .int) ay ⟨⟨_,rfl⟩,rfl,rfl⟩ (λ_ _ _ _ _=>trivial) ?_ ?_
 ·rintro r h r2 ρ B acc e10 ⟨⟨o0,rfl⟩,rfl,rfl⟩;refine⟨_,rfl,λN' F=>?_⟩;have G:=ak e10;rw[Kx]at G;ac_nf;refine⟨by rw[z4];lia,[(i:Int),(j:Int)],rfl,?_⟩
  ac_nf
  by_cases z:h=i∨h=j
  ·rw[if_pos (by simp;lia)]
   exact⟨by rw[tv,tv,z4];lia,F _ _ _ ⟨⟨_,rfl⟩,rfl,by rw[Ld,Ld,Ks,Ks,if_pos z];rfl⟩⟩
  ·rw[if_neg (by simp;lia)]
   exact⟨by rw[tv,tv,z4];lia,F _ _ _ ⟨⟨_,rfl⟩,rfl,by rw[Ld,Ld,Ks,Ks,if_neg z];rfl⟩⟩
 ·rintro ρ B acc ⟨⟨o0,rfl⟩,rfl,rfl⟩ p2 hp2;refine⟨_,_,rfl,ad aa,?_⟩;have J:=Ge.new (o:=.lst (((D1 n).map λh=>if h=i∨h=j then(1:Int)else 0).map .int)) hp2
  generalize af B p2 (.lst (((D1 n).map λh=>if h=i∨h=j then(1:Int)else 0).map .int))=M11 at J⊢
  nofun;refine⟨bS ∅,?_⟩
  rw[show(2*(n:Int)-1)=((2*n-1:Nat):Int) by lia,<-Sk]
  refine lq L ∅ ∅ ∅ λp1 O U _ pv=>?_
  exact⟨_,_,rfl,ad pv,by rw[z4];lia,q O (J.trans U)⟩
noncomputable def zm(s:Stmt)(fo fp:Nat):FD:=⟨"by_pairs",s,["n","products"],1,
 (.cons (.asg (.name 1) (.comp [Y,(Z 0)] ["i","n"] (.last (.rng1 (.var 0)) (.name 0) .nil (.call fo (.cons (.var 1) (.cons (.var 0) .nil))))))
 (.cons (.aug 1 .ext (.comp [Y,Y,(Z 0)] ["i","j","n"] (.more (.rng1 (.var 0)) (.name 0) .nil (.last (.rng2 (.bin .add (.var 0) (.int 1)) (.var 2)) (.name 1) .nil (.call fp (.cons (.var 2) (.cons (.var 0) (.cons (.var 1) .nil))))))))
 (.cons (.ret (.tup (.cons (.var 0) (.cons (.var 0) (.cons (.bin .sub (.bin .mul (.int 2) (.var 0)) (.int 1)) (.cons (.var 1) .nil))))))
 .nil)))⟩
theorem F3{fp f1:Nat}{sp s1:Stmt}(hf:T[f]?=Z (zm s fo fp))(pv:T[fo]?=Z (nQ so f1))(fv:T[fp]?=Z (nR sp f1))(L:T[f1]?=Z (iu s1)){k:Nat}(hk:3<=k)(U:n<=50)(h1:1<=n)(q:∀p M',Ge M M'->M p=Y->M' p=Z (.lst ((bp n).map prD))->Q (.tup [.int n,.int n,.int ((2*n-1:Nat):Int),.ref p]) M'):phi T k f [.int n] M Q:=by
 refine am ∅ hf rfl (ρ:=[Z _,Y]) rfl ?_
 unfold zm;nofun;refine⟨∅,∅,?_⟩
 rw[KL];refine au (f:=λi=>D.int (i:Nat)) (ys:=D1 n) (I:=λl ρ M' acc=>(∃o0,ρ=[o0,Z (.int n)])/\Ge M M'/\acc=(l.map (ow n)).map prD) ay ⟨⟨_,rfl⟩,Ge.refl,rfl⟩ (λ_ _ _ _ _=>trivial) ?_ ?_
 ·rintro l i r ρ M1 acc e ⟨⟨o0,rfl⟩,g1,rfl⟩;refine⟨_,rfl,λN' z=>?_⟩;have B:=ak e;rw[Kx]at B;have hi:i<n:=L7.mp (by rw[e];simp)
  ac_nf;refine DG pv L ∅ U hi λM2 g2=>?_
  exact⟨by rw[tv,tv,z4];lia,z _ _ _ ⟨⟨_,rfl⟩,g1.trans g2,by simp⟩⟩
 ·rintro ρ M1 acc ⟨⟨o0,rfl⟩,g1,rfl⟩ G hp1;have hp:M G=Y:=by
   cases hz:M G with
   |none=>rfl
   |some o=>rw[g1 _ _ hz]at hp1;cases hp1
  have g2:=g1.trans (Ge.new (o:=.lst (((D1 n).map (ow n)).map prD)) hp1);have e2:=aa (M:=M1) (a:=G) (o:=.lst (((D1 n).map (ow n)).map prD));generalize af M1 G _=M2 at g2 e2⊢;nofun;refine⟨∅,∅,?_⟩
  rw[KL];have hT:∀l i r,D1 n=l++i::r->(l.flatMap λj=>(D1 (n-(j+1))).map λt=>pa n j (j+1+t)).length+n<=3000:=λl i r e=>by
   have h1:(l.flatMap λj=>(D1 (n-(j+1))).map λt=>pa n j (j+1+t)).length<=l.length*n:=by
    clear e
    induction l with
    |nil=>simp
    |cons j l ih=>rw[LG,D2,tv,Kx,L4,Mr];lia
   have B:=ak e;rw[Kx]at B;have:l.length*n<=50*50:=L5 ∅ U
   lia
  refine au (f:=λi=>D.int (i:Nat)) (ys:=D1 n) (I:=λl ρ M' acc=>(∃o0 F,ρ=[o0,F,Z (.int n)])/\Ge M2 M'/\acc=(l.flatMap λj=>(D1 (n-(j+1))).map λt=>pa n j (j+1+t)).map prD) ay ⟨⟨_,_,rfl⟩,Ge.refl,rfl⟩ (λ_ _ _ _ _=>trivial) ?_ ?_
  ·rintro l i r ρ M3 acc e ⟨⟨o0,F,rfl⟩,g3,rfl⟩;refine⟨_,rfl,λN' z=>?_⟩;have hi:i<n:=L7.mp (by rw[e];simp)
   have hT:=hT l i r e;ac_nf;refine⟨(i:Int)+1,n,⟨rfl,rfl⟩,⟨∅,∅,∅,∅⟩,?_⟩
   rw[show((n:Int)-((i:Int)+1)).toNat=n-(i+1) by lia]
   refine au (f:=λt=>D.int ((i:Int)+1+(t:Nat))) (ys:=D1 (n-(i+1))) (I:=λl' ρ M' acc=>(∃F,ρ=[Z (.int i),F,Z (.int n)])/\Ge M2 M'/\acc=((l.flatMap λj=>(D1 (n-(j+1))).map λt=>pa n j (j+1+t))++l'.map λt=>pa n i (i+1+t)).map prD) (by rfl) ⟨⟨_,rfl⟩,g3,by simp⟩ (λ_ _ _ _ _=>trivial) ?_ ?_
   ·rintro l' t r' ρ M4 acc e' ⟨⟨F,rfl⟩,J,rfl⟩;refine⟨_,rfl,λN2 HY=>?_⟩;have O:=ak e';rw[Kx]at O;have ht:t<n-(i+1):=L7.mp (by rw[e'];simp)
    ac_nf;rw[show(i:Int)+1+(t:Int)=((i+1+t:Nat):Int) by lia]
    refine DH fv L ∅ U hi ∅ λM5 g5=>?_
    refine⟨by rw[tv,D2,tv,z4];lia,HY _ _ _ ⟨⟨_,rfl⟩,J.trans g5,by simp⟩⟩
   ·rintro ρ M4 acc ⟨⟨F,rfl⟩,J,rfl⟩;refine z _ _ _ ⟨⟨_,_,rfl⟩,J,?_⟩;rw[Nv];simp
  ·rintro ρ M3 acc ⟨⟨o0,F,rfl⟩,g3,rfl⟩ p3 hp3;have hl:=F1 (n:=n) U;unfold bp ows trj at hl;rw[D2]at hl;have J:=g3.trans (Ge.new (o:=.lst (((D1 n).flatMap λj=>(D1 (n-(j+1))).map λt=>pa n j (j+1+t)).map prD)) hp3);refine⟨G,p3,_,_,rfl,rfl,J _ _ e2,aa,by simp only[tv]at hl⊢;rw[z4];lia,?_⟩
   nofun;refine⟨bS ∅,by rw[z4];lia,?_⟩
   rw[show 2*(n:Int)-1=((2*n-1:Nat):Int) by lia]
   refine q G _ ((g2.trans J).upd hp) hp ?_;rw[aa,<-Ld];rfl
end
section
variable{T:List FD}
noncomputable def um(s:Stmt):FD:=⟨"part_of_row",s,["part","row"],2,
 (.cons (.ret (.blt .sum (.cons (.comp [Y,Y] ["x","y"] (.last (.zip (.var 0) (.var 1)) (.tup (.cons (.name 0) (.cons (.name 1) .nil))) .nil (.bin .mul (.var 0) (.var 1)))) .nil)))
 .nil)⟩
noncomputable def lr(one other:List Int)(p:Pr):Int:=dot p.1 one*dot p.2.1 other
noncomputable def bM(one other:List Int)(L:Nat)(ps:List Pr):List Int:=(D1 L).map λk=>(ps.map λp=>p.2.2.getD k 0*lr one other p).sum
theorem zn{one:List Int}:bM one other L []=Kf L 0:=by
 unfold bM;apply Q5
 ·simp
 ·intro i h1 h2;simp
theorem wV{one:List Int}{ps:List Pr}{p:Pr}(h:p.2.2.length=L):bM one other L (ps++[p])=Nc (λx c=>x+c*lr one other p) (bM one other L ps) p.2.2:=by
 unfold bM;apply Q5
 ·simp[h]
 ·intro i h1 h2;have:i<L:=by simpa using h1
  simp[Kv,I7 (show i<p.2.2.length by lia)]
noncomputable def gL(s:Stmt)(fp:Nat):FD:=⟨"applied",s,["scheme","one","other","left","right","many","products","told","l","r","o","product"],3,
 (.cons (.asg (.tup (.cons (.name 3) (.cons (.name 4) (.cons (.name 5) (.cons (.name 6) .nil))))) (.var 0))
 (.cons (.asg (.name 7) (.bin .mul (.lst (.cons (.int 0) .nil)) (.var 5)))
 (.cons (.for (.tup (.cons (.name 8) (.cons (.name 9) (.cons (.name 10) .nil)))) (.seq (.var 6)) (.cons (.asg (.name 11) (.bin .mul (.call fp (.cons (.var 8) (.cons (.var 1) .nil))) (.call fp (.cons (.var 9) (.cons (.var 2) .nil)))))
 (.cons (.asg (.name 7) (.comp [Y,Y,(Z 11)] ["x","c","product"] (.last (.zip (.var 7) (.var 10)) (.tup (.cons (.name 0) (.cons (.name 1) .nil))) .nil (.bin .add (.var 0) (.bin .mul (.var 1) (.var 2))))))
 .nil)))
 (.cons (.ret (.var 7))
 .nil))))⟩
end
section
open L2.Srt
variable{T:List FD}
noncomputable def ixs(l:List Int)(ks:List Nat):List (Int×Int):=ks.map λk:Nat=>((k:Int),gi l (k:Int))
theorem BL(h:l.length=N):ixs l (D1 N)=idx l:=by
 unfold ixs idx;apply MX;intro j;rw[KH,Qf]
 by_cases hj:j<N
 ·rw[LY hj,I7 ∅]
  simp only[NQ,gi,KL];rw[Kv,I7 ∅];rfl
 ·rw[LX (by simp;lia),LX ∅];rfl
end
section
open L2.Srt
noncomputable def dz(zs:List (Int×Int))(a:List Int):Int:=(zs.map λz=>z.2*gi a z.1).sum
theorem iw{z:Int×Int}{a:List Int}:dz (z::zs) a=z.2*gi a z.1+dz zs a:=by simp[dz]
theorem mW{a b:List Int}{k i x j y:Int}:∀{zs:List (Int×Int)},bB (fkk a b k) (cM i x j y zs)=(x*gi a i)*(y*gi b j)*S1 zs k
 |[]=>by simp[cM,fS,S1]
 |z::zs=>by
  rw[show cM i x j y (z::zs)=((z.1,i,j),x*y*z.2)::cM i x j y zs from rfl,bE,mW,bQ];unfold fkk;dsimp only
  by_cases h:z.1=k
  ·rw[if_pos h,if_pos h,Px];congr 1;simp only[Rp,S9,Int.mul_left_comm]
  ·rw[if_neg h,if_neg h];simp
theorem mX{a b:List Int}{k i x:Int}{zs:List (Int×Int)}:∀{ys:List (Int×Int)},bB (fkk a b k) (cN i x ys zs)=(x*gi a i)*dz ys b*S1 zs k
 |[]=>by simp[cN,fS,dz]
 |y::ys=>by rw[show cN i x (y::ys) zs=cM i x y.1 y.2 zs++cN i x ys zs from by simp[cN],cj,mX,mW,iw,Px,ND]
theorem mY{a b:List Int}{k:Int}{ys zs:List (Int×Int)}:∀{xs:List (Int×Int)},bB (fkk a b k) (eh xs ys zs)=dz xs a*dz ys b*S1 zs k
 |[]=>by simp[eh,fS,dz]
 |x::xs=>by rw[show eh (x::xs) ys zs=cN x.1 x.2 ys zs++eh xs ys zs from by simp[eh],cj,mY,mX,iw,ND,ND]
theorem uo{a:List Int}:∀zs:List (Int×Int),dz (zs.filter λq=>!(q.2==0)) a=dz zs a
 |[]=>rfl
 |z::zs=>by
  rw[iw]
  by_cases h:z.2=0
  ·rw[LL (by simp[h]),uo zs,h];simp
  ·rw[Md (by simp[h]),iw,uo zs]
theorem wW{a:List Int}(hl:l.length=N)(j:a.length=N):dz (nz l) a=dot l a:=by unfold nz;rw[uo,<-BL hl,<-wD hl j];unfold dz ixs;rw[Ms];congr 1
theorem BM{k:Nat}:gz l (k:Int)=l.getD k 0:=by unfold gz;rw[if_neg ∅,KL]
theorem zo{ps:List Pr}{rs:List Tm}{one:List Int}(h:∀k,cf rs k=cf (jf ps) k)(z:∀p∈ps,p.1.length=L0/\p.2.1.length=L1)(h1:one.length=L0)(h2:other.length=L1):val rs one other L2=bM one other L2 ps:=by
 unfold val bM;refine Lm λk _=>?_;rw[A0 h,bC];unfold jf;have:∀qs:List Pr,(∀p∈qs,p.1.length=L0/\p.2.1.length=L1)->bB (fkk one other (k:Nat)) (qs.flatMap qk)=(qs.map λp=>p.2.2.getD k 0*lr one other p).sum:=by
  intro qs
  induction qs with
  |nil=>intro _;rfl
  |cons p qs ih=>
   intro j;obtain⟨e0,e1⟩:=j p (by simp)
   rw[LG,cj,ih λq hm=>j q (by simp[hm]),Ks,O8]
   unfold qk;rw[mY,wW e0 h1,wW e1 h2];unfold nz;rw[fV,gI,BM];unfold lr;rw[S9]
 exact this ps z
theorem gN(h:cG l):Big l:=λx hx=>by have:=h x hx;lia
theorem jh(h:cG l):(gz l i).natAbs<=1000:=by
 unfold gz
 split
 ·decide
 ·rw[Kv]
  cases e:l[i.toNat]? with
  |none=>decide
  |some x=>have:=h x (KU e);simp only[RN];lia
theorem qq{L0 L1 L2:Nat}{k i j:Int}:∀{ps:List Pr},(∀p∈ps,cu L0 L1 L2 p)->(Tn ps k i j).natAbs<=ps.length*1000000000
 |[],_=>by simp[Tn]
 |p::ps,h=>by
  have ih:=qq (k:=k) (i:=i) (j:=j) (ps:=ps) λq z=>h q (by simp[z])
  have ho:=h p (by simp)
  rw[li,L4,Mr];have h1:(gz p.1 i*gz p.2.1 j*gz p.2.2 k).natAbs<=1000*1000*1000:=by rw[QV,QV];exact L5 (L5 (jh ho.s0) (jh ho.s1)) (jh ho.s2)
  lia
end
section
namespace K60
noncomputable def ai(i:Nat):Stmt:=PySem.Challenge.pw_fewtimes_k60_whole_does_beside_all_rows.main.body.getD i (.Pass ⟨0,0,0,0⟩)
noncomputable def d0:FD:=cX (ai 1)
noncomputable def d1:FD:=kY (ai 2)
noncomputable def d2:FD:=lf (ai 3) 0
noncomputable def d3:FD:=qf (ai 4) 0
noncomputable def d4:FD:=qg (ai 5) 0
noncomputable def d5:FD:=um (ai 7)
noncomputable def d6:FD:=gL (ai 8) 5
noncomputable def d7:FD:=cO (ai 9)
noncomputable def d8:FD:=gK (ai 10) 7
noncomputable def d9:FD:=fW (ai 11) 0 7 8
noncomputable def b10:MSs:=
 (.cons (.ret (.cmp .eq (.call 9 (.cons (.var 0) .nil)) (.var 1)))
 .nil)
noncomputable def d10:FD:=⟨"does",ai 12,["scheme","task"],2,b10⟩
noncomputable def d11:FD:=iu (ai 13)
noncomputable def b12:MSs:=
 (.cons (.asg (.tup (.cons (.name 2) (.cons (.name 3) (.cons (.name 4) (.cons (.name 5) .nil))))) (.var 1))
 (.cons (.asg (.name 6) (.ix (.call 0 (.cons (.var 2) (.cons (.var 3) (.cons (.var 4) (.cons (.bin .add (.ix (.call 9 (.cons (.var 0) .nil)) (.int 3)) (.comp [Y,Y,Y,Y] ["k","i","j","c"] (.last (.seq (.var 5)) (.tup (.cons (.name 0) (.cons (.name 1) (.cons (.name 2) (.cons (.name 3) .nil))))) .nil (.tup (.cons (.var 0) (.cons (.var 1) (.cons (.var 2) (.cons (.neg (.var 3)) .nil)))))))) .nil))))) (.int 3)))
 (.cons (.ite (.not (.tru (.var 6))) (.cons (.ret .non)
 .nil) .nil)
 (.cons (.asg (.tup (.cons (.name 7) (.cons (.name 8) .nil))) (.blt .minP (.cons (.comp [Y] ["term"] (.last (.seq (.var 6)) (.name 0) .nil (.sl (.var 0) (.some (.int 1)) (.some (.int 3))))) .nil)))
 (.cons (.ret (.tup (.cons (.call 11 (.cons (.var 2) (.cons (.var 7) .nil))) (.cons (.call 11 (.cons (.var 3) (.cons (.var 8) .nil))) .nil))))
 .nil)))))
noncomputable def d12:FD:=⟨"fails_at",ai 14,["scheme","task","left","right","many","terms","wrong","i","j"],2,b12⟩
noncomputable def b13:MSs:=
 (.cons (.asg (.tup (.cons (.name 1) (.cons (.name 2) (.cons (.name 3) (.cons (.name 4) .nil))))) (.var 0))
 (.cons (.asg (.name 5) (.dnew F2))
 (.cons (.for (.tup (.cons (.name 6) (.cons (.name 7) (.cons (.name 8) (.cons (.name 9) .nil))))) (.seq (.var 4)) (.cons (.ite (.cmp .ninD (.tup (.cons (.var 7) (.cons (.var 8) .nil))) (.var 5)) (.cons (.put (.var 5) (.tup (.cons (.var 7) (.cons (.var 8) .nil))) (.bin .mul (.lst (.cons (.int 0) .nil)) (.var 3)))
 .nil) .nil)
 (.cons (.put (.ix (.var 5) (.tup (.cons (.var 7) (.cons (.var 8) .nil)))) (.var 6) (.var 9))
 .nil)))
 (.cons (.asg (.name 10) (.comp [Y,Y,(Z 1),(Z 2),(Z 5)] ["i","j","left","right","outs"] (.last (.seq (.blt .sortk (.cons (.var 5) .nil))) (.tup (.cons (.name 0) (.cons (.name 1) .nil))) .nil (.tup (.cons (.blt .tuple (.cons (.call 11 (.cons (.var 2) (.cons (.var 0) .nil))) .nil)) (.cons (.blt .tuple (.cons (.call 11 (.cons (.var 3) (.cons (.var 1) .nil))) .nil)) (.cons (.blt .tuple (.cons (.ix (.var 4) (.tup (.cons (.var 0) (.cons (.var 1) .nil)))) .nil)) .nil)))))))
 (.cons (.ret (.tup (.cons (.var 1) (.cons (.var 2) (.cons (.var 3) (.cons (.var 10) .nil))))))
 .nil)))))
noncomputable def d13:FD:=⟨"plain",ai 17,["task","left","right","many","terms","outs","k","i","j","c","products"],1,b13⟩
noncomputable def d14:FD:=nQ (ai 18) 11
noncomputable def d15:FD:=nR (ai 19) 11
noncomputable def d16:FD:=zm (ai 20) 14 15
noncomputable def b17:MSs:=
 (.cons (.ret (.tup (.cons (.int 4) (.cons (.int 4) (.cons (.int 4) (.cons (.blt .list (.cons (.glob "SEVEN" (.tup [(.tup [(.tup [(.int 1),(.int 0),(.int 0),(.int 1)]),(.tup [(.int 1),(.int 0),(.int 0),(.int 1)]),(.tup [(.int 1),(.int 0),(.int 0),(.int 1)])]),(.tup [(.tup [(.int 0),(.int 0),(.int 1),(.int 1)]),(.tup [(.int 1),(.int 0),(.int 0),(.int 0)]),(.tup [(.int 0),(.int 0),(.int 1),(.int (-1))])]),(.tup [(.tup [(.int 1),(.int 0),(.int 0),(.int 0)]),(.tup [(.int 0),(.int 1),(.int 0),(.int (-1))]),(.tup [(.int 0),(.int 1),(.int 0),(.int 1)])]),(.tup [(.tup [(.int 0),(.int 0),(.int 0),(.int 1)]),(.tup [(.int (-1)),(.int 0),(.int 1),(.int 0)]),(.tup [(.int 1),(.int 0),(.int 1),(.int 0)])]),(.tup [(.tup [(.int 1),(.int 1),(.int 0),(.int 0)]),(.tup [(.int 0),(.int 0),(.int 0),(.int 1)]),(.tup [(.int (-1)),(.int 1),(.int 0),(.int 0)])]),(.tup [(.tup [(.int (-1)),(.int 0),(.int 1),(.int 0)]),(.tup [(.int 1),(.int 1),(.int 0),(.int 0)]),(.tup [(.int 0),(.int 0),(.int 0),(.int 1)])]),(.tup [(.tup [(.int 0),(.int 1),(.int 0),(.int (-1))]),(.tup [(.int 0),(.int 0),(.int 1),(.int 1)]),(.tup [(.int 1),(.int 0),(.int 0),(.int 0)])])])) .nil)) .nil))))))
 .nil)
noncomputable def d17:FD:=⟨"seven",ai 21,[],0,b17⟩
noncomputable def d18:FD:=kg (ai 23)
noncomputable def d19:FD:=kU (ai 24)
noncomputable def d20:FD:=u9 (ai 25) 18 19
noncomputable def d21:FD:=pW (ai 26) 19
noncomputable def d22:FD:=jb (ai 27) 21
noncomputable def d23:FD:=uc (ai 28) 21
noncomputable def d24:FD:=pY (ai 29) 22
noncomputable def d25:FD:=jc (ai 30) 21 24
noncomputable def b26:MSs:=
 (.cons (.asg (.name 1) (.call 21 (.cons (.var 0) (.cons (.int 6) .nil))))
 (.cons (.par 2 3 (.bin .add (.int 1) (.call 21 (.cons (.var 0) (.cons (.int 3) .nil)))) (.bin .add (.int 1) (.call 21 (.cons (.var 0) (.cons (.int 3) .nil)))))
 (.cons (.ite (.cmp .eq (.var 1) (.int 0)) (.cons (.ret (.tup (.cons (.call 17 .nil) (.cons (.call 2 (.cons (.int 2) (.cons (.int 2) (.cons (.int 2) .nil)))) .nil))))
 .nil) .nil)
 (.cons (.ite (.cmp .eq (.var 1) (.int 1)) (.cons (.ret (.tup (.cons (.call 16 (.cons (.bin .add (.var 2) (.int 1)) .nil)) (.cons (.call 3 (.cons (.bin .add (.var 2) (.int 1)) (.cons (.bin .add (.var 2) (.int 1)) .nil))) .nil))))
 .nil) .nil)
 (.cons (.asg (.name 4) (.ix (.lst (.cons (.call 2 (.cons (.var 2) (.cons (.var 3) (.cons (.int 2) .nil)))) (.cons (.call 3 (.cons (.var 2) (.cons (.var 3) .nil))) (.cons (.call 4 (.cons (.var 2) (.cons (.ix (.lst (.cons (.int 1) (.cons (.neg (.int 1)) .nil))) (.bin .mod (.var 3) (.int 2))) .nil))) .nil)))) (.bin .mod (.var 1) (.int 3))))
 (.cons (.ite (.cmp .lt (.var 1) (.int 5)) (.cons (.ret (.tup (.cons (.call 13 (.cons (.var 4) .nil)) (.cons (.var 4) .nil))))
 .nil) .nil)
 (.cons (.asg (.name 5) (.ix (.lst (.cons (.int 4) (.cons (.int 7) .nil))) (.blt .int (.cons (.cmp .eq (.call 21 (.cons (.var 0) (.cons (.int 8) .nil))) (.int 0)) .nil))))
 (.cons (.asg (.name 6) (.comp [Y,(Z 0),(Z 5)] ["_law_side","_law_box_here","_law_most"] (.last (.rng1 (.int 3)) (.name 0) .nil (.bin .add (.int 1) (.call 21 (.cons (.var 1) (.cons (.var 2) .nil)))))))
 (.cons (.asg (.name 7) (.call 25 (.cons (.var 0) (.cons (.var 6) (.cons (.call 21 (.cons (.var 0) (.cons (.int 6) .nil))) .nil)))))
 (.cons (.ret (.tup (.cons (.var 7) (.cons (.call 9 (.cons (.var 7) .nil)) .nil))))
 .nil))))))))))
noncomputable def d26:FD:=⟨"_law_pair",ai 31,["_law_box_here","_law_way","_law_n","_law_m","_law_task","_law_most","_law_lengths","_law_scheme_here"],1,b26⟩
noncomputable def b27:MSs:=
 (.cons (.asg (.name 2) (.lst .nil))
 (.cons (.for (.tup (.cons (.name 3) (.cons (.name 4) (.cons (.name 5) .nil)))) (.seq (.ix (.var 1) (.int 3))) (.cons (.asg (.name 6) (.call 21 (.cons (.var 0) (.cons (.int 4) .nil))))
 (.cons (.asg (.name 7) (.lst (.cons (.tup (.cons (.var 3) (.cons (.var 4) (.cons (.var 5) .nil)))) .nil)))
 (.cons (.ite (.cmp .eq (.var 6) (.int 0)) (.cons (.asg (.name 8) (.call 24 (.cons (.var 0) (.cons (.ix (.var 1) (.int 0)) .nil))))
 (.cons (.asg (.name 7) (.lst (.cons (.tup (.cons (.var 8) (.cons (.var 4) (.cons (.var 5) .nil)))) (.cons (.tup (.cons (.blt .tuple (.cons (.comp [Y,Y] ["_law_a","_law_b"] (.last (.zip (.var 3) (.var 8)) (.tup (.cons (.name 0) (.cons (.name 1) .nil))) .nil (.bin .sub (.var 0) (.var 1)))) .nil)) (.cons (.var 4) (.cons (.var 5) .nil)))) .nil))))
 .nil)) .nil)
 (.cons (.ite (.cmp .eq (.var 6) (.int 1)) (.cons (.asg (.name 7) (.lst (.cons (.tup (.cons (.blt .tuple (.cons (.comp [Y] ["_law_a"] (.last (.seq (.var 3)) (.name 0) .nil (.bin .sub (.int 0) (.var 0)))) .nil)) (.cons (.var 4) (.cons (.blt .tuple (.cons (.comp [Y] ["_law_c"] (.last (.seq (.var 5)) (.name 0) .nil (.bin .sub (.int 0) (.var 0)))) .nil)) .nil)))) .nil)))
 .nil) .nil)
 (.cons (.for (.name 9) (.seq (.var 7)) (.cons (.drop (.ins (.var 2) (.call 21 (.cons (.var 0) (.cons (.bin .add (.blt .len (.cons (.var 2) .nil)) (.int 1)) .nil))) (.var 9)))
 .nil))
 .nil))))))
 (.cons (.ret (.bin .add (.sl (.var 1) .none (.some (.int 3))) (.tup (.cons (.var 2) .nil))))
 .nil)))
noncomputable def d27:FD:=⟨"_law_put_otherwise",ai 32,["_law_box_here","_law_scheme_here","_law_products","_law_l","_law_r","_law_o","_law_way","_law_some","_law_part_here","_law_one"],2,b27⟩
noncomputable def b28:MSs:=
 (.cons (.asg (.name 2) (.blt .list (.cons (.ix (.var 1) (.int 3)) .nil)))
 (.cons (.asg (.name 3) (.call 21 (.cons (.var 0) (.cons (.blt .len (.cons (.var 2) .nil)) .nil))))
 (.cons (.ite (.cmp .eq (.call 21 (.cons (.var 0) (.cons (.int 3) .nil))) (.int 0)) (.cons (.ret (.bin .add (.sl (.var 1) .none (.some (.int 3))) (.tup (.cons (.bin .add (.sl (.var 2) .none (.some (.var 3))) (.sl (.var 2) (.some (.bin .add (.var 3) (.int 1))) .none)) .nil))))
 .nil) .nil)
 (.cons (.asg (.name 4) (.call 21 (.cons (.var 0) (.cons (.int 3) .nil))))
 (.cons (.asg (.name 5) (.blt .list (.cons (.ix (.ix (.var 2) (.var 3)) (.var 4)) .nil)))
 (.cons (.asg (.name 6) (.call 21 (.cons (.var 0) (.cons (.blt .len (.cons (.var 5) .nil)) .nil))))
 (.cons (.put (.var 5) (.var 6) (.bin .add (.ix (.var 5) (.var 6)) (.ix (.lst (.cons (.int 1) (.cons (.neg (.int 1)) (.cons (.int 5) .nil)))) (.call 21 (.cons (.var 0) (.cons (.int 3) .nil))))))
 (.cons (.put (.var 2) (.var 3) (.bin .add (.bin .add (.sl (.ix (.var 2) (.var 3)) .none (.some (.var 4))) (.tup (.cons (.blt .tuple (.cons (.var 5) .nil)) .nil))) (.sl (.ix (.var 2) (.var 3)) (.some (.bin .add (.var 4) (.int 1))) .none)))
 (.cons (.ret (.bin .add (.sl (.var 1) .none (.some (.int 3))) (.tup (.cons (.var 2) .nil))))
 .nil)))))))))
noncomputable def d28:FD:=⟨"_law_spoilt",ai 33,["_law_box_here","_law_scheme_here","_law_products","_law_at","_law_side","_law_row_here","_law_place"],2,b28⟩
noncomputable def b29:MSs:=
 (.cons (.for (.name 2) (.rng1 (.ix (.var 0) (.int 0))) (.cons (.for (.name 3) (.rng1 (.ix (.var 0) (.int 1))) (.cons (.asg (.name 4) (.comp [Y,(Z 2)] ["_law_place","_law_i"] (.last (.rng1 (.ix (.var 0) (.int 0))) (.name 0) .nil (.blt .int (.cons (.cmp .eq (.var 0) (.var 1)) .nil)))))
 (.cons (.asg (.name 5) (.comp [Y,(Z 3)] ["_law_place","_law_j"] (.last (.rng1 (.ix (.var 0) (.int 1))) (.name 0) .nil (.blt .int (.cons (.cmp .eq (.var 0) (.var 1)) .nil)))))
 (.cons (.asg (.name 6) (.bin .mul (.lst (.cons (.int 0) .nil)) (.ix (.var 0) (.int 2))))
 (.cons (.for (.tup (.cons (.name 7) (.cons (.name 8) (.cons (.name 9) (.cons (.name 10) .nil))))) (.seq (.ix (.var 1) (.int 3))) (.cons (.put (.var 6) (.var 7) (.bin .add (.ix (.var 6) (.var 7)) (.bin .mul (.bin .mul (.var 10) (.ix (.var 4) (.var 8))) (.ix (.var 5) (.var 9)))))
 .nil))
 (.cons (.ite (.cmp .ne (.call 6 (.cons (.var 0) (.cons (.var 4) (.cons (.var 5) .nil)))) (.var 6)) (.cons (.ret (.tup (.cons (.var 4) (.cons (.var 5) .nil))))
 .nil) .nil)
 .nil))))))
 .nil))
 (.cons (.ret .non)
 .nil))
noncomputable def d29:FD:=⟨"_law_first",ai 34,["_law_scheme_here","_law_task","_law_i","_law_j","_law_one","_law_other","_law_due","_law_k","_law_left","_law_right_here","_law_c"],2,b29⟩
noncomputable def b30:MSs:=
 (.cons (.asg (.name 2) (.lst .nil))
 (.cons (.asg (.name 3) (.int 1))
 (.cons (.for (.name 4) (.rng1 (.var 0)) (.cons (.drop (.meth .append (.var 2) (.var 3)))
 (.cons (.for (.name 5) (.rng1 (.var 1)) (.cons (.asg (.name 3) (.bin .mul (.var 3) (.bin .pow (.int 10) (.int 40))))
 .nil))
 .nil)))
 (.cons (.ret (.var 2))
 .nil))))
noncomputable def d30:FD:=⟨"_law_apart",ai 35,["_law_many","_law_times","_law_row_here","_law_number_here","_law_place","_law_turn"],2,b30⟩
noncomputable def b31:MSs:=
 (.cons (.asg (.name 3) (.call 29 (.cons (.var 1) (.cons (.var 2) .nil))))
 (.cons (.asg (.name 4) (.call 10 (.cons (.var 1) (.cons (.var 2) .nil))))
 (.cons (.ite (.or (.cons (.not (.tru (.isin (.var 4) "bool"))) (.cons (.cmp .ne (.var 4) (.cmp .is (.var 3) .non)) (.cons (.cmp .ne (.call 12 (.cons (.var 1) (.cons (.var 2) .nil))) (.var 3)) .nil)))) (.cons (.ret (.bl N3))
 .nil) .nil)
 (.cons (.asg (.name 5) (.call 30 (.cons (.ix (.var 1) (.int 0)) (.cons (.int 1) .nil))))
 (.cons (.asg (.name 6) (.call 30 (.cons (.ix (.var 1) (.int 1)) (.cons (.int 10) .nil))))
 (.cons (.asg (.name 7) (.cmp .eq (.call 6 (.cons (.var 1) (.cons (.var 5) (.cons (.var 6) .nil)))) (.call 1 (.cons (.var 2) (.cons (.var 5) (.cons (.var 6) .nil))))))
 (.cons (.ite (.cmp .ne (.var 7) (.cmp .is (.var 3) .non)) (.cons (.ret (.bl N3))
 .nil) .nil)
 (.cons (.ite (.cmp .is (.var 3) .non) (.cons (.par 8 9 (.call 23 (.cons (.var 0) (.cons (.ix (.var 1) (.int 0)) .nil))) (.call 23 (.cons (.var 0) (.cons (.ix (.var 1) (.int 1)) .nil))))
 (.cons (.ret (.and (.cons (.cmp .eq (.call 6 (.cons (.var 1) (.cons (.var 8) (.cons (.var 9) .nil)))) (.call 1 (.cons (.var 2) (.cons (.var 8) (.cons (.var 9) .nil))))) (.cons (.cmp .eq (.call 9 (.cons (.var 1) .nil)) (.var 2)) .nil))))
 .nil)) .nil)
 (.cons (.ret (.bl F2))
 .nil)))))))))
noncomputable def d31:FD:=⟨"_law_right",ai 36,["_law_box_here","_law_scheme_here","_law_task","_law_first_here","_law_found","_law_far","_law_farther","_law_same","_law_one","_law_other"],3,b31⟩
noncomputable def b32:MSs:=
 (.cons (.for (.name 1) (.rng1 (.bin .add (.int 1) (.blt .min2 (.cons (.int 6) (.cons (.blt .len (.cons (.var 0) .nil)) .nil))))) (.cons (.asg (.name 2) (.call 20 (.cons (.var 0) (.cons (.var 1) .nil))))
 (.cons (.asg (.tup (.cons (.name 3) (.cons (.name 4) .nil))) (.call 26 (.cons (.var 2) .nil)))
 (.cons (.asg (.name 3) (.call 27 (.cons (.var 2) (.cons (.var 3) .nil))))
 (.cons (.ite (.not (.tru (.call 31 (.cons (.var 2) (.cons (.var 3) (.cons (.var 4) .nil)))))) (.cons (.ret (.bl N3))
 .nil) .nil)
 (.cons (.ite (.and (.cons (.cmp .ne (.ix (.var 3) (.int 3)) (.lst .nil)) (.cons (.not (.tru (.call 31 (.cons (.var 2) (.cons (.call 28 (.cons (.var 2) (.cons (.var 3) .nil))) (.cons (.var 4) .nil)))))) .nil))) (.cons (.ret (.bl N3))
 .nil) .nil)
 .nil))))))
 (.cons (.ret (.bl F2))
 .nil))
noncomputable def d32:FD:=⟨"law",ai 37,["_law_script","_law_k","_law_box_here","_law_scheme_here","_law_task"],1,b32⟩
noncomputable def tab:List FD:=[d0,d1,d2,d3,d4,d5,d6,d7,d8,d9,d10,d11,d12,d13,d14,d15,d16,d17,d18,d19,d20,d21,d22,d23,d24,d25,d26,d27,d28,d29,d30,d31,d32]
noncomputable def qr:List (Str×D):=[("SEVEN",(.tup [(.tup [(.tup [(.int 1),(.int 0),(.int 0),(.int 1)]),(.tup [(.int 1),(.int 0),(.int 0),(.int 1)]),(.tup [(.int 1),(.int 0),(.int 0),(.int 1)])]),(.tup [(.tup [(.int 0),(.int 0),(.int 1),(.int 1)]),(.tup [(.int 1),(.int 0),(.int 0),(.int 0)]),(.tup [(.int 0),(.int 0),(.int 1),(.int (-1))])]),(.tup [(.tup [(.int 1),(.int 0),(.int 0),(.int 0)]),(.tup [(.int 0),(.int 1),(.int 0),(.int (-1))]),(.tup [(.int 0),(.int 1),(.int 0),(.int 1)])]),(.tup [(.tup [(.int 0),(.int 0),(.int 0),(.int 1)]),(.tup [(.int (-1)),(.int 0),(.int 1),(.int 0)]),(.tup [(.int 1),(.int 0),(.int 1),(.int 0)])]),(.tup [(.tup [(.int 1),(.int 1),(.int 0),(.int 0)]),(.tup [(.int 0),(.int 0),(.int 0),(.int 1)]),(.tup [(.int (-1)),(.int 1),(.int 0),(.int 0)])]),(.tup [(.tup [(.int (-1)),(.int 0),(.int 1),(.int 0)]),(.tup [(.int 1),(.int 1),(.int 0),(.int 0)]),(.tup [(.int 0),(.int 0),(.int 0),(.int 1)])]),(.tup [(.tup [(.int 0),(.int 1),(.int 0),(.int (-1))]),(.tup [(.int 0),(.int 0),(.int 1),(.int 1)]),(.tup [(.int 1),(.int 0),(.int 0),(.int 0)])])]))]
end K60
end
section
namespace K60
theorem DI:∀d∈tab,u8 (tab.map (·.name)) qr d=F2:=by decide +kernel
noncomputable abbrev PA(K:Frag)(x:Str)(f:VH):Prop:=OV K Mf x=Z (Z (.ref f))
noncomputable abbrev PL(K:Frag)(f:VH)(x:Str)(s:Stmt)(oc:hH)(od:Option VH)(kV dc pm:hH)(an:Option VH)(cd ct:hH)(sl:Array (Option hH)):Prop:=K.lookup f=Z ⟨oc,od,.func (Oj x x (dA s) (bY s) (aC s) .none kV dc pm an cd ct),sl⟩
noncomputable abbrev PC(K:Frag)(c:hH)(x:Str):Prop:=QH K c x=F2
noncomputable abbrev PK(K:Frag)(f:VH):Prop:=ON K (.ref f)=F2
theorem all_mk{l:Sf}{w:Lo}{K:Frag}{h:Heap}{mg:Str->Option hH}{fa:VH}(X:K.In h)(G:h.Ns Mf mg)(hfa:mg "law"=Z (.ref fa))(z:∀x∈bltNames,OV K Mf x=Z Y)(a0:PA K "task_of" f0)(l0:PL K f0 "task_of" (ai 1) oc0 od0 kV0 dc0 pm0 an0 cd0 ct0 sl0)(c0:PC K cd0 "task_of")(k0:PK K f0)(a1:PA K "value_of" f1)(l1:PL K f1 "value_of" (ai 2) oc1 od1 kV1 dc1 pm1 an1 cd1 ct1 sl1)(c1:PC K cd1 "value_of")(k1:PK K f1)(a2:PA K "table_task" f2)(l2:PL K f2 "table_task" (ai 3) oc2 od2 kV2 dc2 pm2 an2 cd2 ct2 sl2)(c2:PC K cd2 "table_task")(k2:PK K f2)(a3:PA K "line_task" f3)(l3:PL K f3 "line_task" (ai 4) oc3 od3 kV3 dc3 pm3 an3 cd3 ct3 sl3)(c3:PC K cd3 "line_task")(k3:PK K f3)(a4:PA K "ring_task" f4)(l4:PL K f4 "ring_task" (ai 5) oc4 od4 kV4 dc4 pm4 an4 cd4 ct4 sl4)(c4:PC K cd4 "ring_task")(k4:PK K f4)(a5:PA K "part_of_row" f5)(l5:PL K f5 "part_of_row" (ai 7) oc5 od5 kV5 dc5 pm5 an5 cd5 ct5 sl5)(c5:PC K cd5 "part_of_row")(k5:PK K f5)(a6:PA K "applied" f6)(l6:PL K f6 "applied" (ai 8) oc6 od6 kV6 dc6 pm6 an6 cd6 ct6 sl6)(c6:PC K cd6 "applied")(k6:PK K f6)(a7:PA K "filled" f7)(l7:PL K f7 "filled" (ai 9) oc7 od7 kV7 dc7 pm7 an7 cd7 ct7 sl7)(c7:PC K cd7 "filled")(k7:PK K f7)(a8:PA K "rows_by_pairs" f8)(l8:PL K f8 "rows_by_pairs" (ai 10) oc8 od8 kV8 dc8 pm8 an8 cd8 ct8 sl8)(c8:PC K cd8 "rows_by_pairs")(k8:PK K f8)(a9:PA K "task_by" f9)(l9:PL K f9 "task_by" (ai 11) oc9 od9 kV9 dc9 pm9 an9 cd9 ct9 sl9)(c9:PC K cd9 "task_by")(k9:PK K f9)(a10:PA K "does" f10)(l10:PL K f10 "does" (ai 12) oc10 od10 kV10 dc10 pm10 an10 cd10 ct10 sl10)(c10:PC K cd10 "does")(k10:PK K f10)(a11:PA K "single_one" f11)(l11:PL K f11 "single_one" (ai 13) oc11 od11 kV11 dc11 pm11 an11 cd11 ct11 sl11)(c11:PC K cd11 "single_one")(k11:PK K f11)(a12:PA K "fails_at" f12)(l12:PL K f12 "fails_at" (ai 14) oc12 od12 kV12 dc12 pm12 an12 cd12 ct12 sl12)(c12:PC K cd12 "fails_at")(k12:PK K f12)(a13:PA K "plain" f13)(l13:PL K f13 "plain" (ai 17) oc13 od13 kV13 dc13 pm13 an13 cd13 ct13 sl13)(c13:PC K cd13 "plain")(k13:PK K f13)(a14:PA K "own_product" f14)(l14:PL K f14 "own_product" (ai 18) oc14 od14 kV14 dc14 pm14 an14 cd14 ct14 sl14)(c14:PC K cd14 "own_product")(k14:PK K f14)(a15:PA K "pair_product" f15)(l15:PL K f15 "pair_product" (ai 19) oc15 od15 kV15 dc15 pm15 an15 cd15 ct15 sl15)(c15:PC K cd15 "pair_product")(k15:PK K f15)(a16:PA K "by_pairs" f16)(l16:PL K f16 "by_pairs" (ai 20) oc16 od16 kV16 dc16 pm16 an16 cd16 ct16 sl16)(c16:PC K cd16 "by_pairs")(k16:PK K f16)(a17:PA K "seven" f17)(l17:PL K f17 "seven" (ai 21) oc17 od17 kV17 dc17 pm17 an17 cd17 ct17 sl17)(c17:PC K cd17 "seven")(k17:PK K f17)(a18:PA K "_law_cell_at" f18)(l18:PL K f18 "_law_cell_at" (ai 23) oc18 od18 kV18 dc18 pm18 an18 cd18 ct18 sl18)(c18:PC K cd18 "_law_cell_at")(k18:PK K f18)(a19:PA K "_law_mixed" f19)(l19:PL K f19 "_law_mixed" (ai 24) oc19 od19 kV19 dc19 pm19 an19 cd19 ct19 sl19)(c19:PC K cd19 "_law_mixed")(k19:PK K f19)(a20:PA K "_law_box" f20)(l20:PL K f20 "_law_box" (ai 25) oc20 od20 kV20 dc20 pm20 an20 cd20 ct20 sl20)(c20:PC K cd20 "_law_box")(k20:PK K f20)(a21:PA K "_law_take" f21)(l21:PL K f21 "_law_take" (ai 26) oc21 od21 kV21 dc21 pm21 an21 cd21 ct21 sl21)(c21:PC K cd21 "_law_take")(k21:PK K f21)(a22:PA K "_law_number" f22)(l22:PL K f22 "_law_number" (ai 27) oc22 od22 kV22 dc22 pm22 an22 cd22 ct22 sl22)(c22:PC K cd22 "_law_number")(k22:PK K f22)(a23:PA K "_law_row" f23)(l23:PL K f23 "_law_row" (ai 28) oc23 od23 kV23 dc23 pm23 an23 cd23 ct23 sl23)(c23:PC K cd23 "_law_row")(k23:PK K f23)(a24:PA K "_law_part" f24)(l24:PL K f24 "_law_part" (ai 29) oc24 od24 kV24 dc24 pm24 an24 cd24 ct24 sl24)(c24:PC K cd24 "_law_part")(k24:PK K f24)(a25:PA K "_law_scheme" f25)(l25:PL K f25 "_law_scheme" (ai 30) oc25 od25 kV25 dc25 pm25 an25 cd25 ct25 sl25)(c25:PC K cd25 "_law_scheme")(k25:PK K f25)(a26:PA K "_law_pair" f26)(l26:PL K f26 "_law_pair" (ai 31) oc26 od26 kV26 dc26 pm26 an26 cd26 ct26 sl26)(c26:PC K cd26 "_law_pair")(k26:PK K f26)(a27:PA K "_law_put_otherwise" f27)(l27:PL K f27 "_law_put_otherwise" (ai 32) oc27 od27 kV27 dc27 pm27 an27 cd27 ct27 sl27)(c27:PC K cd27 "_law_put_otherwise")(k27:PK K f27)(a28:PA K "_law_spoilt" f28)(l28:PL K f28 "_law_spoilt" (ai 33) oc28 od28 kV28 dc28 pm28 an28 cd28 ct28 sl28)(c28:PC K cd28 "_law_spoilt")(k28:PK K f28)(a29:PA K "_law_first" f29)(l29:PL K f29 "_law_first" (ai 34) oc29 od29 kV29 dc29 pm29 an29 cd29 ct29 sl29)(c29:PC K cd29 "_law_first")(k29:PK K f29)(a30:PA K "_law_apart" f30)(l30:PL K f30 "_law_apart" (ai 35) oc30 od30 kV30 dc30 pm30 an30 cd30 ct30 sl30)(c30:PC K cd30 "_law_apart")(k30:PK K f30)(a31:PA K "_law_right" f31)(l31:PL K f31 "_law_right" (ai 36) oc31 od31 kV31 dc31 pm31 an31 cd31 ct31 sl31)(c31:PC K cd31 "_law_right")(k31:PK K f31)(a32:PA K "law" f32)(l32:PL K f32 "law" (ai 37) oc32 od32 kV32 dc32 pm32 an32 cd32 ct32 sl32)(c32:PC K cd32 "law")(k32:PK K f32)(gcst0:OV K Mf "SEVEN"=Z (Z (.ref ua0)))(gu0:K.lookup ua0=Z ⟨.type "tuple",uo0,.seq #[(.ref ua1),(.ref ua17),(.ref ua33),(.ref ua49),(.ref ua65),(.ref ua81),(.ref ua97)] un0,us0⟩)(gu1:K.lookup ua1=Z ⟨.type "tuple",uo1,.seq #[(.ref ua2),(.ref ua7),(.ref ua12)] un1,us1⟩)(gu2:K.lookup ua2=Z ⟨.type "tuple",uo2,.seq #[(.int 1 ut3),(.int 0 ut4),(.int 0 ut5),(.int 1 ut6)] un2,us2⟩)(gu7:K.lookup ua7=Z ⟨.type "tuple",uo7,.seq #[(.int 1 ut8),(.int 0 ut9),(.int 0 ut10),(.int 1 ut11)] un7,us7⟩)(gu12:K.lookup ua12=Z ⟨.type "tuple",uo12,.seq #[(.int 1 ut13),(.int 0 ut14),(.int 0 ut15),(.int 1 ut16)] un12,us12⟩)(gu17:K.lookup ua17=Z ⟨.type "tuple",uo17,.seq #[(.ref ua18),(.ref ua23),(.ref ua28)] un17,us17⟩)(gu18:K.lookup ua18=Z ⟨.type "tuple",uo18,.seq #[(.int 0 ut19),(.int 0 ut20),(.int 1 ut21),(.int 1 ut22)] un18,us18⟩)(gu23:K.lookup ua23=Z ⟨.type "tuple",uo23,.seq #[(.int 1 ut24),(.int 0 ut25),(.int 0 ut26),(.int 0 ut27)] un23,us23⟩)(gu28:K.lookup ua28=Z ⟨.type "tuple",uo28,.seq #[(.int 0 ut29),(.int 0 ut30),(.int 1 ut31),(.int (-1) ut32)] un28,us28⟩)(gu33:K.lookup ua33=Z ⟨.type "tuple",uo33,.seq #[(.ref ua34),(.ref ua39),(.ref ua44)] un33,us33⟩)(gu34:K.lookup ua34=Z ⟨.type "tuple",uo34,.seq #[(.int 1 ut35),(.int 0 ut36),(.int 0 ut37),(.int 0 ut38)] un34,us34⟩)(gu39:K.lookup ua39=Z ⟨.type "tuple",uo39,.seq #[(.int 0 ut40),(.int 1 ut41),(.int 0 ut42),(.int (-1) ut43)] un39,us39⟩)(gu44:K.lookup ua44=Z ⟨.type "tuple",uo44,.seq #[(.int 0 ut45),(.int 1 ut46),(.int 0 ut47),(.int 1 ut48)] un44,us44⟩)(gu49:K.lookup ua49=Z ⟨.type "tuple",uo49,.seq #[(.ref ua50),(.ref ua55),(.ref ua60)] un49,us49⟩)(gu50:K.lookup ua50=Z ⟨.type "tuple",uo50,.seq #[(.int 0 ut51),(.int 0 ut52),(.int 0 ut53),(.int 1 ut54)] un50,us50⟩)(gu55:K.lookup ua55=Z ⟨.type "tuple",uo55,.seq #[(.int (-1) ut56),(.int 0 ut57),(.int 1 ut58),(.int 0 ut59)] un55,us55⟩)(gu60:K.lookup ua60=Z ⟨.type "tuple",uo60,.seq #[(.int 1 ut61),(.int 0 ut62),(.int 1 ut63),(.int 0 ut64)] un60,us60⟩)(gu65:K.lookup ua65=Z ⟨.type "tuple",uo65,.seq #[(.ref ua66),(.ref ua71),(.ref ua76)] un65,us65⟩)(gu66:K.lookup ua66=Z ⟨.type "tuple",uo66,.seq #[(.int 1 ut67),(.int 1 ut68),(.int 0 ut69),(.int 0 ut70)] un66,us66⟩)(gu71:K.lookup ua71=Z ⟨.type "tuple",uo71,.seq #[(.int 0 ut72),(.int 0 ut73),(.int 0 ut74),(.int 1 ut75)] un71,us71⟩)(gu76:K.lookup ua76=Z ⟨.type "tuple",uo76,.seq #[(.int (-1) ut77),(.int 1 ut78),(.int 0 ut79),(.int 0 ut80)] un76,us76⟩)(gu81:K.lookup ua81=Z ⟨.type "tuple",uo81,.seq #[(.ref ua82),(.ref ua87),(.ref ua92)] un81,us81⟩)(gu82:K.lookup ua82=Z ⟨.type "tuple",uo82,.seq #[(.int (-1) ut83),(.int 0 ut84),(.int 1 ut85),(.int 0 ut86)] un82,us82⟩)(gu87:K.lookup ua87=Z ⟨.type "tuple",uo87,.seq #[(.int 1 ut88),(.int 1 ut89),(.int 0 ut90),(.int 0 ut91)] un87,us87⟩)(gu92:K.lookup ua92=Z ⟨.type "tuple",uo92,.seq #[(.int 0 ut93),(.int 0 ut94),(.int 0 ut95),(.int 1 ut96)] un92,us92⟩)(gu97:K.lookup ua97=Z ⟨.type "tuple",uo97,.seq #[(.ref ua98),(.ref ua103),(.ref ua108)] un97,us97⟩)(gu98:K.lookup ua98=Z ⟨.type "tuple",uo98,.seq #[(.int 0 ut99),(.int 1 ut100),(.int 0 ut101),(.int (-1) ut102)] un98,us98⟩)(gu103:K.lookup ua103=Z ⟨.type "tuple",uo103,.seq #[(.int 0 ut104),(.int 0 ut105),(.int 1 ut106),(.int 1 ut107)] un103,us103⟩)(gu108:K.lookup ua108=Z ⟨.type "tuple",uo108,.seq #[(.int 1 ut109),(.int 0 ut110),(.int 0 ut111),(.int 0 ut112)] un108,us108⟩)
 : ∃fd:OM,(∀(s:p7) (v:hH),Tx s fd ⟨[v],[]⟩ [("_law_script",v)])/\∀base:Heap,K.In base->base.Ns Mf mg->dN l.prog w K mg base CX0 40 fa fd ["_law_script"] (lSp K (phi tab 40 32)):=by
 have e:=hfa.symm.trans (KP X G a32)
 cases e
 have O:zY K mg tab qr:=by
  refine⟨λx hx=>PySem.W.mg_none_of X G (z x hx),?_,DI,?_⟩
  ·intro i d hd
   match i,hd with
   |0,hd=>cases hd;exact⟨_,_,ah l0 c0 k0,KP X G a0,a0,(ah l0 c0 k0).binds λ_ _ _ _ _ _ us hl=>by obtain⟨u0,u1,u2,u3,rfl⟩:=EK us hl;rfl⟩
   |1,hd=>cases hd;exact⟨_,_,ah l1 c1 k1,KP X G a1,a1,(ah l1 c1 k1).binds λ_ _ _ _ _ _ us hl=>by obtain⟨u0,u1,u2,rfl⟩:=fP us hl;rfl⟩
   |2,hd=>cases hd;exact⟨_,_,ah l2 c2 k2,KP X G a2,a2,(ah l2 c2 k2).binds λ_ _ _ _ _ _ us hl=>by obtain⟨u0,u1,u2,rfl⟩:=fP us hl;rfl⟩
   |3,hd=>cases hd;exact⟨_,_,ah l3 c3 k3,KP X G a3,a3,(ah l3 c3 k3).binds λ_ _ _ _ _ _ us hl=>by obtain⟨u0,u1,rfl⟩:=bn us hl;rfl⟩
   |4,hd=>cases hd;exact⟨_,_,ah l4 c4 k4,KP X G a4,a4,(ah l4 c4 k4).binds λ_ _ _ _ _ _ us hl=>by obtain⟨u0,u1,rfl⟩:=bn us hl;rfl⟩
   |5,hd=>cases hd;exact⟨_,_,ah l5 c5 k5,KP X G a5,a5,(ah l5 c5 k5).binds λ_ _ _ _ _ _ us hl=>by obtain⟨u0,u1,rfl⟩:=bn us hl;rfl⟩
   |6,hd=>cases hd;exact⟨_,_,ah l6 c6 k6,KP X G a6,a6,(ah l6 c6 k6).binds λ_ _ _ _ _ _ us hl=>by obtain⟨u0,u1,u2,rfl⟩:=fP us hl;rfl⟩
   |7,hd=>cases hd;exact⟨_,_,ah l7 c7 k7,KP X G a7,a7,(ah l7 c7 k7).binds λ_ _ _ _ _ _ us hl=>by obtain⟨u0,rfl⟩:=dw us hl;rfl⟩
   |8,hd=>cases hd;exact⟨_,_,ah l8 c8 k8,KP X G a8,a8,(ah l8 c8 k8).binds λ_ _ _ _ _ _ us hl=>by obtain⟨u0,rfl⟩:=dw us hl;rfl⟩
   |9,hd=>cases hd;exact⟨_,_,ah l9 c9 k9,KP X G a9,a9,(ah l9 c9 k9).binds λ_ _ _ _ _ _ us hl=>by obtain⟨u0,rfl⟩:=dw us hl;rfl⟩
   |10,hd=>cases hd;exact⟨_,_,ah l10 c10 k10,KP X G a10,a10,(ah l10 c10 k10).binds λ_ _ _ _ _ _ us hl=>by obtain⟨u0,u1,rfl⟩:=bn us hl;rfl⟩
   |11,hd=>cases hd;exact⟨_,_,ah l11 c11 k11,KP X G a11,a11,(ah l11 c11 k11).binds λ_ _ _ _ _ _ us hl=>by obtain⟨u0,u1,rfl⟩:=bn us hl;rfl⟩
   |12,hd=>cases hd;exact⟨_,_,ah l12 c12 k12,KP X G a12,a12,(ah l12 c12 k12).binds λ_ _ _ _ _ _ us hl=>by obtain⟨u0,u1,rfl⟩:=bn us hl;rfl⟩
   |13,hd=>cases hd;exact⟨_,_,ah l13 c13 k13,KP X G a13,a13,(ah l13 c13 k13).binds λ_ _ _ _ _ _ us hl=>by obtain⟨u0,rfl⟩:=dw us hl;rfl⟩
   |14,hd=>cases hd;exact⟨_,_,ah l14 c14 k14,KP X G a14,a14,(ah l14 c14 k14).binds λ_ _ _ _ _ _ us hl=>by obtain⟨u0,u1,rfl⟩:=bn us hl;rfl⟩
   |15,hd=>cases hd;exact⟨_,_,ah l15 c15 k15,KP X G a15,a15,(ah l15 c15 k15).binds λ_ _ _ _ _ _ us hl=>by obtain⟨u0,u1,u2,rfl⟩:=fP us hl;rfl⟩
   |16,hd=>cases hd;exact⟨_,_,ah l16 c16 k16,KP X G a16,a16,(ah l16 c16 k16).binds λ_ _ _ _ _ _ us hl=>by obtain⟨u0,rfl⟩:=dw us hl;rfl⟩
   |17,hd=>cases hd;exact⟨_,_,ah l17 c17 k17,KP X G a17,a17,(ah l17 c17 k17).binds λ_ _ _ _ _ _ us hl=>by obtain⟨rfl⟩:=EJ us hl;rfl⟩
   |18,hd=>cases hd;exact⟨_,_,ah l18 c18 k18,KP X G a18,a18,(ah l18 c18 k18).binds λ_ _ _ _ _ _ us hl=>by obtain⟨u0,u1,rfl⟩:=bn us hl;rfl⟩
   |19,hd=>cases hd;exact⟨_,_,ah l19 c19 k19,KP X G a19,a19,(ah l19 c19 k19).binds λ_ _ _ _ _ _ us hl=>by obtain⟨u0,u1,rfl⟩:=bn us hl;rfl⟩
   |20,hd=>cases hd;exact⟨_,_,ah l20 c20 k20,KP X G a20,a20,(ah l20 c20 k20).binds λ_ _ _ _ _ _ us hl=>by obtain⟨u0,u1,rfl⟩:=bn us hl;rfl⟩
   |21,hd=>cases hd;exact⟨_,_,ah l21 c21 k21,KP X G a21,a21,(ah l21 c21 k21).binds λ_ _ _ _ _ _ us hl=>by obtain⟨u0,u1,rfl⟩:=bn us hl;rfl⟩
   |22,hd=>cases hd;exact⟨_,_,ah l22 c22 k22,KP X G a22,a22,(ah l22 c22 k22).binds λ_ _ _ _ _ _ us hl=>by obtain⟨u0,rfl⟩:=dw us hl;rfl⟩
   |23,hd=>cases hd;exact⟨_,_,ah l23 c23 k23,KP X G a23,a23,(ah l23 c23 k23).binds λ_ _ _ _ _ _ us hl=>by obtain⟨u0,u1,rfl⟩:=bn us hl;rfl⟩
   |24,hd=>cases hd;exact⟨_,_,ah l24 c24 k24,KP X G a24,a24,(ah l24 c24 k24).binds λ_ _ _ _ _ _ us hl=>by obtain⟨u0,u1,rfl⟩:=bn us hl;rfl⟩
   |25,hd=>cases hd;exact⟨_,_,ah l25 c25 k25,KP X G a25,a25,(ah l25 c25 k25).binds λ_ _ _ _ _ _ us hl=>by obtain⟨u0,u1,u2,rfl⟩:=fP us hl;rfl⟩
   |26,hd=>cases hd;exact⟨_,_,ah l26 c26 k26,KP X G a26,a26,(ah l26 c26 k26).binds λ_ _ _ _ _ _ us hl=>by obtain⟨u0,rfl⟩:=dw us hl;rfl⟩
   |27,hd=>cases hd;exact⟨_,_,ah l27 c27 k27,KP X G a27,a27,(ah l27 c27 k27).binds λ_ _ _ _ _ _ us hl=>by obtain⟨u0,u1,rfl⟩:=bn us hl;rfl⟩
   |28,hd=>cases hd;exact⟨_,_,ah l28 c28 k28,KP X G a28,a28,(ah l28 c28 k28).binds λ_ _ _ _ _ _ us hl=>by obtain⟨u0,u1,rfl⟩:=bn us hl;rfl⟩
   |29,hd=>cases hd;exact⟨_,_,ah l29 c29 k29,KP X G a29,a29,(ah l29 c29 k29).binds λ_ _ _ _ _ _ us hl=>by obtain⟨u0,u1,rfl⟩:=bn us hl;rfl⟩
   |30,hd=>cases hd;exact⟨_,_,ah l30 c30 k30,KP X G a30,a30,(ah l30 c30 k30).binds λ_ _ _ _ _ _ us hl=>by obtain⟨u0,u1,rfl⟩:=bn us hl;rfl⟩
   |31,hd=>cases hd;exact⟨_,_,ah l31 c31 k31,KP X G a31,a31,(ah l31 c31 k31).binds λ_ _ _ _ _ _ us hl=>by obtain⟨u0,u1,u2,rfl⟩:=fP us hl;rfl⟩
   |32,hd=>cases hd;exact⟨_,_,ah l32 c32 k32,KP X G a32,a32,(ah l32 c32 k32).binds λ_ _ _ _ _ _ us hl=>by obtain⟨u0,rfl⟩:=dw us hl;rfl⟩
   |i+33,hd=>simp[tab]at hd
  ·intro x i hx;simp only[qr,Km,Lj,or_false,OE]at hx
   rcases hx with⟨rfl,rfl⟩
   ·exact⟨_,KP X G gcst0,(GV.tups gu0 (by simp) rfl (GVs.cons (GV.tups gu1 (by simp) rfl (GVs.cons (GV.tups gu2 (by simp) rfl (GVs.cons GV.ints (GVs.cons GV.ints (GVs.cons GV.ints (GVs.cons GV.ints GVs.nil))))) (GVs.cons (GV.tups gu7 (by simp) rfl (GVs.cons GV.ints (GVs.cons GV.ints (GVs.cons GV.ints (GVs.cons GV.ints GVs.nil))))) (GVs.cons (GV.tups gu12 (by simp) rfl (GVs.cons GV.ints (GVs.cons GV.ints (GVs.cons GV.ints (GVs.cons GV.ints GVs.nil))))) GVs.nil)))) (GVs.cons (GV.tups gu17 (by simp) rfl (GVs.cons (GV.tups gu18 (by simp) rfl (GVs.cons GV.ints (GVs.cons GV.ints (GVs.cons GV.ints (GVs.cons GV.ints GVs.nil))))) (GVs.cons (GV.tups gu23 (by simp) rfl (GVs.cons GV.ints (GVs.cons GV.ints (GVs.cons GV.ints (GVs.cons GV.ints GVs.nil))))) (GVs.cons (GV.tups gu28 (by simp) rfl (GVs.cons GV.ints (GVs.cons GV.ints (GVs.cons GV.ints (GVs.cons GV.ints GVs.nil))))) GVs.nil)))) (GVs.cons (GV.tups gu33 (by simp) rfl (GVs.cons (GV.tups gu34 (by simp) rfl (GVs.cons GV.ints (GVs.cons GV.ints (GVs.cons GV.ints (GVs.cons GV.ints GVs.nil))))) (GVs.cons (GV.tups gu39 (by simp) rfl (GVs.cons GV.ints (GVs.cons GV.ints (GVs.cons GV.ints (GVs.cons GV.ints GVs.nil))))) (GVs.cons (GV.tups gu44 (by simp) rfl (GVs.cons GV.ints (GVs.cons GV.ints (GVs.cons GV.ints (GVs.cons GV.ints GVs.nil))))) GVs.nil)))) (GVs.cons (GV.tups gu49 (by simp) rfl (GVs.cons (GV.tups gu50 (by simp) rfl (GVs.cons GV.ints (GVs.cons GV.ints (GVs.cons GV.ints (GVs.cons GV.ints GVs.nil))))) (GVs.cons (GV.tups gu55 (by simp) rfl (GVs.cons GV.ints (GVs.cons GV.ints (GVs.cons GV.ints (GVs.cons GV.ints GVs.nil))))) (GVs.cons (GV.tups gu60 (by simp) rfl (GVs.cons GV.ints (GVs.cons GV.ints (GVs.cons GV.ints (GVs.cons GV.ints GVs.nil))))) GVs.nil)))) (GVs.cons (GV.tups gu65 (by simp) rfl (GVs.cons (GV.tups gu66 (by simp) rfl (GVs.cons GV.ints (GVs.cons GV.ints (GVs.cons GV.ints (GVs.cons GV.ints GVs.nil))))) (GVs.cons (GV.tups gu71 (by simp) rfl (GVs.cons GV.ints (GVs.cons GV.ints (GVs.cons GV.ints (GVs.cons GV.ints GVs.nil))))) (GVs.cons (GV.tups gu76 (by simp) rfl (GVs.cons GV.ints (GVs.cons GV.ints (GVs.cons GV.ints (GVs.cons GV.ints GVs.nil))))) GVs.nil)))) (GVs.cons (GV.tups gu81 (by simp) rfl (GVs.cons (GV.tups gu82 (by simp) rfl (GVs.cons GV.ints (GVs.cons GV.ints (GVs.cons GV.ints (GVs.cons GV.ints GVs.nil))))) (GVs.cons (GV.tups gu87 (by simp) rfl (GVs.cons GV.ints (GVs.cons GV.ints (GVs.cons GV.ints (GVs.cons GV.ints GVs.nil))))) (GVs.cons (GV.tups gu92 (by simp) rfl (GVs.cons GV.ints (GVs.cons GV.ints (GVs.cons GV.ints (GVs.cons GV.ints GVs.nil))))) GVs.nil)))) (GVs.cons (GV.tups gu97 (by simp) rfl (GVs.cons (GV.tups gu98 (by simp) rfl (GVs.cons GV.ints (GVs.cons GV.ints (GVs.cons GV.ints (GVs.cons GV.ints GVs.nil))))) (GVs.cons (GV.tups gu103 (by simp) rfl (GVs.cons GV.ints (GVs.cons GV.ints (GVs.cons GV.ints (GVs.cons GV.ints GVs.nil))))) (GVs.cons (GV.tups gu108 (by simp) rfl (GVs.cons GV.ints (GVs.cons GV.ints (GVs.cons GV.ints (GVs.cons GV.ints GVs.nil))))) GVs.nil)))) GVs.nil))))))))⟩
 refine⟨Oj "law" "law" (dA (ai 37)) (bY (ai 37)) (aC (ai 37)) .none kV32 dc32 pm32 an32 cd32 ct32,λs v=>.of_eq rfl,λbase _ _=>?_⟩;exact wt O 40 32 d32 _ _ rfl (ah l32 c32 k32)
theorem walk {l:Sf}{q:KW}{loose:List Str}{XP:(Str->Option hH)->Heap->Prop}{YP:Lo->Heap->Prop}{d:DefRec}{K:Params->Frag}(hn:l.most=Z 63)(hdf:d.params.defaults=[])(hlaw:∀ns:List Int,ns.length<=63->phi tab 40 32 [.con (ns.map D.int)] (fun _=>Y) fun d _=>d=.bl F2)(hY:∀(w:Lo) (h:Heap),YP w h->(K w.params).In h)(F:∀(w:Lo) (mg:Str->Option hH) (fa:VH) (h:Heap),(K w.params).In h->h.Ns Mf mg->mg d.name=Z (.ref fa)->
   ∃fd:OM,(∀(s:p7) (u:hH),Tx s fd ⟨[u],[]⟩ [("_law_script",u)])/\∀base:Heap,(K w.params).In base->base.Ns Mf mg->dN l.prog w (K w.params) mg base CX0 40 fa fd ["_law_script"] (lSp (K w.params) (phi tab 40 32))):
 PySem.W.WalkO q loose XP YP l.row.toRowW d [] (λf vs=>V2 f vs):=
 L2.walk_of (n:=63) (k:=40) (x:="_law_script") (CX:=λ_=>CX0) (sp:=λw=>lSp (K w.params) (phi tab 40 32)) hn (by decide) hdf ⟨rfl,by decide,by decide⟩ hY F (λw H a ns hl hO hS=>Dv hO hS (hlaw ns hl)) λ_ _ _ _ _ z=>z
end K60
end
section
namespace K60
open L2.Srt
variable{n:Nat}
theorem si(j:1<=n):ua tab n 19:=wF (x:="_law_number_here") (s:=ai 24) rfl j
theorem aI(j:2<=n):kh tab n 21:=λhb h1 h2 q=>Bk (s:=ai 26) (fm:=19) rfl (si ∅) j hb h1 h2 q
theorem uq(j:3<=n):pX tab n 22:=λhb q=>wx (s:=ai 27) (ft:=21) rfl (aI ∅) ∅ hb q
theorem sj(j:3<=n):zZ tab n 23:=DA (s:=ai 28) (ft:=21) rfl (aI ∅) ∅
theorem qt(j:4<=n):wz tab n 24:=λhL hb q=>Bl (s:=ai 29) (fn:=22) rfl (uq ∅) ∅ hL hb q
variable{M:Mem}{p:VH}
theorem dM{M':Mem}(g:Ge M M')(h:M' p=Y):M p=Y:=by
 cases hz:M p with
 |none=>rfl
 |some o=>rw[g _ _ hz]at h;cases h
structure Ln(L0 L1 L2:Nat):Prop where
 a:1<=L0/\L0<=9
 b:1<=L1/\L1<=9
 c:1<=L2/\L2<=9
variable{L0 L1 N:Nat}{ps:List Pr}{Q:QD}
theorem kr(L:3<=n){x0 z:D}(hL:Ln L0 L1 N)(B:M p=Z (.lst (ps.map prD)))(hc:ps.length<=40)(hF:∀p∈ps,Pf L0 L1 N p)(q:∀(ts rs:List Tm) p' M',IsTask ts rs->(∀k i j,cf ts (k,i,j)=Tn ps k i j)->Ge M M'->M p'=Y->M' p'=Z (.lst (rs.map tmD))->Q (.tup [x0,z,.int N,.ref p']) M'):phi tab n 9 [.tup [x0,z,.int N,.ref p]] M Q:=by obtain⟨h0,h1,F⟩:=hL;have G:L0*L1<=9*9:=L5 h0.2 h1.2;have J:ps.length*(L0*L1)<=40*(9*9):=L5 hc G;have O:ps.length*(L0*L1)*N<=40*(9*9)*9:=L5 J F.2;exact uj (s:=ai 11) (sk:=ai 1) (sf:=ai 9) (sr:=ai 10) rfl rfl rfl rfl ∅ B ∅ ∅ ∅ ∅ ∅ hF q
theorem ls:∀{a b:List Tm},Lx (a.map de) (b.map de)=decide (a=b)
 |[],[]=>by simp[Lx]
 |[],_::_=>by simp[Lx]
 |_::_,[]=>by simp[Lx]
 |x::a,y::b=>by rw[Ks,Ks,Lx,ls];obtain⟨⟨j,q,z⟩,B⟩:=x;obtain⟨⟨F,G,J⟩,L⟩:=y;simp only[de,Lw,Lx,Bool.and_true];rw[UR];simp only[q7,beq_iff_eq,decide_eq_true_eq,Qq,OE];simp only[and_assoc]
variable{B:Int}{r:VH}{us:List Tm}
theorem BN(G:4<=n)(hL:Ln L0 L1 N){A C:Int}(z:M p=Z (.lst (ps.map prD)))(F:M r=Z (.lst (us.map tmD)))(hc:ps.length<=40)(hF:∀p∈ps,Pf L0 L1 N p)(q:∀(ts rs:List Tm) M',IsTask ts rs->(∀k i j,cf ts (k,i,j)=Tn ps k i j)->Ge M M'->Q (.bl (decide ((L0:Int)=A/\(L1:Int)=B/\(N:Int)=C/\rs=us))) M'):phi tab n 10 [.tup [.int L0,.int L1,.int N,.ref p],.tup [.int A,.int B,.int C,.ref r]] M Q:=by
 refine am ∅ rfl rfl (ρ:=[Z _,Z _]) rfl ?_
 unfold d10 L2.Mi.K60.b10;nofun;refine kr ∅ hL z hc hF λts rs p' M' h1 h2 g n' e'=>?_
 refine⟨_,_,io e',io (g _ _ F),?_⟩;have:=q ts rs M' h1 h2 g;rw[show Lw (.tuple [.int L0,.int L1,.int N,.list (rs.map de)]) (.tuple [.int A,.int B,.int C,.list (us.map de)])=decide ((L0:Int)=A/\(L1:Int)=B/\(N:Int)=C/\rs=us)from ?_]
 ·exact this
 ·simp only[Lw,Lx,Bool.and_true,ls];rw[UR];simp only[q7,beq_iff_eq,decide_eq_true_eq]
variable{L:Nat}
theorem lu{i:Nat}(h:i<L):ixN L (i:Nat)=Z i:=by unfold ixN;simp;lia
variable{i:Int}
theorem dy(j:1<=n)(hL:L<=1000)(h0:0<=i)(h1:i<L)(q:∀p M',Ge M M'->M p=Y->M' p=Z (.lst ((one L i).map .int))->Q (.ref p) M'):phi tab n 11 [.int L,.int i] M Q:=by obtain⟨k,rfl⟩:=Lk h0;exact lq (s:=ai 13) rfl j hL ∅ q
def Dif(ps:List Pr)(us:List Tm)(i j:Int):Prop:=∃k,Tn ps k i j≠cf us (k,i,j)
structure Lp(ps:List Pr)(us:List Tm)(i j:Int):Prop where
 at':Dif ps us i j
 le:∀i' j',Dif ps us i' j'->HT.lexLt [i',j'] [i,j]=N3
variable{j:Int}
theorem G5{i' j':Int}(h:HT.lexLt [i,j] [i',j']=N3)(g:HT.lexLt [i',j'] [i,j]=N3):i=i'/\j=j':=by
 simp only[HT.lexLt]at h g
 by_cases e:i=i'
 ·subst e;refine⟨rfl,?_⟩;rw[if_pos rfl]at h g
  by_cases e2:j=j'
  ·exact e2
  ·rw[if_neg e2]at h;rw[if_neg (λz=>e2 z.symm)]at g;have:=of_decide_eq_false h;have:=of_decide_eq_false g;lia
 ·rw[if_neg e]at h;rw[if_neg (λz=>e z.symm)]at g;have:=of_decide_eq_false h;have:=of_decide_eq_false g;lia
theorem Lp.uniq{A:List Pr}{B:List Tm}{i' j':Int}(h:Lp A B i j)(g:Lp A B i' j'):i=i'/\j=j':=G5 (g.le _ _ h.at') (h.le _ _ g.at')
theorem gO{A:List Tm}{k:K3}(h:cf A k≠0):∃t∈A,t.1=k:=by
 cases hf:A.filter (λt=>decide (t.1=k))with
 |nil=>exfalso;apply h;unfold cf;rw[hf];rfl
 |cons t r=>
  have j:t∈A.filter (λt=>decide (t.1=k)):=by rw[hf];exact Lc
  exact⟨t,(LZ.mp j).1,of_decide_eq_true (LZ.mp j).2⟩
theorem wX:∀{l m:List K3},l.Nodup->(∀x∈l,x∈m)->l.length<=m.length
 |[],_,_,_=>by simp
 |x::l,m,h,g=>by
  rw[Ma]at h;have hx:=g x (by simp)
  have ih:=wX (l:=l) (m:=m.erase x) h.2 λy j=>(SN (λe=>h.1 (by rw[<-e];exact j))).mpr (g y (by simp[j]))
  have e:=Rt hx;have:=Sa hx;rw[L4];lia
noncomputable def boxU:List K3:=(D1 9).flatMap λk=>(D1 9).flatMap λi=>(D1 9).map λj=>(((k:Nat):Int),((i:Nat):Int),((j:Nat):Int))
theorem wY{k:Int}(h:(0<=k/\k<9)/\(0<=i/\i<9)/\(0<=j/\j<9)):(k,i,j)∈boxU:=by unfold boxU;simp only[Mt,Ki,L7,OE];exact⟨k.toNat,∅,i.toNat,∅,j.toNat,∅,∅,∅,∅⟩
theorem lv(hF:∀p∈ps,Pf L0 L1 N p):∀u∈ps,u.1.length=L0/\u.2.1.length=L1/\u.2.2.length=N:=λu j=>⟨(hF u j).l1,(hF u j).l2,(hF u j).l3⟩
variable{ts rs:List Tm}
theorem few(hL:Ln L0 L1 N)(hF:∀p∈ps,Pf L0 L1 N p)(h1:IsTask ts rs)(h2:∀k i j,cf ts (k,i,j)=Tn ps k i j):rs.length<=729:=by
 have:=wX (l:=rs.map (·.1)) (m:=boxU) h1.nodup λx hx=>by
  obtain⟨r,q,rfl⟩:=Ki.mp hx;obtain⟨B,F⟩:=h1.iff.mp q;have:=gJ (lv hF) (k:=r.1.1) (i:=r.1.2.1) (j:=r.1.2.2) (by rw[<-h2];intro z;exact B (F.trans z))
  exact wY (by have:=hL.a;have:=hL.b;have:=hL.c;lia)
 rwa[tv,show boxU.length=729 from by decide +kernel]at this
theorem BO{a b c d:D}(q:Q (.tup [b,c]) M):cB (.tup [a,b,c,d]) (Z 1) (Z 3) M Q:=q
theorem qu(hn:5<=n)(hL:Ln L0 L1 N)(hp:M p=Z (.lst (ps.map prD)))(hr:M r=Z (.lst (us.map tmD)))(hc:ps.length<=40)(I8:us.length<=10000)(hF:∀p∈ps,Pf L0 L1 N p)(hU:InB us L0 L1 N)(q0:∀M',Ge M M'->(∀k i j,Tn ps k i j=cf us (k,i,j))->Q .non M')(q1:∀(i j:Nat) a b M',i<L0->j<L1->Lp ps us i j->Ge M M'->M a=Y->M b=Y->a≠b->M' a=Z (.lst ((one L0 (i:Nat)).map .int))->M' b=Z (.lst ((one L1 (j:Nat)).map .int))->Q (.tup [.ref a,.ref b]) M'):phi tab n 12 [.tup [.int L0,.int L1,.int N,.ref p],.tup [.int L0,.int L1,.int N,.ref r]] M Q:=by
 refine am ∅ rfl rfl (ρ:=[Z _,Z _,Y,Y,Y,Y,Y,Y,Y]) rfl ?_
 unfold d12 L2.Mi.K60.b12;nofun;nofun;refine kr ∅ hL hp hc hF λts rs p1 M1 h1 h2 g1 n1 e1=>?_
 refine⟨_,_,rfl,rfl,?_⟩;have B:=g1 _ _ hr;refine⟨_,ad B,?_⟩;refine au (f:=tmD) (ys:=us) (I:=λl ρ M' acc=>(∃o0 o1 o2 o3,ρ=[o0,o1,o2,o3])/\M'=M1/\acc=(ce l).map tmD) rfl ⟨⟨_,_,_,_,rfl⟩,rfl,rfl⟩ (λ_ _ _ _ h=>by rw[h.2.1];exact ad B) ?_ ?_
 ·rintro l t r' ρ M2 acc e ⟨⟨o0,o1,o2,o3,rfl⟩,rfl,rfl⟩;refine⟨_,rfl,λN' q=>?_⟩;have U:=ak e;ac_nf;refine⟨by rw[z4];lia,by rw[tv,z4];unfold ce;rw[tv];lia,q _ _ _ ⟨⟨_,_,_,_,rfl⟩,rfl,?_⟩⟩
  simp[ce,tmD]
 ·rintro ρ M2 acc ⟨_,rfl,rfl⟩ p2 F;have g3:=g1.trans (Ge.new (o:=.lst ((ce us).map tmD)) F);have I9:=few hL hF h1 h2;refine⟨_,_,Ge.new F _ _ e1,aa,by rw[tv,tv,z4];unfold ce;rw[tv];lia,λp3 pv=>?_⟩
  have g4:=g3.trans (Ge.new (o:=.lst ((rs++ce us).map tmD)) pv);rw[<-Ld];refine fg (s:=ai 1) rfl ∅ (ts:=rs++ce us) (ad aa) (by rw[D2];unfold ce;rw[tv];lia) λws p4 M4 G g5 n4 fv=>?_
  refine⟨_,_,rfl,rfl,?_⟩;have g6:=g4.trans g5;have key:∀k i j,cf (rs++ce us) (k,i,j)=Tn ps k i j-cf us (k,i,j):=λk i j=>by rw[bj,qe,h1.cf,h2];lia
  have dif:∀i j,Dif ps us i j↔∃w∈ws,w.1.2=(i,j):=λi j=>by
   constructor
   ·rintro⟨k,hk⟩;have hz:cf ws (k,i,j)≠0:=by rw[G.cf,key];lia
    obtain⟨w,hw,e⟩:=gO hz;exact⟨w,hw,by rw[e]⟩
   ·rintro⟨w,hw,e⟩;obtain⟨z1,O⟩:=G.iff.mp hw;rw[show w.1=(w.1.1,i,j)from QJ rfl e,key]at O;exact⟨w.1.1,∅⟩
  have HY:∀w∈ws,(0<=w.1.2.1/\w.1.2.1<L0)/\(0<=w.1.2.2/\w.1.2.2<L1):=λw hw=>by
   obtain⟨z1,O⟩:=G.iff.mp hw;rw[show w.1=(w.1.1,w.1.2.1,w.1.2.2)from rfl,key]at O
   by_cases za:Tn ps w.1.1 w.1.2.1 w.1.2.2=0
   ·obtain⟨t,ht,e⟩:=gO (A:=us) (k:=w.1) (by intro z;rw[show(w.1.1,w.1.2.1,w.1.2.2)=w.1 from rfl]at O;lia)
    rw[<-e];exact⟨hU.i t ht,hU.j t ht⟩
   ·exact(gJ (lv hF) za).2
  have Ia:ws.length<=20000:=by have:=G.len;rw[D2]at this;unfold ce at this;rw[tv]at this;lia
  dsimp only;nofun;refine⟨_,by simp only[t9,fv];rfl,?_⟩
  cases J:ws with
  |nil=>
   rw[if_pos (by simp)]
   nofun;refine q0 _ g6 λk i j=>?_;have:=G.cf (k,i,j);rw[key,J]at this;have h0:cf ([]:List Tm) (k,i,j)=0:=rfl;lia
  |cons w0 wr=>
   rw[if_neg (by simp)]
   have HZ:ws≠[]:=by rw[J];simp
   nofun;refine⟨_,ad fv,?_⟩;refine au (f:=tmD) (ys:=ws) (I:=λl ρ M' acc=>(∃o0,ρ=[o0])/\M'=M4/\acc=(l.map λw:Tm=>[w.1.2.1,w.1.2.2]).map λns=>.tup (ns.map .int)) rfl ⟨⟨_,rfl⟩,rfl,rfl⟩ (λ_ _ _ _ h=>by rw[h.2.1];exact ad fv) ?_ ?_
   ·rintro l w r' ρ M5 acc e ⟨⟨o0,rfl⟩,rfl,rfl⟩;refine⟨_,rfl,λN' q=>?_⟩;have U:=ak e;ac_nf;unfold tmD;refine BO ⟨by rw[tv,tv,z4];lia,q _ _ _ ⟨⟨_,rfl⟩,rfl,by simp⟩⟩
   ·rintro ρ M5 acc ⟨⟨o0,rfl⟩,rfl,rfl⟩ p5 hp5;refine⟨p5,_,rfl,aa,by simpa using HZ,λns I0 hle=>?_⟩
    obtain⟨w,hw,rfl⟩:=Ki.mp I0;obtain⟨⟨a1,a2⟩,b1,b2⟩:=HY w hw;obtain⟨i,hi⟩:=Lk a1;obtain⟨j,hj⟩:=Lk b1;have lp:Lp ps us i j:=⟨(dif _ _).mpr ⟨w,hw,QJ hi hj⟩,λi' j' hd=>by obtain⟨u,hu,e⟩:=(dif _ _).mp hd;have:=hle [u.1.2.1,u.1.2.2] (KY (f:=λw:Tm=>[w.1.2.1,w.1.2.2]) hu);rw[hi,hj,e]at this;exact this⟩
    refine⟨_,rfl,?_⟩;nofun;rw[hi,hj];have g7:=g6.trans (Ge.new (o:=.lst ((ws.map λw:Tm=>[w.1.2.1,w.1.2.2]).map λns=>D.tup (ns.map .int))) hp5);refine dy ∅ (by have:=hL.a;lia) ∅ ∅ λa M6 g8 n8 e8=>?_
    refine dy ∅ (by have:=hL.b;lia) ∅ ∅ λb M7 g9 n9 e9=>?_
    have na:=dM g7 n8;have L:=g7.trans g8;refine⟨by rw[z4];lia,q1 i j a b M7 ∅ ∅ lp (L.trans g9) na (dM L n9) (λz=>by rw[z,n9]at e8;cases e8) (g9 _ _ e8) e9⟩
noncomputable def Fd(ps:List Pr)(us:List Tm)(q:K3):Int:=Tn ps q.1 q.2.1 q.2.2-cf us q
noncomputable def Dl(L0 L1 N:Nat)(ps:List Pr)(us:List Tm):List Tm:=(boxU.filter λq=>decide (q.1<(N:Int)/\q.2.1<(L0:Int)/\q.2.2<(L1:Int))).map λq=>(q,Fd ps us q)
theorem boxU_nd:boxU.Nodup:=by
 unfold boxU;rw[LH,OI];refine⟨λk _=>?_,?_⟩
 ·rw[OI];refine⟨λi _=>?_,?_⟩
  ·rw[LF];exact List.pairwise_lt_range.imp λ{a b} h e=>by simp only[OE]at e;lia
  ·refine List.pairwise_lt_range.imp λ{a b} h x hx y j e=>?_;obtain⟨c,_,rfl⟩:=Ki.mp hx;obtain⟨d,_,rfl⟩:=Ki.mp j;simp only[OE]at e;lia
 ·refine List.pairwise_lt_range.imp λ{a b} h x hx y j e=>?_;obtain⟨c,_,hx⟩:=Mt.mp hx;obtain⟨d,_,j⟩:=Mt.mp j;obtain⟨c,_,rfl⟩:=Ki.mp hx;obtain⟨d,_,rfl⟩:=Ki.mp j;simp only[OE]at e;lia
theorem DJ{q:K3}(h:q∈boxU):0<=q.1/\0<=q.2.1/\0<=q.2.2:=by unfold boxU at h;simp only[Mt,Ki,L7]at h;obtain⟨k,_,i,_,j,_,rfl⟩:=h;exact⟨by simp,by simp,by simp⟩
theorem nS{t:Tm}(h:t∈Dl L0 L1 N ps us):(0<=t.1.1/\t.1.1<N)/\(0<=t.1.2.1/\t.1.2.1<L0)/\(0<=t.1.2.2/\t.1.2.2<L1):=by obtain⟨q,j,rfl⟩:=Ki.mp h;obtain⟨h1,h2⟩:=LZ.mp j;have:=DJ h1;have:=of_decide_eq_true h2;dsimp only;lia
theorem F4:((Dl L0 L1 N ps us).map (·.1)).Nodup:=by unfold Dl;rw[Ms];have e:(Prod.fst∘λq:K3=>((q,Fd ps us q):Tm))=id:=rfl;rw[e,UD];exact boxU_nd.filter _
theorem ku(hF:∀p∈ps,Pf L0 L1 N p)(hU:InB us L0 L1 N){k:Int}(h:Fd ps us (k,i,j)≠0):(0<=k/\k<N)/\(0<=i/\i<L0)/\(0<=j/\j<L1):=by
 by_cases za:Tn ps k i j=0
 ·obtain⟨t,q,e⟩:=gO (A:=us) (k:=(k,i,j)) (by intro z;apply h;unfold Fd;dsimp only;rw[za,z];rfl)
  have a:=hU.i t q;have b:=hU.j t q;have c:=hU.k t q;rw[e]at a b c;exact⟨c,a,b⟩
 ·exact gJ (lv hF) za
theorem kx(hL:Ln L0 L1 N)(hF:∀p∈ps,Pf L0 L1 N p)(hU:InB us L0 L1 N){q:K3}:cf (Dl L0 L1 N ps us) q=Fd ps us q:=by
 obtain⟨k,i,j⟩:=q
 by_cases h:(0<=k/\k<N)/\(0<=i/\i<L0)/\(0<=j/\j<L1)
 ·have hm:((k,i,j),Fd ps us (k,i,j))∈Dl L0 L1 N ps us:=Ki.mpr ⟨(k,i,j),LZ.mpr ⟨wY (by have:=hL.a;have:=hL.b;have:=hL.c;lia),decide_eq_true (by dsimp only;lia)⟩,rfl⟩
  exact ki F4 hm
 ·have h0:Fd ps us (k,i,j)=0:=NN fun z=>h (ku hF hU z);rw[h0];exact NN fun z=>by obtain⟨t,B,e⟩:=gO z;have:=nS B;rw[e]at this;exact h this
variable{a:List Int}
theorem DK(hL:Ln L0 L1 N)(hF:∀p∈ps,Pf L0 L1 N p)(hU:InB us L0 L1 N){b:List Int}{k:Int}:vk (jf ps) a b k-vk us a b k=vk (Dl L0 L1 N ps us) a b k:=by
 have h:=rQ (f:=fkk a b k) (a:=jf ps++ce us) (b:=Dl L0 L1 N ps us) λ⟨k,i,j⟩=>by rw[kx hL hF hU,bj,qe,rY];rfl
 rw[cj,qd]at h;rw[bC,bC,bC];lia
theorem qv(hF:∀p∈ps,Pf L0 L1 N p){b:List Int}(q:a.length=L0)(hb:b.length=L1):bM a b N ps=val (jf ps) a b N:=(zo (λ_=>rfl) (λp j=>⟨(hF p j).l1,(hF p j).l2⟩) q hb).symm
theorem wZ(hL:Ln L0 L1 N)(hF:∀p∈ps,Pf L0 L1 N p)(hU:InB us L0 L1 N){b:List Int}(q:a.length=L0)(hb:b.length=L1):bM a b N ps=val us a b N↔∀k:Nat,k<N->vk (Dl L0 L1 N ps us) a b k=0:=by
 rw[qv hF q hb];constructor
 ·intro e k j;have:=congrArg (·[k]?) e;rw[dL j,dL j]at this;rw[<-DK hL hF hU];have:=MN.inj this;lia
 ·intro h;refine Lm λk j=>?_;have:=h k (L7.mp j);rw[<-DK hL hF hU]at this;lia
variable{x:Int}
theorem xa(h0:0<=x)(h1:x<L):gi (one L i) x=if x=i then 1 else 0:=by
 unfold gi one;rw[Kv,KH,LY ∅]
 simp only[NQ,RN];rw[show((x.toNat:Nat):Int)=x by lia]
theorem qw{L0 L1:Nat}{i j k:Int}:∀{A:List Tm},(∀t∈A,(0<=t.1.2.1/\t.1.2.1<L0)/\(0<=t.1.2.2/\t.1.2.2<L1))->vk A (one L0 i) (one L1 j) k=cf A (k,i,j)
 |[],_=>rfl
 |t::A,h=>by
  have ih:=qw (i:=i) (j:=j) (k:=k) (A:=A) λu q=>h u (KQ _ q);obtain⟨h1,h2⟩:=h t Lc;rw[az,<-ih,bC,bC,bE];unfold fkk;rw[xa h1.1 h1.2,xa h2.1 h2.2];obtain⟨⟨t1,z,t3⟩,c⟩:=t
  by_cases e1:t1=k<;>by_cases e2:z=i<;>by_cases B:t3=j<;>simp[e1,e2,B]
theorem bR:(one L i).length=L:=by simp[one]
theorem BP(hL:Ln L0 L1 N)(hF:∀p∈ps,Pf L0 L1 N p)(hU:InB us L0 L1 N):bM (one L0 i) (one L1 j) N ps=val us (one L0 i) (one L1 j) N↔¬Dif ps us i j:=by
 rw[wZ hL hF hU bR bR];constructor
 ·rintro h ⟨k,F⟩;have B:Fd ps us (k,i,j)≠0:=by unfold Fd;dsimp only;lia
  obtain⟨h1,_⟩:=ku hF hU B;have:=h k.toNat ∅
  rw[qw λt q=>(nS q).2,kx hL hF hU,show((k.toNat:Nat):Int)=k by lia]at this
  exact B this
 ·intro h k F;rw[qw λt q=>(nS q).2,kx hL hF hU];exact NN λz=>h ⟨k,λe=>z (by unfold Fd;dsimp only;lia)⟩
theorem sn(hL:Ln L0 L1 N)(hF:∀p∈ps,Pf L0 L1 N p)(hU:InB us L0 L1 N)(h:∀i j,¬Dif ps us i j){b:List Int}(q:a.length=L0)(hb:b.length=L1):bM a b N ps=val us a b N:=by rw[qv hF q hb];refine Lm λk _=>A0 λg9=>?_;obtain⟨k,i,j⟩:=g9;rw[rY];exact NN λz=>h i j ⟨k,z⟩
noncomputable def BB:Int:=10^40
noncomputable def ap(L t:Nat):List Int:=(D1 L).map λk=>BB^(t*k)
theorem eB{t:Nat}:(ap L t).length=L:=by simp[ap]
theorem A2{t:Nat}(h0:0<=x)(h1:x<L):gi (ap L t) x=BB^(t*x.toNat):=by
 unfold gi ap;rw[Kv,KH,LY ∅]
 rfl
theorem xb{c:Int}{f:Nat->Int}{j:Nat}:∀m:Nat,((D1 m).map λn=>(if n=j then c else 0)*f n).sum=if j<m then c*f j else 0
 |0=>by simp
 |m+1=>by
  rw[NR,Ld,Sl,xb m];simp only[Ks,Om,O8,List.sum_nil,QC]
  by_cases e:m=j
  ·subst e;simp
  ·by_cases g:j<m
   ·rw[if_pos g,if_neg e,if_pos ∅];simp
   ·rw[if_neg g,if_neg e,if_neg ∅];simp
theorem su{f g:Nat->Int}:∀l:List Nat,(l.map λn=>f n+g n).sum=(l.map f).sum+(l.map g).sum
 |[]=>rfl
 |x::l=>by simp only[Ks,O8,su l];lia
theorem DL{L0 L1:Nat}(h0:L0<=9)(h1:L1<=9){k:Int}:∀{A:List Tm},(∀t∈A,(0<=t.1.2.1/\t.1.2.1<L0)/\(0<=t.1.2.2/\t.1.2.2<L1))->vk A (ap L0 1) (ap L1 10) k=((D1 90).map λn:Nat=>cf A (k,((n%10:Nat):Int),((n / 10:Nat):Int))*BB^n).sum
 |[],_=>by
  have e:∀l:List Nat,(l.map λn:Nat=>cf [] (k,((n%10:Nat):Int),((n / 10:Nat):Int))*BB^n).sum=0:=λl=>by
   induction l with
   |nil=>rfl
   |cons x l ih=>rw[Ks,O8,ih,show cf [] (k,((x%10:Nat):Int),((x / 10:Nat):Int))=0 from rfl];simp
  rw[e];rfl
 |t::A,h=>by
  have ih:=DL h0 h1 (k:=k) (A:=A) λu F=>h u (KQ _ F);obtain⟨g1,g2⟩:=h t Lc;have B:t.1.2.1.toNat+10*t.1.2.2.toNat<90:=∅
  have e:(λn:Nat=>cf (t::A) (k,((n%10:Nat):Int),((n / 10:Nat):Int))*BB^n)=λn=>(if n=t.1.2.1.toNat+10*t.1.2.2.toNat then(if t.1.1=k then t.2 else 0)else 0)*BB^n+cf A (k,((n%10:Nat):Int),((n / 10:Nat):Int))*BB^n:=by
   funext n
   rw[az,ND];congr 2;obtain⟨⟨t1,q,t3⟩,c⟩:=t;dsimp only at g1 g2 B⊢
   by_cases e1:t1=k
   ·rw[if_pos e1];have e2:((t1,q,t3)=(k,((n%10:Nat):Int),((n / 10:Nat):Int)))↔n=q.toNat+10*t3.toNat:=by simp only[OE];lia
    by_cases j:n=q.toNat+10*t3.toNat
    ·rw[if_pos (e2.mpr j),if_pos j]
    ·rw[if_neg (λz=>j (e2.mp z)),if_neg j]
   ·rw[if_neg e1,if_neg (λz=>e1 (by simpa using congrArg (·.1) z))];simp
  rw[e,su,xb,if_pos B,<-ih,bC,bC,bE];unfold fkk;rw[A2 g1.1 g1.2,A2 g2.1 g2.2]
  by_cases e1:t.1.1=k
  ·rw[if_pos e1,if_pos e1,Int.pow_add,Nat.one_mul]
  ·rw[if_neg e1,if_neg e1];simp
theorem dig{B:Int}(j:0<B):∀(m:Nat) (e:Nat->Int),(∀n,-B<e n/\e n<B)->((D1 m).map λn=>e n*B^n).sum=0->∀n,n<m->e n=0
 |0,_,_,_,n,h=>∅
 |m+1,e,hb,hs,n,z=>by
  have hm:∀l:List Nat,(l.map λn=>e (n+1)*B^(n+1)).sum=B*(l.map λn=>e (n+1)*B^n).sum:=λl=>by
   induction l with
   |nil=>simp
   |cons x l ih=>rw[Ks,O8,ih,Ks,O8,Px,U4];congr 1;rw[<-Rp,S9]
  rw[List.range_succ_eq_map,Ks,O8,Ms,show((λn=>e n*B^n)∘Vf)=λn=>e (n+1)*B^(n+1)from rfl,hm,Int.pow_zero,Int.mul_one]at hs;obtain⟨b1,b2⟩:=hb 0;have q:((D1 m).map λn=>e (n+1)*B^n).sum=0:=by
   generalize ((D1 m).map λn=>e (n+1)*B^n).sum=S at hs⊢;have hc:S <= -1∨S=0∨1<=S:=∅
   rcases hc with h|h|h
   ·have:=Qh h (Int.le_of_lt j);lia
   ·exact h
   ·have:=Qh h (Int.le_of_lt j);lia
  cases n with
  |zero=>rw[q]at hs;lia
  |succ n=>exact dig j m (λn=>e (n+1)) (λn=>hb (n+1)) q n ∅
variable{l:List Int}
theorem qz(h:Big l)(i:Int):(gz l i).natAbs<=1000000000000:=by
 unfold gz
 split
 ·simp
 ·rw[Kv]
  cases e:l[i.toNat]? with
  |none=>simp
  |some x=>have:=h x (KU e);simp only[RN];lia
theorem xc{L0 L1 N:Nat}{k i j:Int}:∀{ps:List Pr},(∀p∈ps,Pf L0 L1 N p)->(Tn ps k i j).natAbs<=ps.length*1000000000000000000000000000000000000
 |[],_=>by simp[Tn]
 |p::ps,h=>by
  have ih:=xc (k:=k) (i:=i) (j:=j) (ps:=ps) λu z=>h u (KQ _ z);have q:=h p Lc;rw[li,L4,Mr];have:=Int.natAbs_add_le (gz p.1 i*gz p.2.1 j*gz p.2.2 k) (Tn ps k i j);have m:(gz p.1 i*gz p.2.1 j*gz p.2.2 k).natAbs<=1000000000000*1000000000000*1000000000000:=by rw[QV,QV];exact L5 (L5 (qz q.b1 _) (qz q.b2 _)) (qz q.b3 _)
  lia
theorem F5(B:(us.map (·.1)).Nodup)(hU:InB us L0 L1 N)(q:K3):-(2^64)<cf us q/\cf us q<2^64:=by
 by_cases z:cf us q=0
 ·rw[z];decide
 ·obtain⟨t,j,rfl⟩:=gO z;rw[ki B j];exact hU.c t j
theorem BQ(hL:Ln L0 L1 N)(hF:∀p∈ps,Pf L0 L1 N p)(hc:ps.length<=40)(F:(us.map (·.1)).Nodup)(hU:InB us L0 L1 N):bM (ap L0 1) (ap L1 10) N ps=val us (ap L0 1) (ap L1 10) N↔∀i j,¬Dif ps us i j:=by
 constructor
 ·rw[wZ hL hF hU eB eB];rintro h i j ⟨k,J⟩;have q:Fd ps us (k,i,j)≠0:=by unfold Fd;dsimp only;lia
  obtain⟨h1,h2,L⟩:=ku hF hU q;have:=h k.toNat ∅
  rw[DL hL.a.2 hL.b.2 λt G=>(nS G).2,show((k.toNat:Nat):Int)=k by lia]at this
  have a1:=hL.a.2;have a2:=hL.b.2;have z:=dig (B:=BB) (by decide) 90 (λn=>cf (Dl L0 L1 N ps us) (k,((n%10:Nat):Int),((n / 10:Nat):Int))) (λn=>by
   rw[kx hL hF hU];have t1:=xc (k:=k) (i:=((n%10:Nat):Int)) (j:=((n / 10:Nat):Int)) hF;have O:=F5 F hU (k,((n%10:Nat):Int),((n / 10:Nat):Int));unfold Fd;dsimp only;rw[show BB=10000000000000000000000000000000000000000 from by decide]
   lia) this (i.toNat+10*j.toNat) ∅
  rw[kx hL hF hU,show(((i.toNat+10*j.toNat)%10:Nat):Int)=i by lia,show(((i.toNat+10*j.toNat) / 10:Nat):Int)=j by lia]at z
  exact q z
 ·exactλh=>sn hL hF hU h eB eB
variable{y:D}
theorem qA(G:1<=n){x:D}{b:List Int}(hx:ax M x=Z (a.map .int))(z:ax M y=Z (b.map .int))(sa:Big a)(hl:a.length<=1000)(q:∀M',Ge M M'->Q (.int (dot a b)) M'):phi tab n 5 [x,y] M Q:=by
 refine am G (show tab[5]?=Z (um (ai 7))from rfl) rfl (ρ:=[Z _,Z _]) rfl ?_;unfold um;nofun;refine⟨_,hx,_,z,?_⟩;refine au (I:=λl ρ M' acc=>(∃B F,ρ=[B,F])/\M'=M/\acc=(l.map λxy=>xy.1*xy.2).map .int) (ys:=a.zip b) (f:=λxy=>.tup [.int xy.1,.int xy.2]) (q8 a b) ⟨⟨_,_,rfl⟩,rfl,rfl⟩ (λ_ _ _ _ h=>by rw[h.2.1];exact⟨hx,z⟩) ?_ ?_
 ·rintro l xy r ρ M1 acc e ⟨⟨B,F,rfl⟩,rfl,rfl⟩;refine⟨_,rfl,fun N J=>?_⟩;ac_nf;have j:=ak e;rw[Sm]at j;have hm:xy.1∈a:=by
   have:xy∈a.zip b:=by rw[e];simp
   exact(Pa this).1
  have hs:=sa _ hm;exact⟨bS ∅,by simp[z4];lia,J _ _ _ ⟨⟨_,_,rfl⟩,rfl,by simp⟩⟩
 ·rintro ρ M1 acc ⟨_,rfl,rfl⟩ p hp;refine Bm (ad aa) ?_;have:((a.zip b).map λxy=>xy.1*xy.2).sum=dot a b:=by unfold dot;rw[iI]
  rw[this];exact q _ (Ge.new hp)
noncomputable abbrev iy:=Qt
def Bt(m:Nat)(l:List Int):Prop:=∀x∈l,iy x<=m
theorem qB(h:Big l):Bt 40 l:=λx hx=>PyProof.Rows.intBits_le (by have:=h x hx;lia)
theorem ji{m:Nat}:∀{a b:List Int},Big a->Bt m b->iy (dot a b)<=m+41+a.length
 |[],_,_,_=>by simp[dot];exact Mj _
 |_::_,[],_,_=>by simp[dot];exact Mj _
 |x::a,y::b,q,hb=>by
  have ih:=ji (a:=a) (b:=b) (λz j=>q z (KQ _ j)) (λz j=>hb z (KQ _ j));have h1:iy (x*y)<=40+m:=QW (qB q x Lc) (hb y Lc);have h2:=intBits_add_le h1 ih;have e:dot (x::a) (y::b)=x*y+dot a b:=by simp[dot]
  rw[e];refine LA h2 ?_;rw[L4];lia
variable{m:Nat}
theorem iJ(hn:2<=n){L2:Nat}(hL:Ln L0 L1 L2)(hm:m<=20000){pr:VH}{x:D}{one other:List Int}(hp:∀p∈ps,Pf L0 L1 L2 p)(h:M pr=Z (.lst (ps.map prD)))(hx:ax M x=Z (one.map .int))(hy:ax M y=Z (other.map .int))(fv:Bt m one)(HY:Bt m other)(q:∀M' p,Ge M M'->M p=Y->M' p=Z (.lst ((bM one other L2 ps).map .int))->Q (.ref p) M'):phi tab n 6 [.tup [.int L0,.int L1,.int L2,.ref pr],x,y] M Q:=by
 have h0:=hL.a.2;have h1:=hL.b.2;have h2:=hL.c.2;refine am ∅ (show tab[6]?=Z (gL (ai 8) 5)from rfl) rfl (ρ:=[Z _,Z _,Z _,Y,Y,Y,Y,Y,Y,Y,Y,Y]) rfl ?_
 unfold gL;nofun;nofun;refine⟨by rw[z4];lia,λp0 O=>?_⟩
 have g0:=Ge.new (o:=.lst [.int 0]) O;refine⟨_,aa,∅,∅,by rw[z4];simp;lia,λL z=>?_⟩
 have g1:=g0.trans (Ge.new (o:=.lst (Kf (L2:Int).toNat [D.int 0]).flatten) z);have e1:af (af M p0 (.lst [.int 0])) L (.lst (Kf (L2:Int).toNat [D.int 0]).flatten) L=Z (.lst ((bM one other L2 []).map .int)):=by rw[aa,gG,zn,KL]
 have n1:M L=Y:=by
  cases e:M L with
  |none=>rfl
  |some o=>rw[g0 _ _ e]at z;cases z
 generalize af (af M p0 (.lst [.int 0])) L (.lst (Kf (L2:Int).toNat [D.int 0]).flatten)=M1 at g1 e1;clear g0 z O;nofun;refine⟨_,ad (g1 _ _ h),?_⟩;refine aO (I:=λl ρ M'=>∃pt o8 o9 B G,ρ=[Z (.tup [.int L0,.int L1,.int L2,.ref pr]),Z x,Z y,Z (.int L0),Z (.int L1),Z (.int L2),Z (.ref pr),Z (.ref pt),o8,o9,B,G]/\Ge M M'/\M pt=Y/\M' pt=Z (.lst ((bM one other L2 l).map .int)))
  rfl ⟨L,Y,Y,Y,Y,rfl,g1,n1,e1⟩ (λ_ _ _ ⟨_,_,_,_,_,_,g,_⟩=>ad (g _ _ h)) ?_ ?_
 ·rintro l p r ρ M2 e ⟨pt,o8,o9,B,G,rfl,g2,n2,e2⟩;have j:=hp p (by rw[e];simp)
  refine⟨_,rfl,λF hF=>?_⟩;nofun;refine qA ∅ wu (cv hx g2) j.b1 (by rw[j.l1];lia) λM3 g3=>?_
  refine qA ∅ wu (cv hy (g2.trans g3)) j.b2 (by rw[j.l2];lia) λM4 g4=>?_
  ac_nf;have U:=ji j.b1 fv;have pv:=ji j.b2 HY;rw[j.l1]at U;rw[j.l2]at pv;refine⟨.inr (.inr ⟨LA U ∅,LA pv ∅⟩),?_⟩
  have e4:=g4 _ _ (g3 _ _ e2);have gg:=(g2.trans g3).trans g4;nofun;refine⟨_,ad e4,?_⟩;refine au (I:=λl' ρ M' acc=>(∃o1 o2,ρ=[o1,o2,Z (.int (lr one other p))])/\M'=M4/\acc=(l'.map λxy=>xy.1+xy.2*lr one other p).map .int) (ys:=(bM one other L2 l).zip p.2.2) (f:=λxy=>.tup [.int xy.1,.int xy.2]) (q8 _ _) ⟨⟨_,_,rfl⟩,rfl,rfl⟩ (λ_ _ _ _ h=>by rw[h.2.1];exact ad e4) ?_ ?_
  ·rintro l' xy r' ρ M5 acc e' ⟨⟨o1,o2,rfl⟩,rfl,rfl⟩;refine⟨_,rfl,fun N hN=>?_⟩;ac_nf;have HZ:=ak e';rw[Sm]at HZ;have I8:=j.l3;have I0:xy.2∈p.2.2:=by
    have:xy∈(bM one other L2 l).zip p.2.2:=by rw[e'];simp
    exact(Pa this).2
   have hs:=j.b3 _ I0;exact⟨bS ∅,by simp[z4];lia,hN _ _ _ ⟨⟨_,_,rfl⟩,rfl,by simp⟩⟩
  ·rintro ρ M5 acc ⟨_,rfl,rfl⟩ p2 J;refine hF _ _ ⟨p2,_,_,_,_,rfl,gg.trans (Ge.new J),?_,?_⟩
   ·cases e0:M p2 with
    |none=>rfl
    |some o=>rw[gg _ _ e0]at J;cases J
   ·rw[aa,wV j.l3,iI]
 ·rintro ρ M2 ⟨pt,o8,o9,B,G,rfl,g2,n2,e2⟩;nofun;exact q M2 pt g2 n2 e2
theorem nT(h:Bt m l):iy (gi l i)<=m:=by
 unfold gi;rw[Kv]
 cases e:l[i.toNat]? with
 |none=>exact Mj _
 |some x=>exact h x (KU e)
theorem xf(hn:1<=n){L R x:D}{b:List Int}(hp:M p=Z (.lst (rs.map tmD)))(hx:ax M x=Z (a.map .int))(hy:ax M y=Z (b.map .int))(hN:N<=1000)(hb:InB rs a.length b.length N)(hm:m<=20000)(ba:Bt m a)(bb:Bt m b)(q:∀p' M',Ge M M'->M p'=Y->M' p'=Z (.lst ((val rs a b N).map .int))->Q (.ref p') M'):phi tab n 1 [.tup [L,R,.int N,.ref p],x,y] M Q:=by
 refine am ∅ (show tab[1]?=Z (kY (ai 2))from rfl) rfl (ρ:=[Z _,Z _,Z _,Y,Y,Y,Y,Y,Y,Y,Y,Y]) rfl ?_
 unfold kY;nofun;nofun;refine⟨by rw[z4];lia,λp1 fv=>?_⟩
 have g1:=Ge.new (o:=.lst [.int 0]) fv;refine⟨_,aa,∅,∅,by rw[z4];simp;lia,λp2 B=>?_⟩
 have g2:=g1.trans (Ge.new (o:=.lst (Kf (N:Int).toNat [D.int 0]).flatten) B);have z:M p2=Y:=by
  cases hq:M p2 with
  |none=>rfl
  |some o=>rw[g1 _ _ hq]at B;cases B
 have e2:af (af M p1 (.lst [.int 0])) p2 (.lst (Kf (N:Int).toNat [D.int 0]).flatten) p2=Z (.lst ((val [] a b N).map .int)):=by rw[aa,gG,rP];simp
 generalize af (af M p1 (.lst [.int 0])) p2 (.lst (Kf (N:Int).toNat [D.int 0]).flatten)=M2 at g2 e2;nofun;refine⟨_,ad (g2 _ _ hp),?_⟩;refine aO (I:=λl ρ M'=>∃o8 o9 G J,ρ=[Z (.tup [L,R,.int N,.ref p]),Z x,Z y,Z L,Z R,Z (.int N),Z (.ref p),Z (.ref p2),o8,o9,G,J]/\Ge M M'/\M' p2=Z (.lst ((val l a b N).map .int))) rfl ⟨_,_,_,_,rfl,g2,e2⟩ (λl ρ M' g9=>(by obtain⟨_,_,_,_,_,g,_⟩:=g9;exact ad (g _ _ hp))) ?_ ?_
 ·rintro l r t ρ M3 e ⟨o8,o9,G,J,rfl,g3,pv⟩;have O:r∈rs:=by rw[e];simp
  refine⟨_,rfl,λF hF=>?_⟩;rw[aX];ac_nf;obtain⟨k0,k1⟩:=hb.k r O;obtain⟨i0,i1⟩:=hb.i r O;obtain⟨j0,j1⟩:=hb.j r O;obtain⟨kn,ek⟩:∃k:Nat,r.1.1=k:=⟨r.1.1.toNat,∅⟩
  have U:kn<N:=∅
  refine⟨p2,_,_,.int (vk l a b kn),rfl,rfl,pv,?_,?_⟩
  ·rw[ek];refine dJ ?_;rw[KH,dL U];rfl
  refine wG (cv hx g3) (fR i0 i1) ?_;ac_nf;refine⟨bS (hb.c r O),?_⟩;refine wG (cv hy g3) (fR j0 j1) ?_;ac_nf;refine⟨.inr (.inr ⟨LA (QW (Rj (hb.c r O).1 (hb.c r O).2) (nT ba)) ∅,LA (nT bb) ∅⟩),?_⟩
  rw[ek];refine aN pv (j:=kn) ?_ ?_
  ·unfold ixN;rw[tv,fh,if_pos ∅,if_pos ∅];simp
  refine hF _ _ ⟨_,_,_,_,rfl,g3.upd z,?_⟩;rw[aa,<-qc ek U,Ow]
 ·rintro ρ M3 ⟨o8,o9,G,J,rfl,g3,pv⟩;dsimp only;nofun;exact q p2 M3 g3 z pv
theorem sv(k:Nat):iy (BB^k)<=133*k+1:=by
 induction k with
 |zero=>decide
 |succ k ih=>rw[U4];exact LA (QW ih (show iy BB<=133 by decide)) ∅
theorem A3{t:Nat}(hL:L<=9)(q:t<=10):Bt 11000 (ap L t):=λx hx=>by
 obtain⟨k,j,rfl⟩:=Ki.mp hx;have j:=L7.mp j;have:=sv (t*k);have:=L5 q (show k<=8 by lia)
 lia
theorem mZ(hn:1<=n){t:Nat}(hL:L<=9)(fv:t<=10)(q:∀p M',Ge M M'->M p=Y->M' p=Z (.lst ((ap L t).map .int))->Q (.ref p) M'):phi tab n 30 [.int (L:Nat),.int (t:Nat)] M Q:=by
 refine am ∅ rfl rfl (ρ:=[Z _,Z _,Y,Y,Y,Y]) rfl ?_
 unfold d30 L2.Mi.K60.b30;nofun;refine⟨by rw[z4];lia,λj B=>?_⟩
 nofun;nofun;refine⟨∅,∅,?_⟩
 have g0:=Ge.new (o:=.lst []) B;refine aO (f:=λi=>D.int (i:Nat)) (ys:=D1 L) (I:=λl ρ M'=>∃O z,ρ=[Z (.int (L:Nat)),Z (.int (t:Nat)),Z (.ref j),Z (.int (BB^(t*l.length))),O,z]/\Ge M M'/\M' j=Z (.lst ((ap l.length t).map .int))) ay ⟨_,_,rfl,g0,aa⟩ (λ_ _ _ _=>trivial) ?_ ?_
 ·rintro l x r ρ J e ⟨O,z,rfl,g1,e1⟩;refine⟨_,rfl,λF hF=>?_⟩;have U:=ak e;rw[Kx]at U;nofun;refine⟨⟨_,e1⟩,⟨j,_,_,rfl,rfl,e1,by rw[tv,eB,z4];lia,?_⟩⟩
  nofun;refine⟨∅,∅,?_⟩
  have e2:af J j (.lst ((ap l.length t).map D.int++[.int (BB^(t*l.length))])) j=Z (.lst ((ap (l.length+1) t).map .int)):=by rw[aa];unfold ap;rw[NR];simp
  have g2:=g1.upd (o:=.lst ((ap l.length t).map D.int++[.int (BB^(t*l.length))])) B;generalize af J j (.lst ((ap l.length t).map D.int++[.int (BB^(t*l.length))]))=M2 at e2 g2⊢;refine aO (f:=λi=>D.int (i:Nat)) (ys:=D1 t) (I:=λl' ρ M'=>M'=M2/\∃z,ρ=[Z (.int (L:Nat)),Z (.int (t:Nat)),Z (.ref j),Z (.int (BB^(t*l.length+l'.length))),Z (.int (x:Nat)),z]) ay ⟨rfl,_,rfl⟩ (λ_ _ _ _=>trivial) ?_ ?_
  ·rintro l' y r' ρ M3 e' ⟨rfl,z,rfl⟩;have G:=ak e';rw[Kx]at G;have hk:t*l.length+l'.length<=90:=by
    have:=L5 fv (show l.length<=8 by lia)
    lia
   have hb:=sv (t*l.length+l'.length);refine⟨_,rfl,λF' pv=>?_⟩;nofun;refine⟨by decide,by decide,by decide,.inr (.inr ⟨∅,by decide⟩),pv _ _ ⟨rfl,Z (.int (y:Nat)),?_⟩⟩
   rw[D2,L4,Mb,<-Rk,U4];rfl
  ·rintro ρ M3 ⟨rfl,z,rfl⟩;dsimp only;rw[kT];refine hF _ _ ⟨Z (.int (x:Nat)),z,?_,g2,by rw[D2,L4,Mb];exact e2⟩
   rw[Kx,D2,L4,Mb,UK,Nat.mul_one]
 ·rintro ρ J ⟨O,z,rfl,g1,e1⟩;dsimp only;nofun;rw[Kx]at e1;exact q j J g1 B e1
theorem nU:∀{A B:List Int},Lx (A.map .int) (B.map .int)=decide (A=B)
 |[],[]=>by simp[Lx]
 |[],_::_=>by simp[Lx]
 |_::_,[]=>by simp[Lx]
 |a::A,b::B=>by
  rw[Ks,Ks,Lx,nU]
  by_cases h:a=b<;>simp[Lw,h]
variable{A:List Int}{b:VH}
theorem BR{B:List Int}{a:VH}(j:M a=Z (.lst (A.map .int)))(hb:M b=Z (.lst (B.map .int)))(q:Q (.bl (!decide (A=B))) M):wNe (.ref a) (.ref b) M Q:=by
 refine⟨.list (A.map .int),.list (B.map .int),by rw[ci j,cL];rfl,by rw[ci hb,cL];rfl,?_⟩
 rw[Lw,nU];exact q
theorem zp{B:List Int}{a:VH}(j:M a=Z (.lst (A.map .int)))(hb:M b=Z (.lst (B.map .int)))(q:Q (.bl (decide (A=B))) M):wEq (.ref a) (.ref b) M Q:=by
 refine⟨.list (A.map .int),.list (B.map .int),by rw[ci j,cL];rfl,by rw[ci hb,cL];rfl,?_⟩
 rw[Lw,nU];exact q
theorem qC{l r:List Nat}{x:Nat}(e:D1 n=l++x::r):x=l.length/\x<n/\l=D1 x:=by
 have h:=ak e;rw[Kx]at h;have h1:(D1 n)[l.length]?=Z x:=by rw[e];simp
 rw[LY h]at h1;have hx:x=l.length:=by simpa using h1.symm
 refine⟨hx,∅,?_⟩
 have h2:(D1 n).take l.length=l:=by rw[e];simp
 rw[List.take_range]at h2;rw[<-h2,hx,Nm ∅]
theorem xg(hm:1<=m):Bt m (one L i):=λx hx=>by
 obtain⟨h,_,rfl⟩:=Ki.mp hx
 split
 ·exact hm
 ·exact Mj _
theorem Dif.inn(hF:∀p∈ps,Pf L0 L1 N p)(hU:InB us L0 L1 N)(h:Dif ps us i j):(0<=i/\i<L0)/\(0<=j/\j<L1):=by obtain⟨k,q⟩:=h;exact(ku (k:=k) (i:=i) (j:=j) hF hU (by show Tn ps k i j-cf us (k,i,j)≠0;lia)).2
theorem qD(hL:L<=1000){N:NC}(q:∀ρ,N ρ M ((one L x).map .int)):bx (br 0) (cC (wAr iT (aG (wOp wEq (dQ 0) (dQ 1)) bo))) (λ_=>True) N (bV 0 (L:Int).toNat) [Y,Z (.int x)] M []:=by
 refine au (f:=λi=>D.int (i:Nat)) (ys:=D1 L) (I:=λl ρ M' acc=>(∃o0,ρ=[o0,Z (.int x)])/\M'=M/\acc=(l.map λh:Nat=>if((h:Nat):Int)=x then(1:Int)else 0).map .int) ay ⟨⟨_,rfl⟩,rfl,rfl⟩ (λ_ _ _ _ _=>trivial) ?_ ?_
 ·rintro l y B ρ M3 acc e2 ⟨⟨o0,rfl⟩,rfl,rfl⟩;refine⟨_,rfl,λN' j=>?_⟩;have z:=ak e2;rw[Kx]at z;ac_nf;refine⟨by rw[tv,tv,z4];lia,j _ _ _ ⟨⟨_,rfl⟩,rfl,?_⟩⟩
  rw[Ld,Ld];congr 1
  by_cases h:((y:Nat):Int)=x<;>simp[h]
 ·rintro ρ M3 acc ⟨_,rfl,rfl⟩;exact q ρ
theorem zq(hn:3<=n)(hL:Ln L0 L1 N)(hp:M p=Z (.lst (ps.map prD)))(hr:M r=Z (.lst (us.map tmD)))(hF:∀p∈ps,Pf L0 L1 N p)(hU:InB us L0 L1 N)(q0:∀M',Ge M M'->(∀i j,¬Dif ps us i j)->Q .non M')(q1:∀(i j:Nat) a b M',i<L0->j<L1->Lp ps us i j->Ge M M'->M a=Y->M b=Y->a≠b->M' a=Z (.lst ((one L0 (i:Nat)).map .int))->M' b=Z (.lst ((one L1 (j:Nat)).map .int))->Q (.tup [.ref a,.ref b]) M'):phi tab n 29 [.tup [.int L0,.int L1,.int N,.ref p],.tup [.int L0,.int L1,.int N,.ref r]] M Q:=by
 have h7:=hL.a;have h8:=hL.b;have h9:=hL.c;refine am ∅ rfl rfl (ρ:=[Z _,Z _,Y,Y,Y,Y,Y,Y,Y,Y,Y]) rfl ?_
 unfold d29 L2.Mi.K60.b29;nofun;refine⟨_,rfl,_,rfl,∅,∅,?_⟩
 refine aO (f:=λi=>D.int (i:Nat)) (ys:=D1 L0) (I:=λl ρ M'=>∃o2 o3 o4 o5 o6 G J L q,ρ=[Z (.tup [.int L0,.int L1,.int N,.ref p]),Z (.tup [.int L0,.int L1,.int N,.ref r]),o2,o3,o4,o5,o6,G,J,L,q]/\Ge M M'/\∀i∈l,∀j,¬Dif ps us (i:Nat) j) ay ⟨_,_,_,_,_,_,_,_,_,rfl,Ge.refl,λ_ h=>absurd h (by simp)⟩ (λ_ _ _ _=>trivial) ?_ ?_
 ·rintro l i r0 ρ M1 e ⟨o2,o3,o4,o5,o6,G,J,L,q,rfl,g1,hd⟩;obtain⟨Il,hi,rfl⟩:=qC e;refine⟨_,rfl,λF Ic=>?_⟩;nofun;refine⟨_,rfl,_,rfl,∅,∅,?_⟩
  refine aO (f:=λi=>D.int (i:Nat)) (ys:=D1 L1) (I:=λl' ρ M'=>∃o3 o4 o5 o6 G J L q,ρ=[Z (.tup [.int L0,.int L1,.int N,.ref p]),Z (.tup [.int L0,.int L1,.int N,.ref r]),Z (.int (i:Nat)),o3,o4,o5,o6,G,J,L,q]/\Ge M M'/\∀j∈l',¬Dif ps us (i:Nat) (j:Nat)) ay ⟨_,_,_,_,_,_,_,_,rfl,g1,λ_ h=>absurd h (by simp)⟩ (λ_ _ _ _=>trivial) ?_ ?_
  ·rintro l' j r1 ρ M2 e' ⟨o3,o4,o5,o6,G,J,L,q,rfl,g2,fv⟩;obtain⟨Im,hj,rfl⟩:=qC e';refine⟨_,rfl,λF' Id=>?_⟩;nofun;refine⟨_,rfl,_,rfl,∅,∅,?_⟩
   refine qD ∅ λ_ pa HZ=>?_
   have ga':=Ge.new (o:=.lst ((one L0 (i:Nat)).map .int)) HZ;have ga:=g2.trans ga';have ea:=aa (M:=M2) (a:=pa) (o:=.lst ((one L0 (i:Nat)).map .int));have na:=dM g2 HZ;generalize af M2 pa (.lst ((one L0 (i:Nat)).map .int))=M4 at ga' ga ea⊢;nofun;refine⟨_,rfl,_,rfl,∅,∅,?_⟩
   refine qD ∅ λ_ pb O=>?_
   have gb':=Ge.new (o:=.lst ((one L1 (j:Nat)).map .int)) O;have gb:=ga.trans gb';have eb:=aa (M:=M4) (a:=pb) (o:=.lst ((one L1 (j:Nat)).map .int));have nb:=dM ga O;have Ie:pa≠pb:=λz=>by rw[<-z,ea]at O;cases O
   have ea:=gb' _ _ ea;generalize af M4 pb (.lst ((one L1 (j:Nat)).map .int))=M5 at gb' gb ea eb⊢;clear ga ga' gb' HZ O g2;nofun;refine⟨by rw[z4];lia,λp1 I9=>⟨_,rfl,?_⟩⟩
   have I0:=Ge.new (o:=.lst [.int 0]) I9;refine⟨_,aa,∅,∅,by rw[z4];simp;lia,λpd I8=>?_⟩
   rw[KL,gG];have gd':=I0.trans (Ge.new (o:=.lst ((Kf N (0:Int)).map D.int)) I8);have gd:=gb.trans gd';have ed:af (af M5 p1 (.lst [.int 0])) pd (.lst ((Kf N (0:Int)).map D.int)) pd=Z (.lst ((val [] (one L0 (i:Nat)) (one L1 (j:Nat)) N).map .int)):=by rw[aa,rP]
   have nd:=dM I0 I8;have Ig:pa≠pd:=λz=>by rw[<-z,ea]at nd;cases nd
   have Ih:pb≠pd:=λz=>by rw[<-z,eb]at nd;cases nd
   have ea:=gd' _ _ ea;have eb:=gd' _ _ eb;have ndM:=dM gb nd;generalize af (af M5 p1 (.lst [.int 0])) pd (.lst ((Kf N (0:Int)).map D.int))=M6 at gd' gd ea eb ed⊢;clear I0 gd' I9 I8 gb nd;nofun;refine⟨_,rfl,_,ad (gd _ _ hr),?_⟩;have ha:(one L0 (i:Nat)).length=L0:=bR;have hb:(one L1 (j:Nat)).length=L1:=bR;have ba:Bt 1 (one L0 (i:Nat)):=xg (Ku _);have bb:Bt 1 (one L1 (j:Nat)):=xg (Ku _);refine aO (f:=tmD) (ys:=us) (I:=λl ρ M'=>∃G J L q,ρ=[Z (.tup [.int L0,.int L1,.int N,.ref p]),Z (.tup [.int L0,.int L1,.int N,.ref r]),Z (.int (i:Nat)),Z (.int (j:Nat)),Z (.ref pa),Z (.ref pb),Z (.ref pd),G,J,L,q]/\Ge M M'/\M' pa=Z (.lst ((one L0 (i:Nat)).map .int))/\M' pb=Z (.lst ((one L1 (j:Nat)).map .int))/\M' pd=Z (.lst ((val l (one L0 (i:Nat)) (one L1 (j:Nat)) N).map .int))) rfl ⟨_,_,_,_,rfl,gd,ea,eb,ed⟩ (λl ρ M' h=>(by obtain⟨_,_,_,_,_,g,_⟩:=h;exact ad (g _ _ hr))) ?_ ?_
   ·rintro l t tr ρ M7 e3 ⟨G,J,L,q,rfl,g7,U,pv,HY⟩;have ht:t∈us:=by rw[e3];simp
    refine⟨_,rfl,λF2 Ii=>?_⟩;obtain⟨k0,k1⟩:=hU.k t ht;obtain⟨i0,i1⟩:=hU.i t ht;obtain⟨j0,j1⟩:=hU.j t ht;obtain⟨kn,ek⟩:∃k:Nat,t.1.1=k:=⟨t.1.1.toNat,∅⟩
    have Ia:kn<N:=∅
    rw[aX];ac_nf;refine aA HY (d:=.int (vk l (one L0 (i:Nat)) (one L1 (j:Nat)) kn)) (by rw[ek];exact dJ (by rw[KH,dL Ia];rfl)) ?_
    refine aA U (fR i0 (by rw[ha];exact i1)) ?_
    ac_nf;refine⟨bS (hU.c t ht),?_⟩;refine aA pv (fR j0 (by rw[hb];exact j1)) ?_
    ac_nf;refine⟨.inr (.inr ⟨LA (QW (Rj (hU.c t ht).1 (hU.c t ht).2) (nT ba)) ∅,LA (nT bb) ∅⟩),?_⟩
    rw[ek];refine aN HY (j:=kn) (by unfold ixN;rw[tv,fh,if_pos ∅,if_pos ∅];simp) ?_
    refine Ii _ _ ⟨_,_,_,_,rfl,g7.upd ndM,by rw[al Ig];exact U,by rw[al Ih];exact pv,?_⟩
    rw[aa,<-qc ek Ia,Ow]
   ·rintro ρ M7 ⟨G,J,L,q,rfl,g7,U,pv,HY⟩;nofun;refine iJ ∅ hL (m:=1) ∅ hF (g7 _ _ hp) (ad U) (ad pv) ba bb λM8 px g8 n8 e8=>?_
    refine BR e8 (g8 _ _ HY) ⟨_,rfl,?_⟩;have Ib:=BP hL hF hU (i:=(i:Nat)) (j:=(j:Nat))
    by_cases B:Dif ps us (i:Nat) (j:Nat)
    ·rw [if_pos (by have:bM (one L0 (i:Nat)) (one L1 (j:Nat)) N ps≠val us (one L0 (i:Nat)) (one L1 (j:Nat)) N:=fun z=>Ib.mp z B
                    simp[this])]
     nofun;refine⟨by rw[z4];lia,q1 i j pa pb M8 hi hj ⟨B,λi' j' h'=>?_⟩ (g7.trans g8) na nb Ie (g8 _ _ U) (g8 _ _ pv)⟩
     obtain⟨⟨a1,a2⟩,b1,b2⟩:=h'.inn hF hU;obtain⟨iN,rfl⟩:=Lk a1;obtain⟨jN,rfl⟩:=Lk b1
     by_cases c1:iN<i
     ·exact absurd h' (hd iN (L7.mpr c1) _)
     ·by_cases c2:iN=i/\jN<j
      ·obtain⟨rfl,c2⟩:=c2;exact absurd h' (fv jN (L7.mpr c2))
      ·simp only[HT.lexLt]
       by_cases e:(iN:Int)=i
       ·rw[if_pos e]
        by_cases e2:(jN:Int)=j
        ·rw[if_pos e2]
        ·rw[if_neg e2];exact decide_eq_false ∅
       ·rw[if_neg e];exact decide_eq_false ∅
    ·rw[if_neg (by rw[Ib.mpr B];simp)]
     refine Id _ _ ⟨_,_,_,_,_,_,_,_,rfl,g7.trans g8,λj' Ij=>?_⟩
     rcases Kz.mp Ij with h|h
     ·exact fv j' h
     ·rw[Pn.mp h];exact B
  ·rintro ρ M2 ⟨o3,o4,o5,o6,G,J,L,q,rfl,g2,fv⟩;dsimp only;rw[kT];refine Ic _ _ ⟨_,_,_,_,_,_,_,_,_,rfl,g2,λi' Ik j B=>?_⟩
   rcases Kz.mp Ik with h|h
   ·exact hd i' h j B
   ·rw[Pn.mp h]at B;obtain⟨⟨_,_⟩,b1,b2⟩:=B.inn hF hU;obtain⟨jn,rfl⟩:=Lk b1;exact fv jn (L7.mpr ∅) B
 ·rintro ρ M1 ⟨o2,o3,o4,o5,o6,G,J,L,q,rfl,g1,hd⟩;dsimp only;nofun;refine q0 _ g1 λi j B=>?_;obtain⟨⟨a1,a2⟩,b1,b2⟩:=B.inn hF hU;obtain⟨iN,rfl⟩:=Lk a1;exact hd iN (L7.mpr ∅) j B
noncomputable def at2(rs:List Tm)(i j:Int):Bool:=rs.any λt=>decide (t.1.2=(i,j))
noncomputable def pq(L0 L1 N:Nat)(rs:List Tm)(i j:Int):Pr:=(one L0 i,one L1 j,(D1 N).map λk:Nat=>cf rs (k,i,j))
noncomputable def plJ(L0 L1 N:Nat)(rs:List Tm)(i:Nat)(l:List Nat):List Pr:=(l.filter λj:Nat=>at2 rs i j).map λj:Nat=>pq L0 L1 N rs i j
noncomputable def pl(L0 L1 N:Nat)(rs:List Tm)(l:List Nat):List Pr:=l.flatMap λi=>plJ L0 L1 N rs i (D1 L1)
def lt2(a b:K2):Prop:=a.1<b.1∨(a.1=b.1/\a.2<b.2)
theorem G6{a b:K2}(h:lt2 a b):ltK (kyD (k2D a)) (kyD (k2D b))=F2:=by
 unfold ltK;have e:av (kyD (k2D a)) (kyD (k2D b))=(av (.int a.1) (.int b.1)).then ((av (.int a.2) (.int b.2)).then .eq):=by
  show av (.tup [.int a.1,.int a.2]) (.tup [.int b.1,.int b.2])=_
  conv=>lhs;unfold av
  simp only[cmpKs]
 rw[e];simp only[av]
 rcases h with h|⟨h1,h2⟩
 ·rw[if_pos h];rfl
 ·rw[if_neg ∅,if_pos h1,if_pos h2];rfl
noncomputable def gr(rs:List Tm)(L1:Nat)(l:List Nat):List K2:=l.flatMap λi:Nat=>((D1 L1).filter λj:Nat=>at2 rs i j).map λj:Nat=>((i:Int),(j:Int))
theorem nV{l:List Nat}:pl L0 L1 N rs l=(gr rs L1 l).map λk=>pq L0 L1 N rs k.1 k.2:=by unfold pl gr plJ;rw[Uw];simp[Ms,Function.comp_def]
theorem gr_lt:(gr rs L1 (D1 L0)).Pairwise lt2:=by
 unfold gr;rw[OI];refine⟨λi _=>?_,?_⟩
 ·rw[LF];refine(List.pairwise_lt_range.filter _).imp ?_;intro a b h;exact .inr ⟨rfl,by dsimp only;lia⟩
 ·refine List.pairwise_lt_range.imp ?_;intro a b h x hx y j;obtain⟨_,_,rfl⟩:=Ki.mp hx;obtain⟨_,_,rfl⟩:=Ki.mp j;exact .inl (by dsimp only;lia)
theorem qE(q:InB rs L0 L1 N){k:K2}:k∈gr rs L1 (D1 L0)↔at2 rs k.1 k.2=F2:=by
 unfold gr;constructor
 ·intro h;obtain⟨i,hi,h⟩:=Mt.mp h;obtain⟨j,B,rfl⟩:=Ki.mp h;exact(LZ.mp B).2
 ·intro h;have h':=h;unfold at2 at h';obtain⟨t,z,e⟩:=N9.mp h';have e:t.1.2=(k.1,k.2):=of_decide_eq_true e;have b1:=q.i t z;have b2:=q.j t z;rw[e]at b1 b2;refine Mt.mpr ⟨k.1.toNat,L7.mpr (by dsimp only at b1;lia),Ki.mpr ⟨k.2.toNat,LZ.mpr ⟨L7.mpr (by dsimp only at b2;lia),?_⟩,?_⟩⟩
  ·rw[Oa b1.1,Oa b2.1];exact h
  ·rw[Oa b1.1,Oa b2.1]
theorem F6(G:InB rs L0 L1 N){R:List (K2×VH)}(J:(R.map (·.1)).Nodup)(L:∀i j,(i,j)∈R.map (·.1)↔at2 rs i j=F2){ys:List D}(B:ys.Perm ((R.map raD).map (·.1)))(hs:fK ys):ys=(gr rs L1 (D1 L0)).map k2D:=by
 have e0:(R.map raD).map (·.1)=(R.map (·.1)).map k2D:=by rw[Ms,Ms];rfl
 rw[e0]at B;obtain⟨ks,F,p2⟩:=eG k2D B rfl;have q:ks.Nodup:=F.nodup_iff.mpr J;rw[<-p2];congr 1;unfold fK at hs;rw[<-p2,LF]at hs;refine kZ (lt:=lt2) (λa b h1 h2=>?_) ((hs.and (LH.mp q)).imp ?_) gr_lt λx=>?_
 ·unfold lt2 at h1 h2;lia
 ·rintro a b ⟨h1,h2⟩;unfold lt2
  by_cases h3:lt2 b a
  ·rw[G6 h3]at h1;cases h1
  ·unfold lt2 at h3
   by_cases h4:a.1=b.1
   ·have:a.2≠b.2:=λz=>h2 (QJ h4 z);lia
   ·lia
 ·rw[qE G,F.mem_iff];exact L x.1 x.2
theorem xh{L0 L1 N:Nat}{rs:List Tm}:∀{l:List Nat},(pl L0 L1 N rs l).length<=l.length*L1
 |[]=>by simp[pl]
 |i::l=>by
  have ih:=xh (L0:=L0) (L1:=L1) (N:=N) (rs:=rs) (l:=l);have h1:(plJ L0 L1 N rs i (D1 L1)).length<=L1:=by unfold plJ;rw[tv];exact LA (N5 _ _) (by simp)
  unfold pl at ih⊢;rw[LG,D2,L4,Mr];lia
theorem zr(hn:2<=n)(h0:L0<=100)(h1:L1<=100)(hN:N<=100){pt:VH}(ept:M pt=Z (.lst (rs.map tmD)))(HZ:(rs.map (·.1)).Nodup)(hB:InB rs L0 L1 N)(hl:rs.length<=100000)(q:∀p M',Ge M M'->M p=Y->M' p=Z (.lst ((pl L0 L1 N rs (D1 L0)).map prD))->Q (.tup [.int L0,.int L1,.int N,.ref p]) M'):phi tab n 13 [.tup [.int L0,.int L1,.int N,.ref pt]] M Q:=by
 refine am ∅ rfl rfl (ρ:=[Z _,Y,Y,Y,Y,Y,Y,Y,Y,Y,Y]) rfl ?_
 unfold d13 L2.Mi.K60.b13;nofun;nofun;intro d hd;have g0:=Ge.new (o:=.dct F2 []) hd;have d0:=aa (M:=M) (a:=d) (o:=.dct F2 []);generalize af M d (.dct F2 [])=M0 at g0 d0⊢;nofun;refine⟨_,ad (g0 _ _ ept),?_⟩;have Ip:pt≠d:=λz=>by rw[z,hd]at ept;cases ept
 refine aO (f:=tmD) (ys:=rs) (I:=λl ρ M'=>∃R g o6 o7 o8 o9 L,ρ=[Z (.tup [.int L0,.int L1,.int N,.ref pt]),Z (.int L0),Z (.int L1),Z (.int N),Z (.ref pt),Z (.ref d),o6,o7,o8,o9,L]/\Ge M M'/\RI d N M' R g/\(∀r∈R,M r.2=Y)/\R.length<=l.length/\(∀k i j,gz (g (i,j)) k=cf l (k,i,j))/\∀i j,(i,j)∈R.map (·.1)↔at2 l i j=F2) rfl ⟨[],λ_=>Kf N 0,_,_,_,_,_,rfl,g0,⟨d0,by simp,by simp,by simp,by simp,by simp,λ_ _=>rfl⟩,by simp,by simp,λk i j=>by rw[ql,bO],by simp[at2]⟩ (λl ρ M' ⟨_,_,_,_,_,_,_,_,g,_⟩=>ad (g _ _ ept)) ?_ ?_
 ·rintro l t r ρ U e ⟨R,g,o6,o7,o8,o9,L,rfl,g1,J,fr,Ic,hg,hk⟩;refine⟨_,rfl,λF hF=>?_⟩;have Id:=ak e;have Ie:t∈rs:=by rw[e];simp
  have tB:=hB.k t Ie;have Ig:cf l t.1=0:=by refine kX λu hu eu=>?_;rw[e,Ld,Ks]at HZ;exact(OK.mp HZ).2.2 _ (KY hu) _ (Lc ..) eu
  have ek:D.tup [D.int t.1.2.1,D.int t.1.2.2]=k2D t.1.2:=rfl;refine bv (λρ M'=>ρ=[Z (.tup [.int L0,.int L1,.int N,.ref pt]),Z (.int L0),Z (.int L1),Z (.int N),Z (.ref pt),Z (.ref d),Z (.int t.1.1),Z (.int t.1.2.1),Z (.int t.1.2.2),Z (.int t.2),L]/\∃R',RI d N M' R' g/\Run d R U R' M'/\(∀r∈R,r∈R')/\R'.length<=R.length+1/\(∀k,k∈R'.map (·.1)↔k∈R.map (·.1)∨k=t.1.2)) (λRR hR=>?_) ?_
  ·ac_nf;refine⟨by rw[z4];lia,d,F2,_,rfl,.inl J.dct,rfl,?_⟩
   ac_nf;rw[ek]
   by_cases G:t.1.2∈R.map (·.1)
   ·obtain⟨a,ha,e⟩:=fj G;rw[e];ac_nf;exact hR _ _ ⟨rfl,R,J,Run.refl,λr h=>h,∅,λk=>⟨.inl,λz=>z.elim id λz=>by rw[z];exact G⟩⟩
   ·rw[s9 G];ac_nf;rw[aX];ac_nf;refine⟨by rw[z4];lia,λp1 Ih=>?_⟩
    have I0:=Ge.new (o:=.lst [.int 0]) Ih;refine⟨_,aa,∅,∅,by rw[z4];simp;lia,λp2 pv=>?_⟩
    have g2:=I0.trans (Ge.new (o:=.lst (Kf (N:Int).toNat [D.int 0]).flatten) pv);have I8:U p2=Y:=by
     cases hq:U p2 with
     |none=>rfl
     |some o=>rw[I0 _ _ hq]at pv;cases pv
    have e2:af (af U p1 (.lst [.int 0])) p2 (.lst (Kf (N:Int).toNat [D.int 0]).flatten) p2=Z (.lst ((Kf N (0:Int)).map .int)):=by rw[aa,gG];simp
    generalize af (af U p1 (.lst [.int 0])) p2 (.lst (Kf (N:Int).toNat [D.int 0]).flatten)=M2 at g2 e2;refine⟨by rw[z4];lia,ja (g2 _ _ J.dct) rfl (by rw[tv,z4];lia) ?_⟩
    rw[ek,sd G];obtain⟨B,r2⟩:=J.new G g2 I8 e2;exact hR _ _ ⟨rfl,_,B,r2,λr h=>Lz _ h,by simp,λk=>by simp⟩
  ·rintro ρ M2 ⟨rfl,R',B,r2,sub,Iq,I9⟩;rw[aX];ac_nf;refine⟨by rw[z4];lia,?_⟩
   rw[ek];obtain⟨a,O,ea⟩:=fj ((I9 t.1.2).mpr (.inr rfl));refine pT B.dct rfl ea ?_;obtain⟨kn,ekn⟩:=Lk tB.1;have Ia:kn<N:=∅
   rw[ekn];refine aN (B.row _ O) (j:=kn) (by rw[tv,B.ln];exact lu Ia) ?_
   obtain⟨I3,r3⟩:=B.put O (row:=(g t.1.2).set kn t.2) (by rw[Ox];exact B.ln _)
   rw[show((g t.1.2).map D.int).set kn (.int t.2)=((g t.1.2).set kn t.2).map D.int from Ow.symm];have rr:=r2.trans (g:=g) r3 B sub;refine hF _ _ ⟨R',_,_,_,_,_,_,rfl,?_,I3,λr hr=>?_,by simp;lia,λk i j=>?_,λi j=>?_⟩
   ·intro b o hb;refine rr.kp b o (λz=>by rw[z,hd]at hb;cases hb) (λz=>?_) (g1 _ _ hb)
    obtain⟨r,hr,rfl⟩:=Ki.mp z;rw[fr r hr]at hb;cases hb
   ·rcases rr.ex r hr with h|h
    ·exact fr r h
    ·cases hz:M r.2 with
     |none=>rfl
     |some o=>rw[g1 _ _ hz]at h;cases h
   ·rw[bj,az,bO]
    by_cases h:(i,j)=t.1.2
    ·rw[if_pos h,wP (by rw[B.ln];exact Ia)]
     by_cases h3:k=kn
     ·have et:t.1=(k,i,j):=QJ (ekn.trans h3.symm) h.symm;rw[if_pos h3,if_pos et,<-et,Ig];lia
     ·rw[if_neg h3,if_neg (λz=>h3 ((congrArg (·.1) z).symm.trans ekn)),<-h,hg];lia
    ·rw[if_neg h,if_neg (λz=>h (congrArg (·.2) z).symm),hg];lia
   ·rw[I9,hk];unfold at2;rw[List.any_append,MU,List.any_nil,Bool.or_false,Qn];exact or_congr TM ⟨λz=>by simp[z],λz=>(of_decide_eq_true z).symm⟩
 ·rintro ρ U ⟨R,g,o6,o7,o8,o9,L,rfl,g1,J,fr,Ic,hg,hk⟩;dsimp only;rw[aX];ac_nf;refine⟨d,F2,_,.tup [.int,.int],rfl,J.dct,rfl,λkv Ii=>?_,λps ys Ij fv Ib=>?_⟩
  ·obtain⟨t,_,rfl⟩:=Ki.mp Ii;rfl
  have ey:=F6 hB J.keys hk fv Ib;subst ey;have g2:=Ge.new (o:=.lst ((gr rs L1 (D1 L0)).map k2D)) Ij;have e2:=aa (M:=U) (a:=ps) (o:=.lst ((gr rs L1 (D1 L0)).map k2D));have B:=J.ge g2;have g2:=g1.trans g2;generalize af U ps (.lst ((gr rs L1 (D1 L0)).map k2D))=M2 at g2 e2 B⊢;refine⟨_,ad e2,?_⟩;refine au (f:=k2D) (ys:=gr rs L1 (D1 L0)) (I:=λl ρ M' acc=>(∃o0 o1,ρ=[o0,o1,Z (.int L0),Z (.int L1),Z (.ref d)])/\Ge M2 M'/\acc=(l.map λk=>pq L0 L1 N rs k.1 k.2).map prD) rfl ⟨⟨_,_,rfl⟩,Ge.refl,rfl⟩ (λ_ _ _ _ h=>ad (h.2.1 _ _ e2)) ?_ ?_
  ·rintro lk k rk ρ M3 acc ek ⟨⟨o0,o1,rfl⟩,g3,rfl⟩;refine⟨_,rfl,λN' Ik=>?_⟩;have Il:k∈gr rs L1 (D1 L0):=by rw[ek];simp
   have HY:=(qE hB).mp Il;have Im:=(hk k.1 k.2).mpr HY;have Id:=ak ek;have Io:=xh (L0:=L0) (L1:=L1) (N:=N) (rs:=rs) (l:=D1 L0);rw[nV,tv,Kx]at Io;have h6:L0*L1<=100*100:=L5 h0 h1;unfold at2 at HY;obtain⟨t,ht,et⟩:=N9.mp HY;have et:t.1.2=(k.1,k.2):=of_decide_eq_true et;have b1:=hB.i t ht;have b2:=hB.j t ht;rw[et]at b1 b2;ac_nf;refine dy ∅ ∅ b1.1 b1.2 λp4 M4 g4 _ e4=>⟨_,_,rfl,ad e4,?_⟩
   refine dy ∅ ∅ b2.1 b2.2 λp5 M5 g5 _ e5=>⟨_,_,rfl,ad e5,?_⟩
   have g5:=(g3.trans g4).trans g5;have I5:=B.ge g5;obtain⟨a,O,ea⟩:=fj Im;refine⟨by rw[z4];lia,pT I5.dct rfl ea ⟨_,_,rfl,ad (I5.row _ O),?_⟩⟩
   refine⟨by rw[z4];lia,by rw[tv,tv,z4];lia,Ik _ _ _ ⟨⟨_,_,rfl⟩,g5,?_⟩⟩
   rw[Ld,Ld];congr 1;have eg:g (k.1,k.2)=(D1 N).map λm:Nat=>cf rs (m,k.1,k.2):=by
    apply MX;intro m;rw[KH]
    by_cases hm:m<N
    ·rw[LY hm,wQ (by rw[J.ln];exact hm),hg];rfl
    ·rw[LX (by rw[J.ln];lia),LX (by simp;lia)];rfl
   show[D.tup [_,_,D.tup ((g (k.1,k.2)).map D.int)]]=_;rw[eg];rfl
  ·rintro ρ M3 acc ⟨⟨o0,o1,rfl⟩,g3,rfl⟩ p6 hp6;have g6:=Ge.new (o:=.lst (((gr rs L1 (D1 L0)).map λk=>pq L0 L1 N rs k.1 k.2).map prD)) hp6;nofun;refine⟨by rw[z4];lia,q p6 _ ((g2.trans g3).trans g6) ?_ (by rw[aa,nV])⟩
   cases hz:M p6 with
   |none=>rfl
   |some o=>rw[(g2.trans g3) _ _ hz]at hp6;cases hp6
theorem DM{a b:K2}(h:lt2 a b):a≠b:=λz=>by subst z;unfold lt2 at h;lia
theorem sx{α:Type}[BEq α][LawfulBEq α]:∀{l m:List α},l.Nodup->(∀x∈l,x∈m)->l.length<=m.length
 |[],_,_,_=>Mj _
 |x::l,m,j,h=>by
  rw[Ma]at j;have ih:=sx (l:=l) (m:=m.erase x) j.2 λy q=>by
   rw[SN (λz=>j.1 (by rw[<-z];exact q))]
   exact h y (KQ _ q)
  rw[Rt (h x Lc)]at ih;have:=Sa (h x Lc);rw[L4];lia
theorem F7(j:InB rs L0 L1 N):(pl L0 L1 N rs (D1 L0)).length<=rs.length:=by rw[nV,tv,<-tv (as:=rs) (f:=λt:Tm=>t.1.2)];refine sx (LH.mpr (gr_lt.imp DM)) λk q=>?_;have h:=(qE j).mp q;unfold at2 at h;obtain⟨t,z,e⟩:=N9.mp h;exact Ki.mpr ⟨t,z,of_decide_eq_true e⟩
theorem nc:cG (one L i):=λx hx=>by
 obtain⟨m,_,rfl⟩:=Ki.mp hx
 split<;>lia
theorem F8(hs:∀k,-1000<=cf rs k/\cf rs k<=1000):∀p∈pl L0 L1 N rs (D1 L0),cu L0 L1 N p:=λp j=>by
 rw[nV]at j;obtain⟨k,_,rfl⟩:=Ki.mp j;refine⟨bR,bR,by simp[pq],nc,nc,λx hx=>?_⟩
 obtain⟨m,_,rfl⟩:=Ki.mp hx;exact hs _
theorem lw(h:Within 1 l):cG l:=λx hx=>by have:=h x hx;lia
theorem F9:∀p∈bp n,cu n n (2*n-1) p:=λp j=>by have:=BI p (bp_pp.mem_iff.mp j);exact⟨this.l0,this.l1,this.l2,lw this.e0,lw this.e1,lw this.e2⟩
theorem bps(j:n<=50)(h1:1<=n){k:Nat}(z:3<=k)(q:∀p M',Ge M M'->M p=Y->M' p=Z (.lst ((bp n).map prD))->Q (.tup [.int n,.int n,.int ((2*n-1:Nat):Int),.ref p]) M'):phi tab k 16 [.int n] M Q:=F3 (s:=ai 20) (so:=ai 18) (sp:=ai 19) (s1:=ai 13) (fo:=14) (fp:=15) (f1:=11) rfl rfl rfl rfl z j h1 q
theorem xi(z:1<=n)(q:∀p,M p=Y->Q (.tup [.int 4,.int 4,.int 4,.ref p]) (af M p (.lst (seven.map prD)))):phi tab n 17 [] M Q:=by
 refine am ∅ rfl rfl (ρ:=[]) rfl ?_
 unfold d17 L2.Mi.K60.b17;nofun;refine⟨_,_,rfl,rfl,λp j=>?_⟩;exact⟨by rw[z4];lia,q p j⟩
noncomputable def smB(l:List Int):Bool:=l.all λx=>decide (-1<=x/\x<=1)
theorem zt:∀p∈seven,cu 4 4 4 p:=λp j=>by
 have h:(p.1.length==4&&p.2.1.length==4&&p.2.2.length==4&&smB p.1&&smB p.2.1&&smB p.2.2)=F2:=(by decide:∀p∈seven,(p.1.length==4&&p.2.1.length==4&&p.2.2.length==4&&smB p.1&&smB p.2.1&&smB p.2.2)=F2) p j
 simp only[q7,beq_iff_eq,smB,OY,decide_eq_true_eq]at h;obtain⟨⟨⟨⟨⟨a,b⟩,c⟩,d⟩,e⟩,f⟩:=h;exact⟨a,b,c,λx hx=>by have:=d x hx;lia,λx hx=>by have:=e x hx;lia,λx hx=>by have:=f x hx;lia⟩
theorem ur(B:6<=n){a:VH}{L2 c:Nat}(h0:L0<=1000)(h1:L1<=1000)(h2:L2<=1000)(hc:c<=1000)(hb:Box b M)(j:a≠b)(z:M a=Z (.lst [.int L0,.int L1,.int L2]))(q:∀(ps:List Pr) pr M',ps.length=c->(∀p∈ps,cu L0 L1 L2 p)->Bx b M M'->M pr=Y->M' pr=Z (.lst (ps.map prD))->Q (.tup [.int L0,.int L1,.int L2,.ref pr]) M'):phi tab n 25 [.ref b,.ref a,.int c] M Q:=wB (s:=ai 30) (ft:=21) (fp:=24) rfl (aI ∅) (qt ∅) ∅ h0 h1 h2 hc hb j z q
theorem A4{p:Pr}(h:cu L0 L1 N p):Pf L0 L1 N p:=⟨gN h.s0,gN h.s1,gN h.s2,h.l0,h.l1,h.l2⟩
structure Pq(b:VH)(L0 L1 N:Nat)(ps:List Pr)(ts us:List Tm)(p r:VH)(M:Mem):Prop where
 hL:Ln L0 L1 N
 hc:ps.length<=18
 hF:∀p∈ps,cu L0 L1 N p
 hT:IsTask ts us
 hl:us.length<=1000
 hU:InB us L0 L1 N
 box:Box b M
 pb:p≠b
 rb:r≠b
 ep:M p=Z (.lst (ps.map prD))
 er:M r=Z (.lst (us.map tmD))
theorem Fa(hL:Ln L0 L1 N)(hc:ps.length<=18)(hF:∀p∈ps,cu L0 L1 N p)(h1:IsTask ts us)(h2:∀k i j,cf ts (k,i,j)=Tn ps k i j):InB us L0 L1 N:=by
 have g:∀r∈us,((0<=r.1.1/\r.1.1<N)/\(0<=r.1.2.1/\r.1.2.1<L0)/\(0<=r.1.2.2/\r.1.2.2<L1))/\(-(2^64)<r.2/\r.2<2^64):=λr q=>by
  obtain⟨F,B⟩:=h1.iff.mp q;have e:cf ts r.1=Tn ps r.1.1 r.1.2.1 r.1.2.2:=h2 _ _ _;have hb:=qq hF (k:=r.1.1) (i:=r.1.2.1) (j:=r.1.2.2);refine⟨gJ (L0:=L0) (L1:=L1) (L2:=N) (λu z=>⟨(hF u z).l0,(hF u z).l1,(hF u z).l2⟩) (k:=r.1.1) (i:=r.1.2.1) (j:=r.1.2.2) (by rw[<-e,<-B];exact F),?_⟩
  have G:r.2=Tn ps r.1.1 r.1.2.1 r.1.2.2:=by rw[B,e]
  rw[<-G]at hb;have:ps.length*1000000000<=18*1000000000:=NX _ hc;lia
 exact⟨λr q=>(g r q).1.1,λr q=>(g r q).1.2.1,λr q=>(g r q).1.2.2,λr q=>(g r q).2⟩
structure Tk(b:VH)(L0 L1 N:Nat)(ts us:List Tm)(r:VH)(M:Mem):Prop where
 hL:Ln L0 L1 N
 hT:IsTask ts us
 hb:∀t∈ts,(0<=t.1.1/\t.1.1<N)/\(0<=t.1.2.1/\t.1.2.1<L0)/\(0<=t.1.2.2/\t.1.2.2<L1) /\ -1<=t.2/\t.2<=1
 hl:ts.length<=18
 box:Box b M
 rb:r≠b
 er:M r=Z (.lst (us.map tmD))
theorem Tk.inB(h:Tk b L0 L1 N ts us r M):InB us L0 L1 N:=rS h.hT (λt j=>⟨(h.hb t j).1,(h.hb t j).2.1,(h.hb t j).2.2.1,by have:=(h.hb t j).2.2.2;lia⟩) (by have:=h.hl;lia)
theorem Tk.bd(h:Tk b L0 L1 N ts us r M)(k:K3):-1000<=cf us k/\cf us k<=1000:=by
 rw[h.hT.cf];obtain⟨h1,h2⟩:=qa (ts:=ts) (B:=1) ∅ (λt j=>(h.hb t j).2.2.2) (k:=k)
 have:=h.hl;lia
theorem gP{p:Nat}{t:Tm}(q:t∈df n m p):(0<=t.1.1/\t.1.1<(n*p:Nat))/\(0<=t.1.2.1/\t.1.2.1<(n*m:Nat))/\(0<=t.1.2.2/\t.1.2.2<(m*p:Nat)) /\ -1<=t.2/\t.2<=1:=by obtain⟨a,b,c,j,hb,hc,rfl⟩:=Bz q;have z:=qh j hc;have B:=qh j hb;have F:=qh hb hc;unfold je;dsimp only;exact⟨∅,∅,∅,by decide,by decide⟩
theorem BS(z:1<=n){t:Tm}(q:t∈cm n m):(0<=t.1.1/\t.1.1<(n+m-1:Nat))/\(0<=t.1.2.1/\t.1.2.1<n)/\(0<=t.1.2.2/\t.1.2.2<m) /\ -1<=t.2/\t.2<=1:=by obtain⟨i,j,hi,B,rfl⟩:=jd q;unfold eK;dsimp only;exact⟨∅,∅,∅,by decide,by decide⟩
theorem BU{tn:Int}(q:tn=1∨tn = -1){t:Tm}(z:t∈eN n tn):(0<=t.1.1/\t.1.1<n)/\(0<=t.1.2.1/\t.1.2.1<n)/\(0<=t.1.2.2/\t.1.2.2<n) /\ -1<=t.2/\t.2<=1:=by
 obtain⟨i,j,hi,B,rfl⟩:=jd z;unfold eM;split
 ·dsimp only;exact⟨∅,∅,∅,by decide,by decide⟩
 ·dsimp only;exact⟨∅,∅,∅,∅,∅⟩
theorem DN:∀n:Fin 5,(bp n.val).length<=18:=by decide
theorem zu(F:2<=n){m:Int}(hm:1<=m/\m<=100){ρ:ar}(eb:ρ[0]?=Z (Z (.ref b)))(em:ρ[5]?=Z (Z (.int m))){x y z:Str}(hb:Box b M)(q:∀(u v w:Nat) p M',(1<=u/\(u:Int)<=m)->(1<=v/\(v:Int)<=m)->(1<=w/\(w:Int)<=m)->Box b M'->p≠b->M' p=Z (.lst [.int u,.int v,.int w])->Q (.ref p) M'):
 wE (phi tab n) (.comp [Y,(Z 0),(Z 5)] [x,y,z] (.last (.rng1 (.int 3)) (.name 0) .nil (.bin .add (.int 1) (.call 21 (.cons (.var 1) (.cons (.var 2) .nil)))))) ρ M Q:=by
 have j:∀r:Int,0<=r->r<m->∃u:Nat,1+r=(u:Int)/\1<=u/\(u:Int)<=m:=λr h0 h1=>⟨(1+r).toNat,∅,∅,∅⟩
 ac_nf;rw[eb,em];refine⟨by decide,by decide,trivial,_,rfl,?_⟩
 ac_nf;refine aI F hb ∅ ∅ λL M1 B a1 O=>?_
 obtain⟨u,eu,U⟩:=j L B a1;ac_nf;refine⟨by rw[z4];simp,trivial,_,rfl,?_⟩
 ac_nf;refine aI F O.box ∅ ∅ λpv M2 B a1 fv=>?_
 obtain⟨v,ev,hv⟩:=j pv B a1;ac_nf;refine⟨by rw[z4];simp,trivial,_,rfl,?_⟩
 ac_nf;refine aI F fv.box ∅ ∅ λr3 M3 B a1 G=>?_
 obtain⟨w,ew,hw⟩:=j r3 B a1;ac_nf;refine⟨by rw[z4];simp,trivial,λp J=>?_⟩
 rw[eu,ev,ew];exact q u v w p _ U hv hw (Bx.of G.box (Ge.new J)).box (aP G.box J) aa
theorem Fb{Φ:Phi}{g:MG}{e:ME}{r:MSs}{E:bh}{ρ:ar}(h:wE Φ e ρ M λx j=>∃ρ',bG g x ρ=Z ρ'/\wSs Φ r E ρ' j):wSs Φ (.cons (.asg g e) r) E ρ M:=by rw[aX];exact h
theorem BV(hn:8<=n)(hb:Box b M)(q:∀(L0 L1 N:Nat) (ps:List Pr) (ts us:List Tm) (p r:VH) (M':Mem),Pq b L0 L1 N ps ts us p r M'->Q (.tup [.tup [.int L0,.int L1,.int N,.ref p],.tup [.int L0,.int L1,.int N,.ref r]]) M'):phi tab n 26 [.ref b] M Q:=by
 refine am ∅ rfl rfl (ρ:=[Z _,Y,Y,Y,Y,Y,Y,Y]) rfl ?_
 unfold d26 L2.Mi.K60.b26;nofun;refine aI ∅ hb (by decide) (by decide) λway M1 w0 w1 x1=>?_
 nofun;refine aI ∅ x1.box (by decide) (by decide) λu M2 u0 u1 x2=>?_
 ac_nf;refine aI ∅ x2.box (by decide) (by decide) λv M3 v0 v1 x3=>?_
 have hb:=x3.box;ac_nf;obtain⟨un,I0⟩:∃x:Nat,1+u=(x:Int):=⟨(1+u).toNat,∅⟩
 obtain⟨vn,I8⟩:∃x:Nat,1+v=(x:Int):=⟨(1+v).toNat,∅⟩
 rw[I0,I8];have hu:1<=un/\un<=3:=∅
 have hv:1<=vn/\vn<=3:=∅
 clear x1 x2 x3 u0 u1 v0 v1 I0 I8;nofun
 split
 ·nofun;refine xi ∅ λp hp=>?_
  have I9:=aP hb hp;have g4:=Ge.new (o:=.lst (seven.map prD)) hp;have j:=(Bx.of hb g4).box;have ep:=aa (M:=M3) (a:=p) (o:=.lst (seven.map prD));generalize af M3 p (.lst (seven.map prD))=M4 at j ep⊢;refine qi (s:=ai 3) (s':=ai 1) (ft:=0) (n:=2) (m:=2) (p:=2) rfl rfl ∅ ∅ ∅ ∅ λrs r pv hT L n5 G=>?_
  have hl:=hT.len;rw[show(df 2 2 2).length=8 from rfl]at hl;exact⟨by rw[z4];lia,q 4 4 4 seven (df 2 2 2) rs p r pv ⟨⟨∅,∅,∅⟩,by decide,zt,hT,∅,rS hT (λt U=>⟨(gP U).1,(gP U).2.1,(gP U).2.2.1,by have:=(gP U).2.2.2;lia⟩) (by rw[show(df 2 2 2).length=8 from rfl];lia),(Bx.of j L).box,I9,aP j n5,L _ _ ep,G⟩⟩
 nofun
 split
 ·nofun;rw[show((un:Nat):Int)+1=((un+1:Nat):Int) by lia]
  refine bps ∅ ∅ ∅ λp M4 g4 n4 J=>?_
  have j:=(Bx.of hb g4).box;refine rR (s:=ai 4) (s':=ai 1) (ft:=0) (n:=un+1) (m:=un+1) rfl rfl ∅ ∅ ∅ λrs r pv hT L n5 G=>?_
  have hl:=hT.len;have Iq:(un+1)*(un+1)<=4*4:=L5 ∅ ∅
  rw[show(cm (un+1) (un+1)).length=(un+1)*(un+1)from ee]at hl;have:=q (un+1) (un+1) (2*(un+1)-1) (bp (un+1)) (cm (un+1) (un+1)) rs p r pv ⟨⟨∅,∅,∅⟩,DN ⟨un+1,∅⟩,F9,hT,∅,?_,(Bx.of j L).box,aP hb n4,aP j n5,L _ _ J,G⟩
  ·rw[show((un+1:Nat):Int)+((un+1:Nat):Int)-1=((2*(un+1)-1:Nat):Int) by lia]
   exact⟨by rw[z4];lia,this⟩
  ·rw[show 2*(un+1)-1=un+1+(un+1)-1 by lia];exact By hT ∅
 have Ir:un*vn<=3*3:=L5 hu.2 hv.2;have Iu:1<=un*vn:=L5 hu.1 hv.1;have Iv:un*(vn*2)<=3*6:=L5 hu.2 ∅
 refine bv (I:=λρ M'=>∃L0 L1 N ts us r,ρ=[Z (.ref b),Z (.int way),Z (.int (un:Nat)),Z (.int (vn:Nat)),Z (.tup [.int (L0:Nat),.int (L1:Nat),.int (N:Nat),.ref r]),Y,Y,Y]/\Tk b L0 L1 N ts us r M') (λR hR=>?_) ?_
 ·ac_nf;refine qi (s:=ai 3) (s':=ai 1) (ft:=0) (n:=un) (m:=vn) (p:=2) rfl rfl ∅ ∅ ∅ ∅ λIa r1 M4 Ib g4 n4 J=>?_
  have j:=(Bx.of hb g4).box;have Ic:=aP hb n4;refine rR (s:=ai 4) (s':=ai 1) (ft:=0) (n:=un) (m:=vn) rfl rfl ∅ ∅ ∅ λId r2 pv Ie L n5 G=>?_
  have fv:=(Bx.of j L).box;have Ig:=aP j n5;have J:=L _ _ J;clear g4 L n4 n5;refine⟨by rw[z4];lia,λpc O=>⟨by decide,?_⟩⟩
  have g6:=Ge.new (o:=.lst [.int 1,.int (-1)]) O;have ec:=aa (M:=pv) (a:=pc) (o:=.lst [.int 1,.int (-1)]);have F:=(Bx.of fv g6).box;have J:=g6 _ _ J;have G:=g6 _ _ G;generalize af pv pc (.lst [.int 1,.int (-1)])=M6 at ec F J G⊢;clear g6 O fv j;have fin:∀tn:Int,(tn=1∨tn = -1)->phi tab (n-1) 4 [.int (un:Nat),.int tn] M6 (λx M1=>0+1+1+1<=Kn/\∀p:VH,M1 p=Y->(0:Int)<3/\wIx (.ref p) (.int (way%3)) (af M1 p (.lst [.tup [.int (un*vn:Nat),.int (vn*2:Nat),.int (un*2:Nat),.ref r1],.tup [.int un,.int vn,.int ((un:Int)+vn-1),.ref r2],x])) λx M1=>R [Z (.ref b),Z (.int way),Z (.int (un:Nat)),Z (.int (vn:Nat)),Z x,Y,Y,Y] M1):=λtn Ih=>by
   refine Bw (s:=ai 5) (s':=ai 1) (ft:=0) rfl rfl ∅ ∅ λIi r3 M7 Ij g7 n7 e7=>⟨by rw[z4];lia,λpl Ik=>⟨by decide,?_⟩⟩
   have Il:=(Bx.of F g7).box;have Im:=aP F n7;have J:=g7 _ _ J;have G:=g7 _ _ G;have g8:=Ge.new (o:=.lst [.tup [.int (un*vn:Nat),.int (vn*2:Nat),.int (un*2:Nat),.ref r1],.tup [.int un,.int vn,.int ((un:Int)+vn-1),.ref r2],.tup [.int un,.int un,.int un,.ref r3]]) Ik;have el:=aa (M:=M7) (a:=pl) (o:=.lst [.tup [.int (un*vn:Nat),.int (vn*2:Nat),.int (un*2:Nat),.ref r1],.tup [.int un,.int vn,.int ((un:Int)+vn-1),.ref r2],.tup [.int un,.int un,.int un,.ref r3]]);have HY:=(Bx.of Il g8).box;have J:=g8 _ _ J;have G:=g8 _ _ G;have e7:=g8 _ _ e7;generalize af M7 pl _=M8 at el HY J G e7⊢;have w3:way%3=0∨way%3=1∨way%3=2:=∅
   rcases w3 with e|e|e
   ·rw[e];refine aA el rfl (hR _ _ ⟨un*vn,vn*2,un*2,df un vn 2,Ia,r1,rfl,⟨⟨∅,∅,∅⟩,Ib,λt U=>gP U,?_,HY,Ic,J⟩⟩)
    unfold df;rw[lc,Kx];lia
   ·rw[e];refine aA el rfl (hR _ _ ⟨un,vn,un+vn-1,cm un vn,Id,r2,?_,⟨⟨∅,∅,∅⟩,Ie,λt U=>BS hu.1 U,by rw[show(cm un vn).length=un*vn from ee];lia,HY,Ig,G⟩⟩)
    rw[show((un+vn-1:Nat):Int)=(un:Int)+vn-1 by lia]
   ·rw[e];have Iw:un*un<=3*3:=L5 hu.2 hu.2;exact aA el rfl (hR _ _ ⟨un,un,un,eN un tn,Ii,r3,rfl,⟨⟨∅,∅,∅⟩,Ij,λt U=>BU Ih U,by rw[show(eN un tn).length=un*un from ee];lia,HY,Im,e7⟩⟩)
  have v2:(vn:Int)%2=0∨(vn:Int)%2=1:=∅
  rcases v2 with e|e
  ·rw[e];exact aA ec rfl (fin 1 (.inl rfl))
  ·rw[e];exact aA ec rfl (fin (-1) (.inr rfl))
 ·rintro ρ M4 ⟨L0,L1,N,ts,us,r,rfl,B⟩;have h7:=B.hL.a;have h8:=B.hL.b;have h9:=B.hL.c;have Io:us.length<=18:=LA B.hT.len B.hl;nofun
  split
  ·nofun;refine zr ∅ ∅ ∅ ∅ B.er B.hT.nodup B.inB ∅ λp pv L n5 G=>?_
   exact⟨by rw[z4];lia,q L0 L1 N (pl L0 L1 N us (D1 L0)) ts us p r pv ⟨B.hL,LA (F7 B.inB) Io,F8 B.bd,B.hT,∅,B.inB,(Bx.of B.box L).box,aP B.box n5,B.rb,G,L _ _ B.er⟩⟩
  ·refine bv (I:=λρ M'=>∃(m:Int) (o4:Option D),(1<=m/\m<=7)/\ρ=[Z (.ref b),Z (.int way),Z (.int (un:Nat)),Z (.int (vn:Nat)),o4,Z (.int m),Y,Y]/\Box b M') (λR hR=>?_) ?_
   ·ac_nf;refine⟨by rw[z4];lia,λpc O=>?_⟩
    have g6:=Ge.new (o:=.lst [.int 4,.int 7]) O;have ec:=aa (M:=M4) (a:=pc) (o:=.lst [.int 4,.int 7]);have F:=(Bx.of B.box g6).box;have Ip:=aP B.box O;generalize af M4 pc (.lst [.int 4,.int 7])=M6 at ec F⊢;refine aI ∅ F (by decide) (by decide) λc M7 c0 c1 x7=>?_
    ac_nf;have ec:=x7.keep _ _ Ip ec
    by_cases hc:c=0
    ·rw[if_pos (by simp[hc])]
     exact aA ec rfl (hR _ _ ⟨7,_,∅,rfl,x7.box⟩)
    ·rw[if_neg (by simp[hc])]
     exact aA ec rfl (hR _ _ ⟨4,_,∅,rfl,x7.box⟩)
   ·rintro ρ pv ⟨m,o4,hm,rfl,fv⟩;refine Fb (zu (n:=n-1) (m:=m) (x:=_) (y:=_) (z:=_) ∅ ∅ rfl rfl fv λL0 L1 N pl' M6 h0 h1 hN F HZ epl=>⟨_,rfl,?_⟩)
    nofun;refine aI ∅ F (by decide) (by decide) λc M7 c0 c1 x7=>?_
    obtain⟨cn,rfl⟩:=Lk c0;refine ur ∅ ∅ ∅ ∅ ∅ x7.box HZ (x7.keep _ _ HZ epl) λps p M8 hlen hF x8 n8 e8=>?_
    nofun;have hL:Ln L0 L1 N:=⟨∅,∅,∅⟩
    refine kr ∅ hL e8 ∅ (λp hp=>A4 (hF p hp)) λts us r M9 t1 t2 g9 n9 e9=>?_
    have Ix:=few hL (λp hp=>A4 (hF p hp)) t1 t2;exact⟨by rw[z4];lia,q L0 L1 N ps ts us p r M9 ⟨hL,∅,hF,t1,∅,Fa hL ∅ hF t1 t2,(Bx.of x8.box g9).box,aP x7.box n8,aP x8.box n9,g9 _ _ e8,e9⟩⟩
theorem ut{p:Pr}(h:cu L0 L1 N p):Dr 1000 L0 L1 N p:=⟨h.l0,h.l1,h.l2,λx hx=>h.s0 x hx,λx hx=>h.s1 x hx,λx hx=>h.s2 x hx⟩
theorem dpf(h:B<=1000000000000){p:Pr}(d:Dr B L0 L1 N p):Pf L0 L1 N p:=⟨λx hx=>by have:=d.e0 x hx;lia,λx hx=>by have:=d.e1 x hx;lia,λx hx=>by have:=d.e2 x hx;lia,d.l0,d.l1,d.l2⟩
theorem lB{a b c d:D}(q:Q (.tup [a,b,c]) M):cB (.tup [a,b,c,d]) Y (Z 3) M Q:=q
theorem zw{xs:List D}(h:n<=xs.length):dR xs Y (Z (n:Int))=xs.take n:=by unfold dR;rw[HT.sIx_none,HT.sIx_nat,Nm h];simp
theorem zx{xs:List D}(h:n<=xs.length):dR xs (Z (n:Int)) Y=xs.drop n:=by unfold dR;rw[HT.sIx_none,HT.sIx_nat,Nm h];exact Ny (by simp)
theorem xj{B C:Int}:∀{a b:List Int},Within B a->Within C b->Within (B+C) (bK a b)
 |[],_,_,_=>λx hx=>by simp[bK]at hx
 |_::_,[],_,_=>λx hx=>by simp[bK]at hx
 |x::a,y::b,q,hb=>fun z j=>by
  rw[show bK (x::a) (y::b)=(x-y)::bK a b from rfl]at j
  rcases Km.mp j with rfl|j
  ·have:=q x (by simp);have:=hb y (by simp);lia
  ·exact xj (λw hw=>q w (by simp[hw])) (λw hw=>hb w (by simp[hw])) z j
theorem A5(h:Within B l):Within B (l.map λx=>0-x):=λx hx=>by obtain⟨y,j,rfl⟩:=Ki.mp hx;have:=h y j;lia
theorem qF{N:NC}(hl:a.length<=1000){chk:Mem->Prop}(hc:chk M)(q:∀ρ,N ρ M ((a.map λx=>0-x).map .int)):
 bx (br 0) (cC (wOp iP (wC (.int 0)) (dQ 0))) chk N (a.map .int) [Y] M []:=by
 refine au (f:=D.int) (ys:=a) (I:=λl ρ M' acc=>(∃o0,ρ=[o0])/\M'=M/\acc=(l.map λx=>0-x).map .int) rfl ⟨⟨_,rfl⟩,rfl,rfl⟩ (λ_ _ _ _ h=>by rw[h.2.1];exact hc) ?_ ?_
 ·rintro l z r ρ M1 acc e ⟨⟨o0,rfl⟩,rfl,rfl⟩;refine⟨_,rfl,λN' j=>?_⟩;have B:=ak e;ac_nf;exact⟨by rw[tv,tv,z4];lia,j _ _ _ ⟨⟨_,rfl⟩,rfl,by simp⟩⟩
 ·rintro ρ M1 acc ⟨⟨o0,rfl⟩,rfl,rfl⟩;exact q _
theorem DO(hn:6<=n)(hL:Ln L0 L1 N)(hc:ps.length<=18)(hF:∀p∈ps,cu L0 L1 N p)(hb:Box b M)(Ia:p≠b)(ep:M p=Z (.lst (ps.map prD)))(q:∀(qs:List Pr) p' M',qs.length<=36->(∀p∈qs,Dr 2000 L0 L1 N p)->Bx b M M'->M p'=Y->M' p'=Z (.lst (qs.map prD))->Q (.tup [.int L0,.int L1,.int N,.ref p']) M'):phi tab n 27 [.ref b,.tup [.int L0,.int L1,.int N,.ref p]] M Q:=by
 have h7:=hL.a;have h8:=hL.b;have h9:=hL.c;refine am ∅ rfl rfl (ρ:=[Z _,Z _,Y,Y,Y,Y,Y,Y,Y,Y]) rfl ?_
 unfold d27 L2.Mi.K60.b27;nofun;refine⟨by rw[z4];lia,λpq U=>?_⟩
 have g1:=Ge.new (o:=.lst []) U;have e1:=aa (M:=M) (a:=pq) (o:=.lst []);have x1:=(Bx.refl hb).ge g1;have I0:=aP hb U;generalize af M pq (.lst [])=M1 at g1 e1 x1⊢;nofun;refine⟨_,rfl,_,ad (g1 _ _ ep),?_⟩;refine aO (f:=prD) (ys:=ps) (I:=λl ρ M'=>∃(qs:List Pr) (o3 o4 o5 o6 o7 o8 o9:Option D),ρ=[Z (.ref b),Z (.tup [.int L0,.int L1,.int N,.ref p]),Z (.ref pq),o3,o4,o5,o6,o7,o8,o9]/\Bx b M M'/\M' p=Z (.lst (ps.map prD))/\M' pq=Z (.lst (qs.map prD))/\qs.length<=2*l.length/\∀p∈qs,Dr 2000 L0 L1 N p) rfl ⟨[],_,_,_,_,_,_,_,rfl,x1,g1 _ _ ep,e1,by simp,λ_ h=>absurd h (by simp)⟩ (λ_ _ _ h=>by obtain⟨_,_,_,_,_,_,_,_,_,_,e,_⟩:=h;exact ad e) ?_ ?_
 ·rintro l u r ρ M2 e ⟨qs,o3,o4,o5,o6,o7,o8,o9,rfl,x2,Ib,e2,Io,Ic⟩;refine⟨_,rfl,λF Ip=>?_⟩;have hu:=hF u (by rw[e];simp)
  have ID:=ak e;nofun;refine aI ∅ x2.box (by decide) (by decide) λv M3 v0 v1 x3=>?_
  have B:=x3.keep _ _ I0 e2;have j:=x3.keep _ _ Ia Ib;have x3:=x2.trans x3;clear e2 Ib x2;nofun;refine⟨by rw[z4];lia,by rw[z4];lia,λJ pv=>?_⟩
  have g4:=Ge.new (o:=.lst ([u].map prD)) pv;have e4:=aa (M:=M3) (a:=J) (o:=.lst ([u].map prD));have x4:=x3.ge g4;have L:=aP x3.box pv;have O:J≠pq:=λz=>by rw[z,B]at pv;cases pv
  have B:=g4 _ _ B;have j:=g4 _ _ j;change wSs _ _ _ _ (af M3 J (.lst ([u].map prD)));generalize af M3 J (.lst ([u].map prD))=M4 at e4 x4 B j⊢;clear g4 x3 pv;have Iq:Dr 2000 L0 L1 N u:=(ut hu).mono ∅
  refine bv (I:=λρ M'=>∃(ss:List Pr) (J:VH) (o8:Option D),ρ=[Z (.ref b),Z (.tup [.int L0,.int L1,.int N,.ref p]),Z (.ref pq),Z (.tup (u.1.map .int)),Z (.tup (u.2.1.map .int)),Z (.tup (u.2.2.map .int)),Z (.int v),Z (.ref J),o8,o9]/\Bx b M M'/\M' p=Z (.lst (ps.map prD))/\M' pq=Z (.lst (qs.map prD))/\M' J=Z (.lst (ss.map prD))/\ss.length<=2/\(∀p∈ss,Dr 2000 L0 L1 N p)/\J≠b/\J≠pq) (λR hR=>?_) ?_
  ·ac_nf
   by_cases hv:v=0
   ·rw[if_pos (by simp[hv])]
    nofun;refine⟨_,rfl,?_⟩;refine qt ∅ ∅ x4.box λns M5 Ir Iu fv=>?_
    have B:=fv.keep _ _ I0 B;have j:=fv.keep _ _ Ia j;have fv:=x4.trans fv;nofun;have Id:u.1.length=L0:=hu.l0;refine⟨by rw[z4];lia,BD ∅ trivial λ_ pt Ie=>?_⟩
    have g6:=Ge.new (o:=.lst ((bK u.1 ns).map D.int)) Ie;have x6:=fv.ge g6;have B:=g6 _ _ B;have j:=g6 _ _ j;have et:=aa (M:=M5) (a:=pt) (o:=.lst ((bK u.1 ns).map D.int));generalize af M5 pt (.lst ((bK u.1 ns).map D.int))=M6 at x6 B j et⊢;refine⟨_,_,rfl,ad et,?_⟩;refine⟨by rw[z4];lia,by rw[z4];lia,λp8 G=>?_⟩
    have g7:=Ge.new (o:=.lst ([(ns,u.2.1,u.2.2),(bK u.1 ns,u.2.1,u.2.2)].map prD)) G;refine hR _ _ ⟨[(ns,u.2.1,u.2.2),(bK u.1 ns,u.2.1,u.2.2)],p8,_,rfl,x6.ge g7,g7 _ _ j,g7 _ _ B,aa,by simp,λy hy=>?_,aP x6.box G,λz=>by rw[z,B]at G;cases G⟩
    have hd:=ut hu;have wn:Within 1000 ns:=λx hx=>Iu x hx;simp only[Km,Lj,or_false]at hy
    rcases hy with rfl|rfl
    ·exact⟨Ir,hd.l1,hd.l2,wn.mono ∅,hd.e1.mono ∅,hd.e2.mono ∅⟩
    ·exact⟨by show(bK u.1 ns).length=L0;rw[zj ∅];exact Id,hd.l1,hd.l2,xj hd.e0 wn,hd.e1.mono ∅,hd.e2.mono ∅⟩
   ·rw[if_neg (by simp[hv])]
    exact hR _ _ ⟨[u],J,_,rfl,x4,j,B,e4,by simp,λy hy=>by rw[Pn.mp hy];exact Iq,L,O⟩
  clear x4 B j e4 L O;rintro ρ M5 ⟨Iv,Iw,IE,rfl,fv,HY,e5,HZ,Ig,I8,L,O⟩;refine bv (I:=λρ M'=>∃(ss:List Pr) (J:VH) (o8:Option D),ρ=[Z (.ref b),Z (.tup [.int L0,.int L1,.int N,.ref p]),Z (.ref pq),Z (.tup (u.1.map .int)),Z (.tup (u.2.1.map .int)),Z (.tup (u.2.2.map .int)),Z (.int v),Z (.ref J),o8,o9]/\Bx b M M'/\M' p=Z (.lst (ps.map prD))/\M' pq=Z (.lst (qs.map prD))/\M' J=Z (.lst (ss.map prD))/\ss.length<=2/\(∀p∈ss,Dr 2000 L0 L1 N p)/\J≠b/\J≠pq) (λR hR=>?_) ?_
  ·ac_nf
   by_cases hv:v=1
   ·rw[if_pos (by simp[hv])]
    nofun;have Id:u.1.length=L0:=hu.l0;have Ii:u.2.2.length=N:=hu.l2;refine qF ∅ trivial λ_ pt Ie=>?_
    have g6:=Ge.new (o:=.lst ((u.1.map λx=>0-x).map D.int)) Ie;have x6:=fv.ge g6;have B:=g6 _ _ e5;have j:=g6 _ _ HY;have et:=aa (M:=M5) (a:=pt) (o:=.lst ((u.1.map λx=>0-x).map D.int));generalize af M5 pt (.lst ((u.1.map λx=>0-x).map D.int))=M6 at x6 B j et⊢;refine⟨_,_,rfl,ad et,?_⟩;refine qF ∅ trivial λ_ Ij Ik=>?_
    have g7:=Ge.new (o:=.lst ((u.2.2.map λx=>0-x).map D.int)) Ik;have x7:=x6.ge g7;have B:=g7 _ _ B;have j:=g7 _ _ j;have Il:=aa (M:=M6) (a:=Ij) (o:=.lst ((u.2.2.map λx=>0-x).map D.int));generalize af M6 Ij (.lst ((u.2.2.map λx=>0-x).map D.int))=M7 at x7 B j Il⊢;refine⟨_,_,rfl,ad Il,?_⟩;refine⟨by rw[z4];lia,by rw[z4];lia,λp8 G=>?_⟩
    have g8:=Ge.new (o:=.lst ([(u.1.map λx=>0-x,u.2.1,u.2.2.map λx=>0-x)].map prD)) G;refine hR _ _ ⟨[(u.1.map λx=>0-x,u.2.1,u.2.2.map λx=>0-x)],p8,_,rfl,x7.ge g8,g8 _ _ j,g8 _ _ B,aa,by simp,λy hy=>?_,aP x7.box G,λz=>by rw[z,B]at G;cases G⟩
    have hd:=ut hu;rw[Pn.mp hy];exact⟨by simp[Id],hd.l1,by simp[Ii],(A5 hd.e0).mono ∅,hd.e1.mono ∅,(A5 hd.e2).mono ∅⟩
   ·rw[if_neg (by simp[hv])]
    exact hR _ _ ⟨Iv,Iw,_,rfl,fv,HY,e5,HZ,Ig,I8,L,O⟩
  clear fv HY e5 HZ Ig I8 L O;rintro ρ M5 ⟨ss,J,o8,rfl,fv,HY,e5,HZ,Ig,I8,L,O⟩;nofun;refine⟨_,ad HZ,?_⟩;refine aO (f:=prD) (ys:=ss) (I:=λl' ρ M'=>∃(qs':List Pr) (o9:Option D),ρ=[Z (.ref b),Z (.tup [.int L0,.int L1,.int N,.ref p]),Z (.ref pq),Z (.tup (u.1.map .int)),Z (.tup (u.2.1.map .int)),Z (.tup (u.2.2.map .int)),Z (.int v),Z (.ref J),o8,o9]/\Bx b M M'/\M' p=Z (.lst (ps.map prD))/\M' pq=Z (.lst (qs'.map prD))/\M' J=Z (.lst (ss.map prD))/\qs'.length=qs.length+l'.length/\∀p∈qs',Dr 2000 L0 L1 N p) rfl ⟨qs,_,rfl,fv,HY,e5,HZ,rfl,Ic⟩ (λ_ _ _ h=>by obtain⟨_,_,_,_,_,_,e,_⟩:=h;exact ad e) ?_ ?_
  ·rintro l' w r' ρ M6 e' ⟨qs',o9,rfl,x6,Ih,e6,Im,Ix,I9⟩;refine⟨_,rfl,λF' Iy=>?_⟩;have hw:=I8 w (by rw[e'];simp)
   have IC:=ak e';nofun;refine⟨⟨_,e6⟩,im e6 ?_⟩;ac_nf;rw[tv];refine aI ∅ x6.box ∅ ∅ λt M7 t0 t1 x7=>?_
   have e7:=x7.keep _ _ I0 e6;have Iz:=x7.keep _ _ Ia Ih;have IA:=x7.keep _ _ L Im;have x7:=x6.trans x7;refine⟨_,_,_,_,rfl,rfl,e7,t0,by rw[tv];lia,by rw[tv,z4];lia,?_⟩
   have IB:p≠pq:=λz=>by rw[z,U]at ep;cases ep
   refine Iy _ _ ⟨qs'.take t.toNat++w::qs'.drop t.toNat,_,rfl,x7.upd U I0,by rw[al IB];exact Iz,?_,by rw[al O];exact IA,?_,?_⟩
   ·rw[aa,Ld,Ks,List.map_take,List.map_drop]
   ·rw[D2,L4,L3,MP,D2,LJ];lia
   ·intro y hy
    rcases Kz.mp hy with h|h
    ·exact I9 y (NW h)
    ·rcases Km.mp h with rfl|h
     ·exact hw
     ·exact I9 y (NV h)
  ·rintro ρ M6 ⟨qs',o9,rfl,x6,Ih,e6,Im,Ix,I9⟩;dsimp only;rw[kT];exact Ip _ _ ⟨qs',_,_,_,_,_,_,_,rfl,x6,Ih,e6,by rw[D2,LJ];lia,I9⟩
 ·rintro ρ M2 ⟨qs,o3,o4,o5,o6,o7,o8,o9,rfl,x2,Ib,e2,Io,Ic⟩;nofun;refine lB ⟨by rw[z4];lia,?_⟩
  exact⟨.inr trivial,by rw[z4];simp,q qs pq M2 ∅ Ic x2 U e2⟩
theorem xk(hn:6<=n)(hL:Ln L0 L1 N)(Ij:ps≠[])(hc:ps.length<=36)(hF:∀p∈ps,Dr 2000 L0 L1 N p)(hb:Box b M)(Ip:p≠b)(ep:M p=Z (.lst (ps.map prD)))(q:∀(qs:List Pr) p' M',qs.length<=36->(∀p∈qs,Dr 3000 L0 L1 N p)->Bx b M M'->M p'=Y->M' p'=Z (.lst (qs.map prD))->Q (.tup [.int L0,.int L1,.int N,.ref p']) M'):phi tab n 28 [.ref b,.tup [.int L0,.int L1,.int N,.ref p]] M Q:=by
 have h7:=hL.a;have h8:=hL.b;have h9:=hL.c;have Iq:1<=ps.length:=by cases ps with|nil=>exact absurd rfl Ij|cons _ _=>simp
 refine am ∅ rfl rfl (ρ:=[Z _,Z _,Y,Y,Y,Y,Y]) rfl ?_
 unfold d28 L2.Mi.K60.b28;nofun;refine⟨_,rfl,_,_,rfl,ad ep,λpl O=>?_⟩;have g1:=Ge.new (o:=.lst (ps.map prD)) O;have e1:=aa (M:=M) (a:=pl) (o:=.lst (ps.map prD));have x1:=(Bx.refl hb).ge g1;have B:=aP hb O;change wSs _ _ _ _ (af M pl (.lst (ps.map prD)));generalize af M pl (.lst (ps.map prD))=M1 at e1 x1⊢;nofun;refine im e1 ?_;rw[tv];refine aI ∅ x1.box ∅ ∅ λa M2 a0 a1 x2=>?_
 obtain⟨a,rfl⟩:=Lk a0;have ha:a<ps.length:=∅
 have l7:(ps.map prD).length=ps.length:=tv ..;have ez:((a:Int)+1)=((a+1:Nat):Int):=rfl;have e2:=x2.keep _ _ B e1;have x2:=x1.trans x2;clear e1 x1 g1;nofun;refine aI ∅ x2.box (by decide) (by decide) λw M3 _ _ x3=>?_
 have e3:=x3.keep _ _ B e2;have x3:=x2.trans x3;clear e2 x2;ac_nf
 by_cases hw:w=0
 ·rw[if_pos (by simp[hw])]
  nofun;refine lB ⟨_,e3,λp1 h1=>?_⟩;rw[zw ∅,ez]
  have g4:=Ge.new (o:=.lst ((ps.map prD).take a)) h1;have J:=aa (M:=M3) (a:=p1) (o:=.lst ((ps.map prD).take a));have e3:=g4 _ _ e3;have L:=x3.ge g4;generalize af M3 p1 (.lst ((ps.map prD).take a))=M4 at e3 J L⊢;refine⟨_,e3,λp2 h2=>?_⟩;rw[zx ∅]
  have g5:=Ge.new (o:=.lst ((ps.map prD).drop (a+1))) h2;have e5:=aa (M:=M4) (a:=p2) (o:=.lst ((ps.map prD).drop (a+1)));have J:=g5 _ _ J;have U:=L.ge g5;generalize af M4 p2 (.lst ((ps.map prD).drop (a+1)))=M5 at e5 J U⊢;refine⟨_,_,J,e5,by rw[L3,MP,l7,z4];lia,λp6 h6=>?_⟩
  have n6:=U.none h6 (aP U.box h6);refine⟨by rw[z4];lia,.inr trivial,by rw[z4];simp,q (ps.take a++ps.drop (a+1)) p6 _ (by rw[D2,L3,MP];lia) (λy hy=>?_) (U.ge (Ge.new h6)) n6 (by rw[aa,Ld,List.map_take,List.map_drop])⟩
  rcases Kz.mp hy with h|h
  ·exact(hF y (NW h)).mono ∅
  ·exact(hF y (NV h)).mono ∅
 rw[if_neg (by simp[hw])]
 nofun;refine aI ∅ x3.box (by decide) (by decide) λc M4 c0 c1 L=>?_
 obtain⟨c,rfl⟩:=Lk c0;have G:c<3:=∅
 have J:=L.keep _ _ B e3;have L:=x3.trans L;clear e3 x3;obtain⟨u,hu⟩:∃u,ps[a]?=Z u:=⟨_,I7 ha⟩;have hd:=hF u (KU hu);have HY:atI (ps.map prD) ((a:Nat):Int)=Z (prD u):=dJ (by rw[KH,hu];rfl)
 have Io:1<=(pAt u c).length/\(pAt u c).length<=9:=by
  have:=hd.l0;have:=hd.l1;have:=hd.l2
  match c,G with
  |0,_=>show 1<=u.1.length/\u.1.length<=_;lia
  |1,_=>show 1<=u.2.1.length/\u.2.1.length<=_;lia
  |2,_=>show 1<=u.2.2.length/\u.2.2.length<=_;lia
 nofun;refine aA J HY ?_;refine⟨_,_,rfl,DD G,?_⟩;refine⟨_,_,rfl,rfl,λpr F=>?_⟩;have g5:=Ge.new (o:=.lst ((pAt u c).map .int)) F;have pv:=aa (M:=M4) (a:=pr) (o:=.lst ((pAt u c).map .int));have fv:=aP L.box F;have Ik:pl≠pr:=λz=>by rw[<-z,J]at F;cases F
 have nr:=L.none F fv;have e5:=g5 _ _ J;have U:=L.ge g5;change wSs _ _ _ _ (af M4 pr (.lst ((pAt u c).map .int)));generalize af M4 pr (.lst ((pAt u c).map .int))=M5 at pv e5 U⊢;clear J L g5 F;nofun;refine im pv ?_;rw[tv];refine aI ∅ U.box ∅ ∅ λy M6 y0 y1 x6=>?_
 obtain⟨y,rfl⟩:=Lk y0;have hy:y<(pAt u c).length:=∅
 have e6:=x6.keep _ _ B e5;have HZ:=x6.keep _ _ fv pv;have x6:=U.trans x6;clear e5 pv U;have I0:(pAt u c)[y]?=Z ((pAt u c).getD y 0):=by rw[Kv,I7 hy];rfl
 nofun;refine aA HZ (d:=.int ((pAt u c).getD y 0)) (dJ (by rw[KH,I0];rfl)) ?_
 refine⟨by rw[z4];lia,λp5 h5=>?_⟩
 have n5:=aP x6.box h5;have g7:=Ge.new (o:=.lst [.int 1,.int (-1),.int 5]) h5;have x7:=x6.ge g7;have I8:=aa (M:=M6) (a:=p5) (o:=.lst [.int 1,.int (-1),.int 5]);have e7:=g7 _ _ e6;have I9:=g7 _ _ HZ;generalize af M6 p5 (.lst [.int 1,.int (-1),.int 5])=M7 at x7 I8 e7 I9⊢;clear e6 HZ x6 g7;refine aI ∅ x7.box (by decide) (by decide) λv M8 v0 v1 x8=>?_
 have e8:=x8.keep _ _ B e7;have Ib:=x8.keep _ _ fv I9;have Ic:=x8.keep _ _ n5 I8;have x8:=x7.trans x8;clear e7 I9 I8 x7;obtain⟨d,Ir,Il⟩:∃d:Int,(-5<=d/\d<=5)/\atI [D.int 1,.int (-1),.int 5] v=Z (.int d):=by
  have:v=0∨v=1∨v=2:=∅
  rcases this with rfl|rfl|rfl
  ·exact⟨1,by decide,rfl⟩
  ·exact⟨-1,by decide,rfl⟩
  ·exact⟨5,by decide,rfl⟩
 refine aA Ic Il ?_;ac_nf;refine aN Ib (j:=y) (by rw[tv];exact lu hy) ?_
 rw[<-Ow];have Ia:af M8 pr (.lst (((pAt u c).set y ((pAt u c).getD y 0+d)).map .int)) pr=_:=aa;have e9:af M8 pr (.lst (((pAt u c).set y ((pAt u c).getD y 0+d)).map .int)) pl=_:=(al Ik).trans e8;have x9:Bx b M (af M8 pr (.lst (((pAt u c).set y ((pAt u c).getD y 0+d)).map .int))):=x8.upd nr fv;have Id:Within 3000 ((pAt u c).set y ((pAt u c).getD y 0+d)):=λz hz=>by
  have Ie:=hd.at (s:=c)
  rcases R3 hz with h|h
  ·have:=Ie z h;lia
  ·have:=Ie _ (KU I0);lia
 have Ig:((pAt u c).set y ((pAt u c).getD y 0+d)).length=(pAt u c).length:=Ox;generalize (pAt u c).set y ((pAt u c).getD y 0+d)=m at Ia e9 x9 Id Ig⊢;generalize af M8 pr (.lst (m.map .int))=M9 at Ia e9 x9⊢;clear e8 Ib Ic x8 I0;nofun;refine aA e9 HY ?_;refine BE G ?_;refine⟨_,_,rfl,ad Ia,by rw[z4];lia,.inr trivial,by rw[z4,L3,se,LJ];lia,?_⟩
 refine aA e9 HY ?_;refine BG G ⟨.inr trivial,by rw[z4,D2,L3,MP,se,LJ];lia,?_⟩
 rw[BH G];refine aN e9 (j:=a) (by rw[tv];exact lu ha) ?_
 have Ih:Bx b M (af M9 pl (.lst ((ps.map prD).set a (prD (jg u m c))))):=x9.upd O B;have Ii:af M9 pl (.lst ((ps.map prD).set a (prD (jg u m c)))) pl=Z (.lst ((ps.set a (jg u m c)).map prD)):=by rw[aa,Ow]
 generalize af M9 pl (.lst ((ps.map prD).set a (prD (jg u m c))))=Im at Ih Ii⊢;nofun;refine lB ⟨by rw[z4];lia,.inr trivial,by rw[z4];simp,q (ps.set a (jg u m c)) pl Im (by rw[Ox];exact hc) (λz hz=>?_) Ih O Ii⟩
 rcases R3 hz with h|h
 ·exact(hF z h).mono ∅
 ·rw[h];exact(hd.mono ∅).set Ig Id
theorem DP{B:List Int}{a a' b':VH}(G:M a=Z (.lst (A.map .int)))(hb:M b=Z (.lst (B.map .int)))(j:M a'=Z (.lst (A.map .int)))(z:M b'=Z (.lst (B.map .int)))(q:Q (.bl N3) M):wNe (.tup [.ref a,.ref b]) (.tup [.ref a',.ref b']) M Q:=by
 have r:∀{x:VH} {X:List Int},M x=Z (.lst (X.map .int))->rb 15 M (.ref x)=Z (.list (X.map .int)):=λh=>by rw[ci h,cL];rfl
 have F:∀{x y:VH},M x=Z (.lst (A.map .int))->M y=Z (.lst (B.map .int))->rb 16 M (.tup [.ref x,.ref y])=Z (.tuple [.list (A.map .int),.list (B.map .int)]):=λh1 h2=>by show(aQ (rb 15 M) [.ref _,.ref _]).map TN=_;simp only[aQ,r h1,r h2];simp
 refine⟨_,_,F G hb,F j z,?_⟩;rw[show Lw (.tuple [.list (A.map .int),.list (B.map .int)]) (.tuple [.list (A.map .int),.list (B.map .int)])=F2 by simp[Lw,Lx,nU]]
 exact q
theorem nW{x y:Bool}(q:Q (.bl (x != y)) M):wNe (.bl x) (.bl y) M Q:=by
 refine⟨.bool x,.bool y,rfl,rfl,?_⟩
 cases x<;>cases y<;>exact q
theorem DQ{a:VH}(j:M a=Z (.lst (ps.map prD)))(hb:M b=Z (.lst []))(q:Q (.bl (!decide (ps=[]))) M):wNe (.ref a) (.ref b) M Q:=by
 refine⟨_,.list [],EZ j,by rw[ci hb];rfl,?_⟩
 cases ps with
 |nil=>simpa[Lw,Lx]using q
 |cons x r=>simpa[Lw,Lx]using q
structure Rq(b:VH)(L0 L1 N:Nat)(ps:List Pr)(ts us:List Tm)(p r:VH)(M:Mem):Prop where
 hL:Ln L0 L1 N
 hc:ps.length<=36
 hF:∀p∈ps,Dr 3000 L0 L1 N p
 hT:IsTask ts us
 hl:us.length<=1000
 hU:InB us L0 L1 N
 box:Box b M
 pb:p≠b
 rb:r≠b
 ep:M p=Z (.lst (ps.map prD))
 er:M r=Z (.lst (us.map tmD))
theorem qG(hn:8<=n)(h:Rq b L0 L1 N ps ts us p r M)(q:∀M',Bx b M M'->Q (.bl F2) M'):
 phi tab n 31 [.ref b,.tup [.int L0,.int L1,.int N,.ref p],.tup [.int L0,.int L1,.int N,.ref r]] M Q:=by
 have hL:=h.hL;have h7:=hL.a;have h8:=hL.b;have h9:=hL.c;have hF:∀p∈ps,Pf L0 L1 N p:=λp hp=>dpf ∅ (h.hF p hp)
 have hc:=h.hc;have hl:=h.hl;have hU:=h.hU;refine am ∅ rfl rfl (ρ:=[Z _,Z _,Z _,Y,Y,Y,Y,Y,Y,Y]) rfl ?_
 unfold d31 L2.Mi.K60.b31;have eqT:∀{ts' rs:List Tm},IsTask ts' rs->(∀k i j,cf ts' (k,i,j)=Tn ps k i j)->(rs=us↔∀i j,¬Dif ps us i j):=λ{ts' rs} t1 t2=>by
  constructor
  ·rintro rfl i j ⟨k,hk⟩;exact hk (by rw[<-t2,t1.cf])
  ·intro hd;refine t1.uniq h.hT λk=>?_;obtain⟨k,i,j⟩:=k;have:Tn ps k i j=cf us (k,i,j):=R0 λz=>hd i j ⟨k,z⟩;rw[t2,this,h.hT.cf]
 have dsz:∀{m:Nat} {F:Mem} {R:QD},4<=m->Ge M F->(∀O z,Ge F O->(z=F2↔∀i j,¬Dif ps us i j)->R (.bl z) O)->phi tab m 10 [.tup [.int L0,.int L1,.int N,.ref p],.tup [.int L0,.int L1,.int N,.ref r]] F R:=λ{m F R} hm g hh=>by
  refine BN hm hL (g _ _ h.ep) (g _ _ h.er) ∅ hF λts' rs O t1 t2 U=>hh _ _ U ?_
  rw[decide_eq_true_iff];simp only[true_and];exact eqT t1 t2
 have same:∀{m:Nat} {F:Mem} {R:QD} {x y:D} {A B:List Int} {mb:Nat},3<=m->mb<=20000->F p=Z (.lst (ps.map prD))->F r=Z (.lst (us.map tmD))->ax F x=Z (A.map .int)->ax F y=Z (B.map .int)->A.length=L0->B.length=L1->Bt mb A->Bt mb B->(∀O,Ge F O->R (.bl (decide (bM A B N ps=val us A B N))) O)->
  phi tab m 6 [.tup [.int L0,.int L1,.int N,.ref p],x,y] F (λu O=>phi tab m 1 [.tup [.int L0,.int L1,.int N,.ref r],x,y] O (λv M5=>wEq u v M5 R)):=λ{m F R x y A B mb} hm hmb h1 h2 hx hy la lb ba bb hh=>by
  refine iJ ∅ hL hmb hF h1 hx hy ba bb λO pu U n4 e4=>?_
  refine xf ∅ (U _ _ h2) (cv hx U) (cv hy U) ∅ (by rw[la,lb];exact hU) hmb ba bb λpv M5 pv n5 e5=>?_
  exact zp (pv _ _ e4) e5 (hh _ (U.trans pv))
 let A:Prop:=∀i j,¬Dif ps us i j
 refine bv (I:=λρ M'=>∃fv:D,ρ=[Z (.ref b),Z (.tup [.int L0,.int L1,.int N,.ref p]),Z (.tup [.int L0,.int L1,.int N,.ref r]),Z fv,Y,Y,Y,Y,Y,Y]/\Ge M M'/\((fv=.non/\A)∨∃(i j:Nat) (a b:VH),fv=.tup [.ref a,.ref b]/\Lp ps us i j/\M' a=Z (.lst ((one L0 (i:Nat)).map .int))/\M' b=Z (.lst ((one L1 (j:Nat)).map .int)))) (λR hR=>?_) ?_
 ·ac_nf;exact zq ∅ hL h.ep h.er hF hU (λM1 g1 G=>hR _ _ ⟨_,rfl,g1,.inl ⟨rfl,G⟩⟩) λi j a b M1 hi hj lp g1 _ _ _ e1 e2=>hR _ _ ⟨_,rfl,g1,.inr ⟨i,j,a,b,rfl,lp,e1,e2⟩⟩
 rintro ρ M1 ⟨fv,rfl,g1,HZ⟩;have hx:(fv=.non/\A)∨(∃a b,fv=.tup [.ref a,.ref b])/\¬A:=by
  rcases HZ with z|⟨i,j,a,b,rfl,lp,_⟩
  ·exact .inl z
  ·exact .inr ⟨⟨a,b,rfl⟩,λG=>G _ _ lp.at'⟩
 nofun;refine dsz ∅ g1 λM2 z g2 hz=>?_
 refine bv (I:=λρ M'=>ρ=[Z (.ref b),Z (.tup [.int L0,.int L1,.int N,.ref p]),Z (.tup [.int L0,.int L1,.int N,.ref r]),Z fv,Z (.bl z),Y,Y,Y,Y,Y]/\Ge M M') (λR hR=>?_) ?_
 ·ac_nf;refine⟨_,rfl,_,rfl,?_⟩;rw[if_neg (by simp[tt])]
  have J:=g1.trans g2
  rcases HZ with⟨rfl,G⟩|⟨i,j,a,b',rfl,lp,ea,eb⟩
  ·have hz:=hz.mpr G;subst hz;refine⟨F2,rfl,nW ⟨_,rfl,?_⟩⟩;rw[if_neg (by decide)]
   refine qu ∅ hL (J _ _ h.ep) (J _ _ h.er) ∅ ∅ hF hU (λF g3 _=>?_) λi j a b F hi hj HY _ _ _ _ _ _=>absurd HY.at' (G _ _)
   refine⟨.none,.none,rfl,rfl,_,rfl,?_⟩;rw[if_neg (by decide)]
   exact hR _ _ ⟨rfl,J.trans g3⟩
  ·have G:¬A:=λG=>G _ _ lp.at';have hz:z=N3:=by cases z with|false=>rfl|true=>exact absurd (hz.mp rfl) G
   subst hz;refine⟨N3,rfl,nW ⟨_,rfl,?_⟩⟩;rw[if_neg (by decide)]
   refine qu ∅ hL (J _ _ h.ep) (J _ _ h.er) ∅ ∅ hF hU (λF g3 I0=>?_) λi' j' a1 b1 F hi hj HY g3 _ _ _ e1 e2=>?_
   ·obtain⟨k,hk⟩:=lp.at';exact absurd (I0 _ _ _) hk
   ·obtain⟨ei,ej⟩:=lp.uniq HY;have ei:i=i':=by lia
    have ej:j=j':=∅
    subst ei ej;refine DP e1 e2 ((g2.trans g3) _ _ ea) ((g2.trans g3) _ _ eb) ⟨_,rfl,?_⟩;rw[if_neg (by decide)]
    exact hR _ _ ⟨rfl,J.trans g3⟩
 ·rintro ρ F ⟨rfl,g3⟩;nofun;refine⟨_,rfl,?_⟩;clear hz g2;have g0:=g3;refine mZ ∅ (t:=1) ∅ ∅ λpa O U n4 e4=>?_
  nofun;refine⟨_,rfl,?_⟩;refine mZ ∅ (t:=10) ∅ ∅ λpb M5 pv n5 e5=>?_
  nofun;have e4:=pv _ _ e4;refine same ∅ (mb:=11000) ∅ (((g0.trans U).trans pv) _ _ h.ep) (((g0.trans U).trans pv) _ _ h.er) (ad e4) (ad e5) eB eB (A3 ∅ ∅) (A3 ∅ ∅) λM6 g6=>?_
  have I8:=BQ hL hF ∅ h.hT.nodup hU
  have gg:=((g0.trans U).trans pv).trans g6
  rcases hx with⟨rfl,G⟩|⟨⟨a,b',rfl⟩,G⟩
  ·rw[decide_eq_true (I8.mpr G)];nofun;refine⟨F2,rfl,nW ⟨_,rfl,?_⟩⟩;rw[if_neg (by decide)]
   nofun;refine⟨F2,rfl,_,rfl,?_⟩;rw[if_pos rfl];have x6:=(Bx.refl h.box).ge gg;nofun;refine⟨_,rfl,?_⟩;refine sj (n:=n-1) ∅ (L:=L0) ∅ x6.box λns p1 M7 I9 Ie x7 n7 e7=>?_
   refine⟨_,rfl,?_⟩;refine sj (n:=n-1) ∅ (L:=L1) ∅ x7.box λIi p2 M8 Ia Ig x8 n8 e8=>?_
   have e7:=x8.keep _ _ (aP x6.box n7) e7;have x8:=x6.trans (x7.trans x8);have Ib:=x8.keep _ _ h.pb h.ep;have Ic:=x8.keep _ _ h.rb h.er;nofun;refine same ∅ (mb:=40) ∅ Ib Ic (ad e7) (ad e8) I9 Ia (qB Ie) (qB Ig) λM9 g9=>?_
   rw[decide_eq_true (sn hL hF hU G I9 Ia)];refine⟨F2,rfl,?_⟩;rw[if_pos rfl];refine kr ∅ hL (g9 _ _ Ib) ∅ hF λts' rs p3 Ij t1 t2 Id Ik Ih=>?_
   refine⟨_,_,io Ih,io (Id _ _ (g9 _ _ Ic)),?_⟩;have er:=(eqT t1 t2).mpr G;subst er;have ev:Lw (.tuple [.int L0,.int L1,.int N,.list (rs.map de)]) (.tuple [.int L0,.int L1,.int N,.list (rs.map de)])=F2:=by simp[Lw,Lx,ls]
   rw[ev];exact q _ ((x8.ge g9).ge Id)
  ·rw[decide_eq_false (λz=>G (I8.mp z))];nofun;refine⟨N3,rfl,nW ⟨_,rfl,?_⟩⟩;rw[if_neg (by decide)]
   nofun;refine⟨N3,rfl,_,rfl,?_⟩;rw[if_neg (by decide)]
   nofun;exact q _ ((Bx.refl h.box).ge gg)
theorem law_holds(ns:List Int)(hl:ns.length<=63):phi tab 40 32 [.con (ns.map D.int)] (λ_=>Y) λd _=>d=.bl F2:=by
 refine am ∅ rfl rfl (ρ:=[Z _,Y,Y,Y,Y]) rfl ?_
 unfold d32 L2.Mi.K60.b32;nofun;rw[tv];refine⟨by split<;>lia,by split<;>lia,?_⟩
 refine aO (I:=λl ρ M'=>∃L O U pv,ρ=[Z (.con (ns.map D.int)),L,O,U,pv]) ay ⟨_,_,_,_,rfl⟩ (λ_ _ _ hI=>trivial) ?_ ?_
 ·rintro l k r ρ M8 e ⟨L,O,U,pv,rfl⟩;refine⟨_,rfl,λF hF=>?_⟩;nofun;refine Dz (s:=ai 25) (fc:=18) (fm:=19) (sc:=ai 23) rfl rfl (si ∅) ∅ ∅ λb x y Ib=>?_
  nofun;refine BV ∅ ⟨_,_,_,aa⟩ λL0 L1 N ps ts us p r M1 j=>?_
  refine⟨_,rfl,?_⟩;nofun;refine DO ∅ j.hL j.hc j.hF j.box j.pb j.ep λqs p2 M2 z B x2 n2 e2=>?_
  have G:=x2.keep _ _ j.rb j.er;have q:=aP j.box n2;nofun;refine qG ∅ ⟨j.hL,z,λp hp=>(B p hp).mono ∅,j.hT,j.hl,j.hU,x2.box,q,j.rb,e2,G⟩ λM3 fv=>?_
  have HY:=fv.keep _ _ j.rb G;have e3:=fv.keep _ _ q e2;refine⟨_,rfl,?_⟩;rw[if_neg (by decide)]
  nofun;refine⟨_,rfl,by rw[z4];lia,λpz HZ=>?_⟩
  have gz:=Ge.new (o:=.lst []) HZ;have x4:=fv.ge gz;have e4:=gz _ _ e3;have J:=gz _ _ HY;refine DQ e4 aa ⟨_,rfl,?_⟩;generalize af M3 pz (.lst [])=M4 at x4 e4 J⊢
  by_cases hq0:qs=[]
  ·rw[if_neg (by simp[hq0])]
   exact hF _ _ ⟨_,_,_,_,rfl⟩
  rw[if_pos (by simp[hq0])]
  refine xk ∅ j.hL hq0 z B x4.box q e4 λvs p5 M5 I0 I8 x5 n5 e5=>?_
  have I9:=x5.keep _ _ j.rb J;have Ia:=aP x4.box n5;refine qG ∅ ⟨j.hL,I0,I8,j.hT,j.hl,j.hU,x5.box,Ia,j.rb,e5,I9⟩ λM6 x6=>?_
  refine⟨_,rfl,?_⟩;rw[if_neg (by decide)]
  exact hF _ _ ⟨_,_,_,_,rfl⟩
 ·rintro ρ M8 ⟨L,O,U,pv,rfl⟩;dsimp only;nofun
end K60
end
end
end Mi
end L2
end
namespace PySem.W.Fast
theorem tw1651888280251325422:True:=trivial
theorem tw11752749528934712603:True:=trivial
theorem tw14360334410519174687:True:=trivial
theorem tw2077639366711569674:True:=trivial
theorem tw419276068906274013:True:=trivial
theorem tw4337727572728825440:True:=trivial
theorem tw18065752277060744392:True:=trivial
theorem tw2356039046559889865:True:=trivial
theorem tw2820388323021021017:True:=trivial
theorem tw1832962811207347810:True:=trivial
theorem tw7966494356282711471:True:=trivial
theorem tw16672283306188161645:True:=trivial
theorem tw2121175352481528872:True:=trivial
theorem tw15480855639018346476:True:=trivial
theorem tw1540422463813702807:True:=trivial
theorem tw16354505465189317714:True:=trivial
theorem tw14323108848526964582:True:=trivial
theorem tw1781473629753344233:True:=trivial
theorem tw13792706213286432161:True:=trivial
theorem tw8260655906510430749:True:=trivial
theorem tw13872223629949060268:True:=trivial
theorem tw17149048315554944469:True:=trivial
theorem tw11482745212806041824:True:=trivial
theorem tw11802063717597233968:True:=trivial
theorem tw4426679670220179217:True:=trivial
theorem tw12857167167960857758:True:=trivial
theorem tw15110995664042670592:True:=trivial
theorem tw13687860877828912247:True:=trivial
theorem tw11087644697548471939:True:=trivial
theorem tw16358663189258874768:True:=trivial
theorem tw9700106401676922675:True:=trivial
theorem tw16098101051456695337:True:=trivial
theorem tw9986941565060258826:True:=trivial
theorem tw14340554821504982245:True:=trivial
theorem tw16307063288709223051:True:=trivial
theorem tw12875296021812382722:True:=trivial
theorem tw9232675708170373808:True:=trivial
theorem tw17619354414790184915:True:=trivial
theorem tw3467717670138930529:True:=trivial
theorem tw7460589659832167296:True:=trivial
theorem tw8162155136346753896:True:=trivial
theorem tw2137239926103282908:True:=trivial
theorem tw16801656251669026220:True:=trivial
theorem tw14557718714325820468:True:=trivial
theorem tw4158226153012038178:True:=trivial
theorem tw13666114687681860941:True:=trivial
theorem tw17197431684970335842:True:=trivial
theorem tw12392061093442508823:True:=trivial
theorem tw9624024006475444098:True:=trivial
theorem tw3750406719640522712:True:=trivial
theorem tw5831114540912841843:True:=trivial
theorem tw1290681209505565190:True:=trivial
theorem tw10208938372787897027:True:=trivial
theorem tw1229343095115727234:True:=trivial
theorem tw13208158108996222284:True:=trivial
theorem tw12350470922643228064:True:=trivial
theorem tw4715742707846856623:True:=trivial
theorem tw5027369873023342762:True:=trivial
theorem tw10410224195211328619:True:=trivial
theorem tw7170914611336361936:True:=trivial
theorem tw853898360233473440:True:=trivial
theorem tw5081578993679582662:True:=trivial
theorem tw4547678963920012835:True:=trivial
theorem tw13691239035770634343:True:=trivial
theorem tw7350609011864590492:True:=trivial
theorem tw12052403210344054290:True:=trivial
theorem tw13418483088869346087:True:=trivial
theorem tw6738077803541261964:True:=trivial
theorem tw17974410725799906667:True:=trivial
theorem tw14861212925528819146:True:=trivial
theorem tw13561465731239503048:True:=trivial
theorem tw9058300297754403414:True:=trivial
theorem tw6170741780311173077:True:=trivial
theorem tw11744092086971871923:True:=trivial
theorem tw13772248074694021098:True:=trivial
theorem tw13840181083459908856:True:=trivial
theorem tw12622615225165438032:True:=trivial
theorem tw5898752396593000878:True:=trivial
theorem tw16628099114885703159:True:=trivial
theorem tw14926058584774367670:True:=trivial
theorem tw12798631911431269795:True:=trivial
theorem tw10559054891661075794:True:=trivial
end PySem.W.Fast
open PySem.W in
set_option maxRecDepth 100000 in
set_option maxHeartbeats 0 in
theorem PySem.Challenge.cw_fewtimes_k60_whole_does_beside_all_rows_holds : PySem.Challenge.rw_fewtimes_k60_whole_does_beside_all_rows.Holds := by
 w_on;o_law;k_head;(case hw=>w_witness2)
 k_fill
 refine L2.Mi.K60.walk (l:=PySem.Challenge.rw_fewtimes_k60_whole_does_beside_all_rows) rfl rfl L2.Mi.K60.law_holds (fun w h Y=>PySem.W.kIn_of Y) ?F
 case F =>
  intro w mg fa h KX G hmg;refine' L2.Mi.K60.all_mk KX G hmg ?z ?_ ?_ ?_ ?_ ?_ ?_ ?_ ?_ ?_ ?_ ?_ ?_ ?_ ?_ ?_ ?_ ?_ ?_ ?_ ?_ ?_ ?_ ?_ ?_ ?_ ?_ ?_ ?_ ?_ ?_ ?_ ?_ ?_ ?_ ?_ ?_ ?_ ?_ ?_ ?_ ?_ ?_ ?_ ?_ ?_ ?_ ?_ ?_ ?_ ?_ ?_ ?_ ?_ ?_ ?_ ?_ ?_ ?_ ?_ ?_ ?_ ?_ ?_ ?_ ?_ ?_ ?_ ?_ ?_ ?_ ?_ ?_ ?_ ?_ ?_ ?_ ?_ ?_ ?_ ?_ ?_ ?_ ?_ ?_ ?_ ?_ ?_ ?_ ?_ ?_ ?_ ?_ ?_ ?_ ?_ ?_ ?_ ?_ ?_ ?_ ?_ ?_ ?_ ?_ ?_ ?_ ?_ ?_ ?_ ?_ ?_ ?_ ?_ ?_ ?_ ?_ ?_ ?_ ?_ ?_ ?_ ?_ ?_ ?_ ?_ ?_ ?_ ?_ ?_ ?_ ?_ ?_ ?_ ?_ ?_ ?_ ?_ ?_ ?_ ?_ ?_ ?_ ?_ ?_ ?_ ?_ ?_ ?_ ?_ ?_ ?_ ?_ ?_ ?_ ?_ ?_ ?_ ?_ ?_ ?_ ?_ ?_
  case z =>
   intro x hx;simp only [L2.Mi.bltNames,List.mem_cons,List.not_mem_nil,or_false] at hx
   rcases hx with rfl | rfl | rfl | rfl | rfl | rfl | rfl | rfl | rfl | rfl | rfl | rfl | rfl | rfl | rfl | rfl | rfl | rfl | rfl | rfl <;> k_is
  all_goals try (show _=_;k_is)
